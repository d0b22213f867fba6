/- The walks of package word's Load, Reckon, Holds. -/
import Derived.Test.YthbcfepbkkbjiaaE3
namespace Go.Proofs.Ythbcfepbkkbjiaa
open Go.RowKit

/-- the sizes that are read -/
def Siz (s : Nat) : Prop := s = 0 ∨ s = 1 ∨ s = 2 ∨ s = 4

theorem load_any (b off n c s : Nat) (g : Nat → Int) (w : World) (hs : Siz s) (hn : s ≤ n) (hc : n ≤ c) (hg : Oct g) (h : Row w .u8 b off n g) :
    Calls Try.prog 45 #[.slice (some ⟨b, off, none⟩) n c, .int .i64 s] w fun e w' => e = .returned (.int .u32 (be g 0 s)) ∧ w' = w := by
  rcases hs with rfl | rfl | rfl | rfl
  · exact load0 _ w
  · have := load1 b off n c g w hn hg h
    rw [be_one]; exact this
  · exact load2 b off n c g w hn hc hg h
  · exact load4 b off n c g w hn hc hg h

theorem load_part (b off n c m s p : Nat) (g : Nat → Int) (X : Int) (w : World) (hs : Siz s) (hp : p + m ≤ n) (hn : s ≤ m) (hc : m ≤ c) (hg : Oct g) (h : Row w .u8 b off n g) (hX : X = be g p s) :
    Calls Try.prog 45 #[.slice (some ⟨b, off + p, none⟩) m c, .int .i64 s] w fun e w' => e = .returned (.int .u32 X) ∧ w' = w := by
  have := load_any b (off + p) m c s (fun j => g (p + j)) w hs hn hc (fun j => hg _) (h.part hp)
  rw [be_shift] at this
  rw [hX]; exact this

set_option maxRecDepth 100000 in
set_option maxHeartbeats 400000 in
theorem Load_no (ao : Option Addr) (n c p s : Nat) (w : World) (hm : n ≤ maxLen) (hp : p ≤ 4611686018427387904) (hs : s ≤ 4) (h : n < p + s) :
    Calls Try.prog 37 #[.slice ao n c, .int .i64 p, .int .i64 s] w fun e w' => e = .returned (.tuple #[.int .u32 0, .bool false]) ∧ w' = w := by
  unfold maxLen at hm
  go_enter Try.func37, Try.ntmps37
  go_wp2
  go_ret2
  exact ⟨rfl, rfl⟩

set_option maxRecDepth 100000 in
set_option maxHeartbeats 400000 in
theorem Load_ok (b off n c p s : Nat) (g : Nat → Int) (X : Int) (w : World) (hs : Siz s) (hm : n ≤ maxLen) (hc : n ≤ c) (h : p + s ≤ n) (hg : Oct g) (hR : Row w .u8 b off n g) (hX : X = be g p s) :
    Calls Try.prog 37 #[.slice (some ⟨b, off, none⟩) n c, .int .i64 p, .int .i64 s] w fun e w' => e = .returned (.tuple #[.int .u32 X, .bool true]) ∧ w' = w := by
  unfold maxLen at hm
  have hs4 : s ≤ 4 := by unfold Siz at hs; omega
  by_cases hcp : c = p
  · have h0 : s = 0 := by omega
    subst h0
    have hX0 : X = 0 := hX
    have hs' : Hid (Siz 0) := hs
    subst hX0
    clear hX hs hR hg hs4
    go_enter Try.func37, Try.ntmps37
    go_wp2_with (go_at_call 45; refine (load0 _ _).mono ?_; rintro e w1 ⟨rfl, rfl⟩)
    go_ret2
    exact ⟨rfl, rfl⟩
  · go_enter Try.func37, Try.ntmps37
    go_wp2_with (go_at_call 45; refine (load_part b off n _ _ s p g X _ hs ?_ ?_ ?_ hg hR hX).mono ?_; omega; omega; omega; rintro e w1 ⟨rfl, rfl⟩)
    go_ret2
    exact ⟨by rw [hX]; rfl, rfl⟩

set_option maxRecDepth 100000 in
set_option maxHeartbeats 400000 in
theorem Reckon_any (o x y : Int) (w : World) (ho : 0 ≤ o ∧ o ≤ 9) (hx : U32 x) (hy : U32 y) :
    Calls Try.prog 42 #[.int .i64 o, .int .u32 x, .int .u32 y] w fun e w' => e = .returned (.tuple #[.int .u32 (opr o x y), .bool (!div0 o y)]) ∧ w' = w := by
  by_cases hy0 : y = 0
  · subst hy0
    by_cases h3 : o = 3
    · subst h3
      go_enter Try.func42, Try.ntmps42
      go_wp2
      go_ret2
      exact ⟨rfl, rfl⟩
    · by_cases h4 : o = 4
      · subst h4
        go_enter Try.func42, Try.ntmps42
        go_wp2
        go_ret2
        exact ⟨rfl, rfl⟩
      · have t3 : (o == 3) = false := by simp [h3]
        have t4 : (o == 4) = false := by simp [h4]
        have D : div0 o 0 = false := by simp [div0, h3, h4]
        go_enter Try.func42, Try.ntmps42
        go_wp2_with (go_at_call 46; refine (reckon_any o x 0 _ ho hx hy D).mono ?_; rintro e w1 ⟨rfl, rfl⟩)
        go_ret2
        exact ⟨by unfold opr; rw [D]; rfl, rfl⟩
  · have t0 : (y == 0) = false := by simp [hy0]
    have D : div0 o y = false := by simp [div0, hy0]
    go_enter Try.func42, Try.ntmps42
    go_wp2_with (go_at_call 46; refine (reckon_any o x y _ ho hx hy D).mono ?_; rintro e w1 ⟨rfl, rfl⟩)
    go_ret2
    exact ⟨by unfold opr; rw [D]; rfl, rfl⟩

set_option maxRecDepth 100000 in
set_option maxHeartbeats 400000 in
theorem Holds_any (o x y : Int) (w : World) (ho : 0 ≤ o ∧ o ≤ 3) :
    Calls Try.prog 43 #[.int .i64 o, .int .u32 x, .int .u32 y] w fun e w' => e = .returned (.bool (askv o x y)) ∧ w' = w := by
  have ho' : o = 0 ∨ o = 1 ∨ o = 2 ∨ o = 3 := by omega
  rcases ho' with rfl | rfl | rfl | rfl
  all_goals
    clear ho
    go_enter Try.func43, Try.ntmps43
    go_wp2
    go_ret
    exact ⟨rfl, rfl⟩

end Go.Proofs.Ythbcfepbkkbjiaa
