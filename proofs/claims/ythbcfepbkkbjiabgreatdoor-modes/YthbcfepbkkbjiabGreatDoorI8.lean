import Derived.Test.YthbcfepbkkbjiabGreatDoorRows
import Derived.Test.YthbcfepbkkbjiabGreatDoorI1
import Derived.Test.YthbcfepbkkbjiabGreatDoorI2
namespace Go.Proofs.YthbcfepbkkbjiabGreatDoor
open Go.RowKit
theorem be_one (g : Nat → Int) (o : Nat) : be g o 1 = g o := by simp [be]
set_option maxRecDepth 100000 in
set_option maxHeartbeats 400000 in
theorem load0 (v : Value) (w : World) : Calls Tryz.prog 78 #[v, .int .i64 0] w fun e w' => e = .returned (.int .u32 0) ∧ w' = w := by
  go_enter Tryz.func78, Tryz.ntmps78
  go_wp2
  go_ret
  exact ⟨rfl, rfl⟩
set_option maxRecDepth 100000 in
set_option maxHeartbeats 400000 in
theorem load1 (b off n c : Nat) (g : Nat → Int) (w : World) (hn : 1 ≤ n) (hg : Oct g) (h : Row w .u8 b off n g) :
    Calls Tryz.prog 78 #[.slice (some ⟨b, off, none⟩) n c, .int .i64 1] w fun e w' => e = .returned (.int .u32 (g 0)) ∧ w' = w := by
  have hc := h 0 (by omega)
  rw [Nat.add_zero] at hc
  have hb := hg 0
  have B : bits .or .u32 0 (g 0) = g 0 := by
    have := shl8_or (x := 0) (by omega) (by omega) hb.1 (by omega)
    simpa using this
  go_enter Tryz.func78, Tryz.ntmps78
  go_wp2
  go_ret
  exact ⟨rfl, rfl⟩
theorem be_two (g : Nat → Int) : be g 0 2 = g 0 * 256 + g 1 := by simp [be]; omega
theorem be_four (g : Nat → Int) : be g 0 4 = ((g 0 * 256 + g 1) * 256 + g 2) * 256 + g 3 := by simp [be]; omega
set_option maxRecDepth 100000 in
set_option maxHeartbeats 400000 in
theorem load2 (b off n c : Nat) (g : Nat → Int) (w : World) (hn : 2 ≤ n) (hc : n ≤ c) (hg : Oct g) (h : Row w .u8 b off n g) :
    Calls Tryz.prog 78 #[.slice (some ⟨b, off, none⟩) n c, .int .i64 2] w fun e w' => e = .returned (.int .u32 (be g 0 2)) ∧ w' = w := by
  have h1 := h 1 (by omega)
  have b0 := hg 0
  have b1 := hg 1
  have B0 : bits .or .u32 0 (g 0) = g 0 := by
    have := shl8_or (x := 0) (by omega) (by omega) b0.1 (by omega)
    simpa using this
  have B1 := shl8_or (x := g 0) (b := g 1) (by omega) (by omega) b1.1 (by omega)
  go_enter Tryz.func78, Tryz.ntmps78
  go_wp2_with (go_at_call 78; refine (load1 b off n c g _ (by omega) hg h).mono ?_; rintro e w1 ⟨rfl, rfl⟩)
  go_ret
  exact ⟨by rw [be_two]; rfl, rfl⟩
theorem load2x (b off n c : Nat) (g : Nat → Int) (X : Int) (w : World) (hn : 2 ≤ n) (hc : n ≤ c) (hg : Oct g) (h : Row w .u8 b off n g) (hX : X = be g 0 2) :
    Calls Tryz.prog 78 #[.slice (some ⟨b, off, none⟩) n c, .int .i64 2] w fun e w' => e = .returned (.int .u32 X) ∧ w' = w := by
  rw [hX]; exact load2 b off n c g w hn hc hg h
set_option maxRecDepth 100000 in
set_option maxHeartbeats 400000 in
theorem load4 (b off n c : Nat) (g : Nat → Int) (w : World) (hn : 4 ≤ n) (hc : n ≤ c) (hg : Oct g) (h : Row w .u8 b off n g) :
    Calls Tryz.prog 78 #[.slice (some ⟨b, off, none⟩) n c, .int .i64 4] w fun e w' => e = .returned (.int .u32 (be g 0 4)) ∧ w' = w := by
  have h2 : Row w .u8 b (off + 2) (n - 2) (fun j => g (2 + j)) := h.part (by omega)
  have h3 := h 3 (by omega)
  have b0 := hg 0
  have b1 := hg 1
  have b2 := hg 2
  have b3 := hg 3
  obtain ⟨X, hX⟩ : ∃ X, X = be g 0 2 := ⟨_, rfl⟩
  have HX : Hid (X = be g 0 2) := hX
  have x0 : 0 ≤ X ∧ X ≤ 65535 := by rw [be_two] at hX; omega
  have B1 := shl8_or (x := X) (b := g 2) (by omega) (by omega) b2.1 (by omega)
  have B2 := shl8_or (x := X * 256 + g 2) (b := g 3) (by omega) (by omega) b3.1 (by omega)
  clear hX b0 b1
  go_enter Tryz.func78, Tryz.ntmps78
  go_wp2_with (go_at_call 78; refine (load2x b off n c g X _ (by omega) hc hg h HX.out).mono ?_; rintro e w1 ⟨rfl, rfl⟩; go_wp2_with (go_at_call 78; refine (load1 b (off + 2) (n - 2) _ (fun j => g (2 + j)) _ (by omega) (fun j => hg _) h2).mono ?_; rintro e w2 ⟨rfl, rfl⟩))
  go_ret
  exact ⟨by rw [be_four, ← be_two, ← HX.out]; rfl, rfl⟩
set_option maxRecDepth 100000 in
set_option maxHeartbeats 400000 in
theorem reckon_any (o x y : Int) (w : World) (ho : 0 ≤ o ∧ o ≤ 9) (hx : U32 x) (hy : U32 y) (h0 : div0 o y = false) :
    Calls Tryz.prog 79 #[.int .i64 o, .int .u32 x, .int .u32 y] w fun e w' => e = .returned (.int .u32 (opv o x y)) ∧ w' = w := by
  obtain ⟨x0, x1⟩ := hx
  obtain ⟨y0, y1⟩ := hy
  have Y : o = 3 ∨ o = 4 → ¬ y = 0 := fun h e => by
    have := (div0_iff o y).2 ⟨h, e⟩
    rw [this] at h0; cases h0
  have ho' : o = 0 ∨ o = 1 ∨ o = 2 ∨ o = 3 ∨ o = 4 ∨ o = 5 ∨ o = 6 ∨ o = 7 ∨ o = 8 ∨ o = 9 := by omega
  rcases ho' with rfl | rfl | rfl | rfl | rfl | rfl | rfl | rfl | rfl | rfl
  all_goals
    have Y' := Y
    clear Y h0 ho
    try have y2 : ¬ y = 0 := Y' (by decide)
    try clear Y'
    go_enter Tryz.func79, Tryz.ntmps79
    go_wp2
    go_ret
    exact ⟨rfl, rfl⟩
end Go.Proofs.YthbcfepbkkbjiabGreatDoor
namespace Go.Proofs.YthbcfepbkkbjiabGreatDoor
open Go.RowKit
def Siz (s : Nat) : Prop := s = 0 ∨ s = 1 ∨ s = 2 ∨ s = 4
theorem load_any (b off n c s : Nat) (g : Nat → Int) (w : World) (hs : Siz s) (hn : s ≤ n) (hc : n ≤ c) (hg : Oct g) (h : Row w .u8 b off n g) :
    Calls Tryz.prog 78 #[.slice (some ⟨b, off, none⟩) n c, .int .i64 s] w fun e w' => e = .returned (.int .u32 (be g 0 s)) ∧ w' = w := by
  rcases hs with rfl | rfl | rfl | rfl
  · exact load0 _ w
  · have := load1 b off n c g w hn hg h
    rw [be_one]; exact this
  · exact load2 b off n c g w hn hc hg h
  · exact load4 b off n c g w hn hc hg h
theorem load_part (b off n c m s p : Nat) (g : Nat → Int) (X : Int) (w : World) (hs : Siz s) (hp : p + m ≤ n) (hn : s ≤ m) (hc : m ≤ c) (hg : Oct g) (h : Row w .u8 b off n g) (hX : X = be g p s) :
    Calls Tryz.prog 78 #[.slice (some ⟨b, off + p, none⟩) m c, .int .i64 s] w fun e w' => e = .returned (.int .u32 X) ∧ w' = w := by
  have := load_any b (off + p) m c s (fun j => g (p + j)) w hs hn hc (fun j => hg _) (h.part hp)
  rw [be_shift] at this
  rw [hX]; exact this
set_option maxRecDepth 100000 in
set_option maxHeartbeats 400000 in
theorem Load_no (ao : Option Addr) (n c p s : Nat) (w : World) (hm : n ≤ maxLen) (hp : p ≤ 4611686018427387904) (hs : s ≤ 4) (h : n < p + s) :
    Calls Tryz.prog 57 #[.slice ao n c, .int .i64 p, .int .i64 s] w fun e w' => e = .returned (.tuple #[.int .u32 0, .bool false]) ∧ w' = w := by
  unfold maxLen at hm
  go_enter Tryz.func57, Tryz.ntmps57
  go_wp2
  go_ret2
  exact ⟨rfl, rfl⟩
set_option maxRecDepth 100000 in
set_option maxHeartbeats 400000 in
theorem Load_ok (b off n c p s : Nat) (g : Nat → Int) (X : Int) (w : World) (hs : Siz s) (hm : n ≤ maxLen) (hc : n ≤ c) (h : p + s ≤ n) (hg : Oct g) (hR : Row w .u8 b off n g) (hX : X = be g p s) :
    Calls Tryz.prog 57 #[.slice (some ⟨b, off, none⟩) n c, .int .i64 p, .int .i64 s] w fun e w' => e = .returned (.tuple #[.int .u32 X, .bool true]) ∧ w' = w := by
  unfold maxLen at hm
  have hs4 : s ≤ 4 := by unfold Siz at hs; omega
  by_cases hcp : c = p
  · have h0 : s = 0 := by omega
    subst h0
    have hX0 : X = 0 := hX
    have hs' : Hid (Siz 0) := hs
    subst hX0
    clear hX hs hR hg hs4
    go_enter Tryz.func57, Tryz.ntmps57
    go_wp2_with (go_at_call 78; refine (load0 _ _).mono ?_; rintro e w1 ⟨rfl, rfl⟩)
    go_ret2
    exact ⟨rfl, rfl⟩
  · go_enter Tryz.func57, Tryz.ntmps57
    go_wp2_with (go_at_call 78; refine (load_part b off n _ _ s p g X _ hs ?_ ?_ ?_ hg hR hX).mono ?_; omega; omega; omega; rintro e w1 ⟨rfl, rfl⟩)
    go_ret2
    exact ⟨by rw [hX]; rfl, rfl⟩
set_option maxRecDepth 100000 in
set_option maxHeartbeats 400000 in
theorem Reckon_any (o x y : Int) (w : World) (ho : 0 ≤ o ∧ o ≤ 9) (hx : U32 x) (hy : U32 y) :
    Calls Tryz.prog 62 #[.int .i64 o, .int .u32 x, .int .u32 y] w fun e w' => e = .returned (.tuple #[.int .u32 (opr o x y), .bool (!div0 o y)]) ∧ w' = w := by
  by_cases hy0 : y = 0
  · subst hy0
    by_cases h3 : o = 3
    · subst h3
      go_enter Tryz.func62, Tryz.ntmps62
      go_wp2
      go_ret2
      exact ⟨rfl, rfl⟩
    · by_cases h4 : o = 4
      · subst h4
        go_enter Tryz.func62, Tryz.ntmps62
        go_wp2
        go_ret2
        exact ⟨rfl, rfl⟩
      · have t3 : (o == 3) = false := by simp [h3]
        have t4 : (o == 4) = false := by simp [h4]
        have D : div0 o 0 = false := by simp [div0, h3, h4]
        go_enter Tryz.func62, Tryz.ntmps62
        go_wp2_with (go_at_call 79; refine (reckon_any o x 0 _ ho hx hy D).mono ?_; rintro e w1 ⟨rfl, rfl⟩)
        go_ret2
        exact ⟨by unfold opr; rw [D]; rfl, rfl⟩
  · have t0 : (y == 0) = false := by simp [hy0]
    have D : div0 o y = false := by simp [div0, hy0]
    go_enter Tryz.func62, Tryz.ntmps62
    go_wp2_with (go_at_call 79; refine (reckon_any o x y _ ho hx hy D).mono ?_; rintro e w1 ⟨rfl, rfl⟩)
    go_ret2
    exact ⟨by unfold opr; rw [D]; rfl, rfl⟩
set_option maxRecDepth 100000 in
set_option maxHeartbeats 400000 in
theorem Holds_any (o x y : Int) (w : World) (ho : 0 ≤ o ∧ o ≤ 3) :
    Calls Tryz.prog 63 #[.int .i64 o, .int .u32 x, .int .u32 y] w fun e w' => e = .returned (.bool (askv o x y)) ∧ w' = w := by
  have ho' : o = 0 ∨ o = 1 ∨ o = 2 ∨ o = 3 := by omega
  rcases ho' with rfl | rfl | rfl | rfl
  all_goals
    clear ho
    go_enter Tryz.func63, Tryz.ntmps63
    go_wp2
    go_ret
    exact ⟨rfl, rfl⟩
end Go.Proofs.YthbcfepbkkbjiabGreatDoor
