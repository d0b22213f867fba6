/- The walks of package word: load, Load, reckon, Reckon, Holds. -/
import Derived.Test.YthbcfepbkkbjiaaRows
import Derived.Test.YthbcfepbkkbjiaaE2
import Derived.Test.YthbcfepbkkbjiaaW5
namespace Go.Proofs.Ythbcfepbkkbjiaa
open Go.RowKit

theorem be_one (g : Nat → Int) (o : Nat) : be g o 1 = g o := by simp [be]

set_option maxRecDepth 100000 in
set_option maxHeartbeats 400000 in
theorem load0 (v : Value) (w : World) : Calls Try.prog 45 #[v, .int .i64 0] w fun e w' => e = .returned (.int .u32 0) ∧ w' = w := by
  go_enter Try.func45, Try.ntmps45
  go_wp2
  go_ret
  exact ⟨rfl, rfl⟩

set_option maxRecDepth 100000 in
set_option maxHeartbeats 400000 in
theorem load1 (b off n c : Nat) (g : Nat → Int) (w : World) (hn : 1 ≤ n) (hg : Oct g) (h : Row w .u8 b off n g) :
    Calls Try.prog 45 #[.slice (some ⟨b, off, none⟩) n c, .int .i64 1] w fun e w' => e = .returned (.int .u32 (g 0)) ∧ w' = w := by
  have hc := h 0 (by omega)
  rw [Nat.add_zero] at hc
  have hb := hg 0
  have B : bits .or .u32 0 (g 0) = g 0 := by
    have := shl8_or (x := 0) (by omega) (by omega) hb.1 (by omega)
    simpa using this
  go_enter Try.func45, Try.ntmps45
  go_wp2
  go_ret
  exact ⟨rfl, rfl⟩

theorem be_two (g : Nat → Int) : be g 0 2 = g 0 * 256 + g 1 := by simp [be]; omega
theorem be_four (g : Nat → Int) : be g 0 4 = ((g 0 * 256 + g 1) * 256 + g 2) * 256 + g 3 := by simp [be]; omega

set_option maxRecDepth 100000 in
set_option maxHeartbeats 400000 in
theorem load2 (b off n c : Nat) (g : Nat → Int) (w : World) (hn : 2 ≤ n) (hc : n ≤ c) (hg : Oct g) (h : Row w .u8 b off n g) :
    Calls Try.prog 45 #[.slice (some ⟨b, off, none⟩) n c, .int .i64 2] w fun e w' => e = .returned (.int .u32 (be g 0 2)) ∧ w' = w := by
  have h1 := h 1 (by omega)
  have b0 := hg 0
  have b1 := hg 1
  have B0 : bits .or .u32 0 (g 0) = g 0 := by
    have := shl8_or (x := 0) (by omega) (by omega) b0.1 (by omega)
    simpa using this
  have B1 := shl8_or (x := g 0) (b := g 1) (by omega) (by omega) b1.1 (by omega)
  go_enter Try.func45, Try.ntmps45
  go_wp2_with (go_at_call 45; refine (load1 b off n c g _ (by omega) hg h).mono ?_; rintro e w1 ⟨rfl, rfl⟩)
  go_ret
  exact ⟨by rw [be_two]; rfl, rfl⟩

theorem load2x (b off n c : Nat) (g : Nat → Int) (X : Int) (w : World) (hn : 2 ≤ n) (hc : n ≤ c) (hg : Oct g) (h : Row w .u8 b off n g) (hX : X = be g 0 2) :
    Calls Try.prog 45 #[.slice (some ⟨b, off, none⟩) n c, .int .i64 2] w fun e w' => e = .returned (.int .u32 X) ∧ w' = w := by
  rw [hX]; exact load2 b off n c g w hn hc hg h

set_option maxRecDepth 100000 in
set_option maxHeartbeats 400000 in
theorem load4 (b off n c : Nat) (g : Nat → Int) (w : World) (hn : 4 ≤ n) (hc : n ≤ c) (hg : Oct g) (h : Row w .u8 b off n g) :
    Calls Try.prog 45 #[.slice (some ⟨b, off, none⟩) n c, .int .i64 4] w fun e w' => e = .returned (.int .u32 (be g 0 4)) ∧ w' = w := by
  have h2 : Row w .u8 b (off + 2) (n - 2) (fun j => g (2 + j)) := h.part (by omega)
  have h3 := h 3 (by omega)
  have b0 := hg 0
  have b1 := hg 1
  have b2 := hg 2
  have b3 := hg 3
  obtain ⟨X, hX⟩ : ∃ X, X = be g 0 2 := ⟨_, rfl⟩
  have HX : Hid (X = be g 0 2) := hX
  have x0 : 0 ≤ X ∧ X ≤ 65535 := by rw [be_two] at hX; omega
  have B1 := shl8_or (x := X) (b := g 2) (by omega) (by omega) b2.1 (by omega)
  have B2 := shl8_or (x := X * 256 + g 2) (b := g 3) (by omega) (by omega) b3.1 (by omega)
  clear hX b0 b1
  go_enter Try.func45, Try.ntmps45
  go_wp2_with (go_at_call 45; refine (load2x b off n c g X _ (by omega) hc hg h HX.out).mono ?_; rintro e w1 ⟨rfl, rfl⟩; go_wp2_with (go_at_call 45; refine (load1 b (off + 2) (n - 2) _ (fun j => g (2 + j)) _ (by omega) (fun j => hg _) h2).mono ?_; rintro e w2 ⟨rfl, rfl⟩))
  go_ret
  exact ⟨by rw [be_four, ← be_two, ← HX.out]; rfl, rfl⟩

set_option maxRecDepth 100000 in
set_option maxHeartbeats 400000 in
theorem reckon_any (o x y : Int) (w : World) (ho : 0 ≤ o ∧ o ≤ 9) (hx : U32 x) (hy : U32 y) (h0 : div0 o y = false) :
    Calls Try.prog 46 #[.int .i64 o, .int .u32 x, .int .u32 y] w fun e w' => e = .returned (.int .u32 (opv o x y)) ∧ w' = w := by
  obtain ⟨x0, x1⟩ := hx
  obtain ⟨y0, y1⟩ := hy
  have Y : o = 3 ∨ o = 4 → ¬ y = 0 := fun h e => by
    have := (div0_iff o y).2 ⟨h, e⟩
    rw [this] at h0; cases h0
  have ho' : o = 0 ∨ o = 1 ∨ o = 2 ∨ o = 3 ∨ o = 4 ∨ o = 5 ∨ o = 6 ∨ o = 7 ∨ o = 8 ∨ o = 9 := by omega
  rcases ho' with rfl | rfl | rfl | rfl | rfl | rfl | rfl | rfl | rfl | rfl
  all_goals
    have Y' := Y
    clear Y h0 ho
    try have y2 : ¬ y = 0 := Y' (by decide)
    try clear Y'
    go_enter Try.func46, Try.ntmps46
    go_wp2
    go_ret
    exact ⟨rfl, rfl⟩

end Go.Proofs.Ythbcfepbkkbjiaa
