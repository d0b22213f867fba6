/- The program's machine of code: operations, questions. -/
import Derived.Test.YthbcfepbkkbjiaaA5
namespace Go.Proofs.Ythbcfepbkkbjiaa
open Go.RowKit
set_option linter.unusedVariables false

set_option maxRecDepth 100000 in
set_option maxHeartbeats 1000000 in
theorem do_4a (w0 w : World) (M MB : Nat) (cv pv sv : Value) (S : Mst) (o : Nat) (x : Int) (h : PM w0 w M MB cv pv sv S false 0) (h2 : 2 ≤ S.sp) (h8 : S.sp ≤ 8) (ho : o ≤ 9) (ux : U32 (S.st (S.sp - 1 - 1))) (uy : U32 (S.st (S.sp - 1))) (hd : div0 o (S.st (S.sp - 1)) = false) :
    Calls Try.prog 29 #[.pointer (some ⟨M, 0, none⟩), .agg #[.int .u8 4, .int .u32 o, .int .u32 x]] w fun e w' => e = .returned (.tuple #[]) ∧ ∃ sv', PM w0 w' M MB cv pv sv' ⟨S.pc, S.sp - 1 - 1 + 1, upd S.st (S.sp - 1 - 1) (opr o (S.st (S.sp - 1 - 1)) (S.st (S.sp - 1))), S.cs⟩ false 0 := by
  have lM := h.m.lt
  have HH : Hid (PM w0 w M MB cv pv sv S false 0) := h
  have HD : Hid (div0 o (S.st (S.sp - 1)) = false) := hd
  clear h hd
  go_enter Try.func29, Try.ntmps29
  go_wp2_with (go_at_call 40; refine (pop_any w0 _ M MB cv pv sv S false 0 (HH.out.allo _) (by omega)).mono ?_; rintro e w1 ⟨rfl, ⟨sv1, hp1⟩, k1⟩; go_wp2_with (go_at_call 40; refine (pop_any w0 _ M MB cv pv sv1 _ false 0 hp1 (by dsimp only; omega)).mono ?_; dsimp only; rintro e w2 ⟨rfl, ⟨sv2, hp2⟩, k2⟩; have xo : w2.cell? ⟨w.heap.size, 1, none⟩ = some (.int .u32 o) := loc_cell (grown_trans k1 k2) lM rfl; obtain ⟨b0, b1, b2, b3, b4, b5, b6⟩ := hp2.cells; obtain ⟨y3, y4, y5, y6⟩ := hp2.free; dsimp only at b3))
  go_wp2_with (first | (go_at_call 42; refine (Reckon_any o _ _ _ (by omega) ux uy).mono ?_; rw [HD.out]; rintro e w3 ⟨rfl, rfl⟩) | (go_at_call 41; refine (pos_ok w0 _ M MB cv pv sv2 _ false 0 _ hp2 (by dsimp only; omega)).mono ?_; rintro e w4 ⟨rfl, sv3, h3⟩))
  go_end0
  exact ⟨rfl, sv3, h3⟩


set_option maxRecDepth 100000 in
set_option maxHeartbeats 1000000 in
theorem do_4b (w0 w : World) (M MB : Nat) (cv pv sv : Value) (S : Mst) (o : Nat) (x : Int) (h : PM w0 w M MB cv pv sv S false 0) (h2 : 2 ≤ S.sp) (h8 : S.sp ≤ 8) (ho : o ≤ 9) (ux : U32 (S.st (S.sp - 1 - 1))) (uy : U32 (S.st (S.sp - 1))) (hd : div0 o (S.st (S.sp - 1)) = true) :
    Calls Try.prog 29 #[.pointer (some ⟨M, 0, none⟩), .agg #[.int .u8 4, .int .u32 o, .int .u32 x]] w fun e w' => e = .returned (.tuple #[]) ∧ ∃ sv', PM w0 w' M MB cv pv sv' ⟨S.pc, S.sp - 1 - 1, S.st, S.cs⟩ true 0 := by
  have lM := h.m.lt
  have HH : Hid (PM w0 w M MB cv pv sv S false 0) := h
  have HD : Hid (div0 o (S.st (S.sp - 1)) = true) := hd
  clear h hd
  go_enter Try.func29, Try.ntmps29
  go_wp2_with (go_at_call 40; refine (pop_any w0 _ M MB cv pv sv S false 0 (HH.out.allo _) (by omega)).mono ?_; rintro e w1 ⟨rfl, ⟨sv1, hp1⟩, k1⟩; go_wp2_with (go_at_call 40; refine (pop_any w0 _ M MB cv pv sv1 _ false 0 hp1 (by dsimp only; omega)).mono ?_; dsimp only; rintro e w2 ⟨rfl, ⟨sv2, hp2⟩, k2⟩; have xo : w2.cell? ⟨w.heap.size, 1, none⟩ = some (.int .u32 o) := loc_cell (grown_trans k1 k2) lM rfl; obtain ⟨b0, b1, b2, b3, b4, b5, b6⟩ := hp2.cells; obtain ⟨y3, y4, y5, y6⟩ := hp2.free; dsimp only at b3))
  go_wp2_with (first | (go_at_call 42; refine (Reckon_any o _ _ _ (by omega) ux uy).mono ?_; rw [HD.out]; rintro e w3 ⟨rfl, rfl⟩) | (go_at_call 41; refine (pos_no w0 _ M MB cv pv sv2 _ false 0 _ hp2).mono ?_; rintro e w4 ⟨rfl, h3⟩))
  go_end0
  exact ⟨rfl, _, h3⟩


set_option maxRecDepth 100000 in
set_option maxHeartbeats 1000000 in
theorem do_8a (w0 w : World) (M MB : Nat) (cv pv sv : Value) (S : Mst) (o x : Nat) (h : PM w0 w M MB cv pv sv S false 0) (h2 : 2 ≤ S.sp) (ho : o ≤ 3) (hq : askv o (S.st (S.sp - 1 - 1)) (S.st (S.sp - 1)) = false) :
    Calls Try.prog 29 #[.pointer (some ⟨M, 0, none⟩), .agg #[.int .u8 8, .int .u32 o, .int .u32 x]] w fun e w' => e = .returned (.tuple #[]) ∧ ∃ sv', PM w0 w' M MB cv pv sv' ⟨S.pc, S.sp - 1 - 1, S.st, S.cs⟩ false 0 := by
  have lM := h.m.lt
  have HH : Hid (PM w0 w M MB cv pv sv S false 0) := h
  have HQ : Hid (askv o (S.st (S.sp - 1 - 1)) (S.st (S.sp - 1)) = false) := hq
  clear h hq
  go_enter Try.func29, Try.ntmps29
  go_wp2_with (go_at_call 40; refine (pop_any w0 _ M MB cv pv sv S false 0 (HH.out.allo _) (by omega)).mono ?_; rintro e w1 ⟨rfl, ⟨sv1, hp1⟩, k1⟩; go_wp2_with (go_at_call 40; refine (pop_any w0 _ M MB cv pv sv1 _ false 0 hp1 (by dsimp only; omega)).mono ?_; dsimp only; rintro e w2 ⟨rfl, ⟨sv2, hp2⟩, k2⟩; have xo : w2.cell? ⟨w.heap.size, 1, none⟩ = some (.int .u32 o) := loc_cell (grown_trans k1 k2) lM rfl; obtain ⟨b0, b1, b2, b3, b4, b5, b6⟩ := hp2.cells; obtain ⟨y3, y4, y5, y6⟩ := hp2.free; dsimp only at b3))
  go_wp2_with (go_at_call 43; refine (Holds_any o _ _ _ (by omega)).mono ?_; rw [HQ.out]; rintro e w3 ⟨rfl, rfl⟩)
  go_end0
  exact ⟨rfl, sv2, hp2⟩


set_option maxRecDepth 100000 in
set_option maxHeartbeats 1000000 in
theorem do_8b (w0 w : World) (M MB : Nat) (cv pv sv : Value) (S : Mst) (o x : Nat) (h : PM w0 w M MB cv pv sv S false 0) (h2 : 2 ≤ S.sp) (ho : o ≤ 3) (hx : x ≤ 65535) (hp : S.pc ≤ 281474976710656) (hq : askv o (S.st (S.sp - 1 - 1)) (S.st (S.sp - 1)) = true) :
    Calls Try.prog 29 #[.pointer (some ⟨M, 0, none⟩), .agg #[.int .u8 8, .int .u32 o, .int .u32 x]] w fun e w' => e = .returned (.tuple #[]) ∧ ∃ sv', PM w0 w' M MB cv pv sv' ⟨S.pc + x, S.sp - 1 - 1, S.st, S.cs⟩ false 0 := by
  have lM := h.m.lt
  have HH : Hid (PM w0 w M MB cv pv sv S false 0) := h
  have HQ : Hid (askv o (S.st (S.sp - 1 - 1)) (S.st (S.sp - 1)) = true) := hq
  clear h hq
  go_enter Try.func29, Try.ntmps29
  go_wp2_with (go_at_call 40; refine (pop_any w0 _ M MB cv pv sv S false 0 (HH.out.allo _) (by omega)).mono ?_; rintro e w1 ⟨rfl, ⟨sv1, hp1⟩, k1⟩; go_wp2_with (go_at_call 40; refine (pop_any w0 _ M MB cv pv sv1 _ false 0 hp1 (by dsimp only; omega)).mono ?_; dsimp only; rintro e w2 ⟨rfl, ⟨sv2, hp2⟩, k2⟩; have xo : w2.cell? ⟨w.heap.size, 1, none⟩ = some (.int .u32 o) := loc_cell (grown_trans k1 k2) lM rfl; obtain ⟨b0, b1, b2, b3, b4, b5, b6⟩ := hp2.cells; obtain ⟨y3, y4, y5, y6⟩ := hp2.free; dsimp only at b3))
  go_wp2_with (go_at_call 43; refine (Holds_any o _ _ _ (by omega)).mono ?_; rw [HQ.out]; rintro e w3 ⟨rfl, rfl⟩)
  go_end0
  exact ⟨rfl, sv2, hp2.setPc (S.pc + x) _ (by omega)⟩


end Go.Proofs.Ythbcfepbkkbjiaa
