import Derived.Test.YthbcfepbkkbjiabGreatDoorIA2
namespace Go.Proofs.YthbcfepbkkbjiabGreatDoor
open Go.RowKit
set_option linter.unusedVariables false
set_option maxRecDepth 100000 in
set_option maxHeartbeats 1000000 in
theorem do_1 (w0 w : World) (M MB : Nat) (cv pv sv : Value) (S : Mst) (o x : Int) (h : PM w0 w M MB cv pv sv S false 0) (h8 : S.sp ≤ 8) :
    Calls Tryz.prog 43 #[.pointer (some ⟨M, 0, none⟩), .agg #[.int .u8 1, .int .u32 o, .int .u32 x]] w fun e w' => e = .returned (.tuple #[]) ∧ ∃ sv', PM w0 w' M MB cv pv sv' ⟨S.pc, S.sp + 1, upd S.st S.sp x, S.cs⟩ false 0 := by
  go_enter Tryz.func43, Tryz.ntmps43
  go_wp2_with (go_at_call 59; refine (push_any w0 _ M MB cv pv sv S false 0 x (h.allo _) h8).mono ?_; rintro e w1 ⟨rfl, sv', h1⟩)
  go_end0
  exact ⟨rfl, sv', h1⟩
set_option maxRecDepth 100000 in
set_option maxHeartbeats 1000000 in
theorem do_2 (w0 w : World) (M MB : Nat) (cv pv sv : Value) (S : Mst) (o : Nat) (x : Int) (h : PM w0 w M MB cv pv sv S false 0) (h8 : S.sp ≤ 8) (ho : o ≤ 17) :
    Calls Tryz.prog 43 #[.pointer (some ⟨M, 0, none⟩), .agg #[.int .u8 2, .int .u32 o, .int .u32 x]] w fun e w' => e = .returned (.tuple #[]) ∧ ∃ sv', PM w0 w' M MB cv pv sv' ⟨S.pc, S.sp + 1, upd S.st S.sp (S.cs o), S.cs⟩ false 0 := by
  have cX := h.cs (i := o) (by omega)
  have lM := h.m.lt
  have ho1 : (o : Int) < 18 := by omega
  go_enter Tryz.func43, Tryz.ntmps43
  have HH : Hid (PM w0 w M MB cv pv sv S false 0) := h
  clear h
  go_wp2
  go_quiet (fail)
  go_wp2_with (go_at_call 59; refine (push_any w0 _ M MB cv pv sv S false 0 (S.cs o) ((HH.out.allo _).drewN _) h8).mono ?_; rintro e w1 ⟨rfl, sv', h1⟩)
  go_end0
  exact ⟨rfl, sv', h1⟩
set_option maxRecDepth 100000 in
set_option maxHeartbeats 1000000 in
theorem do_6 (w0 w : World) (M MB : Nat) (cv : Value) (po : Option Addr) (m pc : Nat) (sv : Value) (S : Mst) (o x : Int) (h : PM w0 w M MB cv (.slice po m pc) sv S false 0) (h8 : S.sp ≤ 8) (hm : m ≤ 2000) :
    Calls Tryz.prog 43 #[.pointer (some ⟨M, 0, none⟩), .agg #[.int .u8 6, .int .u32 o, .int .u32 x]] w fun e w' => e = .returned (.tuple #[]) ∧ ∃ sv', PM w0 w' M MB cv (.slice po m pc) sv' ⟨S.pc, S.sp + 1, upd S.st S.sp m, S.cs⟩ false 0 := by
  obtain ⟨c0, c1, c2, c3, c4, c5, c6⟩ := h.cells
  have lM := h.m.lt
  go_enter Tryz.func43, Tryz.ntmps43
  go_wp2_with (go_at_call 59; refine (push_any w0 _ M MB cv _ sv S false 0 m (h.allo _) h8).mono ?_; rintro e w1 ⟨rfl, sv', h1⟩)
  go_end0
  exact ⟨rfl, sv', h1⟩
set_option maxRecDepth 100000 in
set_option maxHeartbeats 1000000 in
theorem do_7 (w0 w : World) (M MB : Nat) (cv pv sv : Value) (S : Mst) (o : Int) (x : Nat) (h : PM w0 w M MB cv pv sv S false 0) (hx : x ≤ 65535) (hp : S.pc ≤ 281474976710656) :
    Calls Tryz.prog 43 #[.pointer (some ⟨M, 0, none⟩), .agg #[.int .u8 7, .int .u32 o, .int .u32 x]] w fun e w' => e = .returned (.tuple #[]) ∧ PM w0 w' M MB cv pv sv ⟨S.pc + x, S.sp, S.st, S.cs⟩ false 0 := by
  obtain ⟨c0, c1, c2, c3, c4, c5, c6⟩ := h.cells
  obtain ⟨z3, z4, z5, z6⟩ := h.free
  have lM := h.m.lt
  have HH : Hid (PM w0 w M MB cv pv sv S false 0) := h
  clear h
  go_enter Tryz.func43, Tryz.ntmps43
  go_wp2
  go_end0
  exact ⟨rfl, PM.allo (HH.out.setPc (S.pc + x) _ (by omega)) _⟩
set_option maxRecDepth 100000 in
set_option maxHeartbeats 1000000 in
theorem do_9 (w0 w : World) (M MB : Nat) (cv pv sv : Value) (S : Mst) (o x : Int) (h : PM w0 w M MB cv pv sv S false 0) (h1 : 1 ≤ S.sp) :
    Calls Tryz.prog 43 #[.pointer (some ⟨M, 0, none⟩), .agg #[.int .u8 9, .int .u32 o, .int .u32 x]] w fun e w' => e = .returned (.tuple #[]) ∧ ∃ sv', PM w0 w' M MB cv pv sv' ⟨S.pc, S.sp - 1, S.st, S.cs⟩ true (S.st (S.sp - 1)) := by
  go_enter Tryz.func43, Tryz.ntmps43
  go_wp2_with (first | (go_at_call 60; refine (pop_any w0 _ M MB cv pv sv S false 0 (h.allo _) h1).mono ?_; rintro e w1 ⟨rfl, ⟨sv', h2⟩, k2⟩) | (go_at_call 64; refine (stop_any w0 _ M MB cv pv sv' _ false 0 _ h2).mono ?_; rintro e w2 ⟨rfl, h3⟩))
  go_end0
  exact ⟨rfl, sv', h3⟩
theorem loc_cell {w w1 : World} {I : Array Value} {t : TypeId} {M j : Nat} {v : Value} (hg : (w.alloc (.cells I t)).grownBy w1 (some M)) (lM : M < w.heap.size) (hv : I[j]? = some v) : w1.cell? ⟨w.heap.size, j, none⟩ = some v :=
  box_of hg (fun g e => by cases e; exact lM) hv
set_option maxRecDepth 100000 in
set_option maxHeartbeats 1000000 in
theorem do_3 (w0 w : World) (M MB : Nat) (cv pv sv : Value) (S : Mst) (o : Nat) (x : Int) (h : PM w0 w M MB cv pv sv S false 0) (h1 : 1 ≤ S.sp) (ho : o ≤ 17) :
    Calls Tryz.prog 43 #[.pointer (some ⟨M, 0, none⟩), .agg #[.int .u8 3, .int .u32 o, .int .u32 x]] w fun e w' => e = .returned (.tuple #[]) ∧ ∃ sv', PM w0 w' M MB cv pv sv' ⟨S.pc, S.sp - 1, S.st, upd S.cs o (S.st (S.sp - 1))⟩ false 0 := by
  have lM := h.m.lt
  have ho1 : (o : Int) < 18 := by omega
  have HH : Hid (PM w0 w M MB cv pv sv S false 0) := h
  clear h
  go_enter Tryz.func43, Tryz.ntmps43
  go_wp2
  go_region_with (go_at_call 60; refine (pop_any w0 _ M MB cv pv sv S false 0 (by repeat (first | exact HH.out | refine PM.drew ?_ | refine PM.allo ?_ _ | refine PM.drewN ?_ _)) h1).mono ?_; rintro e w1 ⟨rfl, ⟨sv', h2⟩, k2⟩; have xo : w1.cell? ⟨w.heap.size, 1, none⟩ = some (.int .u32 o) := loc_cell (by first | exact k2 | exact grown_undrew k2) lM rfl; have cX := h2.cs (i := o) (by omega); have zX := h2.m.frozen (5 + o))
  all_goals go_wp2
  all_goals go_end0
  all_goals exact ⟨rfl, _, by repeat (first | exact h2.setCs o (by omega) _ | refine PM.drew ?_ | refine PM.drewN ?_ _)⟩
end Go.Proofs.YthbcfepbkkbjiabGreatDoor
