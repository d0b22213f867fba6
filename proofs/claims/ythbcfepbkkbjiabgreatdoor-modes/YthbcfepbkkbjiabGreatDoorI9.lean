import Derived.Test.YthbcfepbkkbjiabGreatDoorI5
import Derived.Test.YthbcfepbkkbjiabGreatDoorI3
namespace Go.Proofs.YthbcfepbkkbjiabGreatDoor
open Go.RowKit
def szmap (D : Int) : Option Value := if D = 177 then some (.int .i64 1) else if D = 80 then some (.int .i64 1) else if D = 72 then some (.int .i64 2) else if D = 64 then some (.int .i64 4) else if D = 48 then some (.int .i64 1) else if D = 40 then some (.int .i64 2) else if D = 32 then some (.int .i64 4) else none
set_option maxRecDepth 100000 in
set_option maxHeartbeats 2000000 in
theorem sizes_any (w : World) : Calls Tryz.prog 36 #[] w fun e w' => e = .returned (.map (some w.heap.size)) ∧ IMap w' w.heap.size szmap ∧ w.grownBy w' none := by
  have hmm := @run_makeMap Tryz.prog
  have h0 : IMap (w.alloc (.map #[] 0)) w.heap.size (fun _ => none) ∧ w.grownBy (w.alloc (.map #[] 0)) none := ⟨imap_new w, grown_alloc (grown_refl w none) (.map #[] 0)⟩
  go_enter Tryz.func36, Tryz.ntmps36
  go_wp2_with (refine wpList_put_own _ w rfl _ _ _ 85 rfl 3 3 Tryz.underlying85 Tryz.underlying3 w.heap.size _ _ _ _ rfl rfl rfl (by assumption) (Nat.le_refl _) ?_; clear h0; intro w0 h0)
  go_ret
  exact ⟨rfl, h0.1, h0.2⟩
def opmap (D : Int) : Option Value := if D = 124 then some (.int .i64 9) else if D = 116 then some (.int .i64 9) else if D = 108 then some (.int .i64 8) else if D = 100 then some (.int .i64 8) else if D = 172 then some (.int .i64 7) else if D = 164 then some (.int .i64 7) else if D = 92 then some (.int .i64 6) else if D = 84 then some (.int .i64 6) else if D = 76 then some (.int .i64 5) else if D = 68 then some (.int .i64 5) else if D = 156 then some (.int .i64 4) else if D = 148 then some (.int .i64 4) else if D = 60 then some (.int .i64 3) else if D = 52 then some (.int .i64 3) else if D = 44 then some (.int .i64 2) else if D = 36 then some (.int .i64 2) else if D = 28 then some (.int .i64 1) else if D = 20 then some (.int .i64 1) else if D = 12 then some (.int .i64 0) else if D = 4 then some (.int .i64 0) else none
set_option maxRecDepth 100000 in
set_option maxHeartbeats 2000000 in
theorem operators_any (w : World) : Calls Tryz.prog 37 #[] w fun e w' => e = .returned (.map (some w.heap.size)) ∧ IMap w' w.heap.size opmap ∧ w.grownBy w' none := by
  have hmm := @run_makeMap Tryz.prog
  have h0 : IMap (w.alloc (.map #[] 0)) w.heap.size (fun _ => none) ∧ w.grownBy (w.alloc (.map #[] 0)) none := ⟨imap_new w, grown_alloc (grown_refl w none) (.map #[] 0)⟩
  go_enter Tryz.func37, Tryz.ntmps37
  go_wp2_with (refine wpList_put_own _ w rfl _ _ _ 87 rfl 3 124 Tryz.underlying87 Tryz.underlying3 w.heap.size _ _ _ _ rfl rfl rfl (by assumption) (Nat.le_refl _) ?_; clear h0; intro w0 h0)
  go_ret
  exact ⟨rfl, h0.1, h0.2⟩
def qumap (D : Int) : Option Value := if D = 77 then some (.int .i64 3) else if D = 69 then some (.int .i64 3) else if D = 61 then some (.int .i64 2) else if D = 53 then some (.int .i64 2) else if D = 45 then some (.int .i64 1) else if D = 37 then some (.int .i64 1) else if D = 29 then some (.int .i64 0) else if D = 21 then some (.int .i64 0) else none
set_option maxRecDepth 100000 in
set_option maxHeartbeats 2000000 in
theorem questions_any (w : World) : Calls Tryz.prog 38 #[] w fun e w' => e = .returned (.map (some w.heap.size)) ∧ IMap w' w.heap.size qumap ∧ w.grownBy w' none := by
  have hmm := @run_makeMap Tryz.prog
  have h0 : IMap (w.alloc (.map #[] 0)) w.heap.size (fun _ => none) ∧ w.grownBy (w.alloc (.map #[] 0)) none := ⟨imap_new w, grown_alloc (grown_refl w none) (.map #[] 0)⟩
  go_enter Tryz.func38, Tryz.ntmps38
  go_wp2_with (refine wpList_put_own _ w rfl _ _ _ 89 rfl 3 125 Tryz.underlying89 Tryz.underlying3 w.heap.size _ _ _ _ rfl rfl rfl (by assumption) (Nat.le_refl _) ?_; clear h0; intro w0 h0)
  go_ret
  exact ⟨rfl, h0.1, h0.2⟩
end Go.Proofs.YthbcfepbkkbjiabGreatDoor
namespace Go.Proofs.YthbcfepbkkbjiabGreatDoor
open Go.RowKit
set_option linter.unusedVariables false
def qrow (pv : Value) (S : Flt) (en : Bool) (vd : Int) (KB SB OB UB : Nat) : Nat → Value := fun j =>
  if j = 0 then pv else if j = 1 then .int .u32 S.a else if j = 2 then .int .u32 S.x else if j < 19 then .int .u32 (S.cs (j - 3)) else if j = 19 then .int .i64 S.pc else if j = 20 then .bool en else if j = 21 then .int .u32 vd
  else if j = 22 then .map (some KB) else if j = 23 then .map (some SB) else if j = 24 then .map (some OB) else .map (some UB)
structure QM (w0 w : World) (M KB SB OB UB : Nat) (pv : Value) (S : Flt) (en : Bool) (vd : Int) : Prop where
  gr : w0.grownBy w none
  hM : w0.heap.size ≤ M
  m : Blk w M 93 26 26 (qrow pv S en vd KB SB OB UB)
  nk : KB ≠ M
  ns : SB ≠ M
  no : OB ≠ M
  nu : UB ≠ M
  ik : IMap w KB kmap
  iz : IMap w SB szmap
  io : IMap w OB opmap
  iu : IMap w UB qumap
section
variable {w0 w w' : World} {M KB SB OB UB : Nat} {pv : Value} {S : Flt} {en : Bool} {vd : Int}
theorem QM.cells (h : QM w0 w M KB SB OB UB pv S en vd) :
    w.cell? ⟨M, 0, none⟩ = some pv ∧ w.cell? ⟨M, 1, none⟩ = some (.int .u32 S.a) ∧ w.cell? ⟨M, 2, none⟩ = some (.int .u32 S.x) ∧ w.cell? ⟨M, 19, none⟩ = some (.int .i64 S.pc) ∧ w.cell? ⟨M, 20, none⟩ = some (.bool en) ∧ w.cell? ⟨M, 21, none⟩ = some (.int .u32 vd) ∧
    w.cell? ⟨M, 22, none⟩ = some (.map (some KB)) ∧ w.cell? ⟨M, 23, none⟩ = some (.map (some SB)) ∧ w.cell? ⟨M, 24, none⟩ = some (.map (some OB)) ∧ w.cell? ⟨M, 25, none⟩ = some (.map (some UB)) :=
  ⟨h.m.cell (j := 0) (by omega), h.m.cell (j := 1) (by omega), h.m.cell (j := 2) (by omega), h.m.cell (j := 19) (by omega), h.m.cell (j := 20) (by omega), h.m.cell (j := 21) (by omega), h.m.cell (j := 22) (by omega), h.m.cell (j := 23) (by omega), h.m.cell (j := 24) (by omega), h.m.cell (j := 25) (by omega)⟩
theorem QM.free (h : QM w0 w M KB SB OB UB pv S en vd) : w.frozen? ⟨M, 1, none⟩ = false ∧ w.frozen? ⟨M, 2, none⟩ = false ∧ w.frozen? ⟨M, 19, none⟩ = false ∧ w.frozen? ⟨M, 20, none⟩ = false ∧ w.frozen? ⟨M, 21, none⟩ = false :=
  ⟨h.m.frozen 1, h.m.frozen 2, h.m.frozen 19, h.m.frozen 20, h.m.frozen 21⟩
theorem QM.cs (h : QM w0 w M KB SB OB UB pv S en vd) {i : Nat} (hi : i < 16) : w.cell? ⟨M, 3 + i, none⟩ = some (.int .u32 (S.cs i)) := by
  have := h.m.cell (j := 3 + i) (by omega)
  rw [this]
  unfold qrow
  rw [if_neg (by omega), if_neg (by omega), if_neg (by omega), if_pos (by omega), show 3 + i - 3 = i by omega]
theorem QM.keep (h : QM w0 w M KB SB OB UB pv S en vd) (hg : w.grownBy w' none) : QM w0 w' M KB SB OB UB pv S en vd :=
  ⟨grown_trans h.gr hg, h.hM, h.m.keep hg (by simp), h.nk, h.ns, h.no, h.nu, h.ik.keep hg (by simp), h.iz.keep hg (by simp), h.io.keep hg (by simp), h.iu.keep hg (by simp)⟩
theorem QM.drew (h : QM w0 w M KB SB OB UB pv S en vd) : QM w0 w.drew M KB SB OB UB pv S en vd := h.keep (grown_drew (grown_refl _ _))
theorem QM.drewN (h : QM w0 w M KB SB OB UB pv S en vd) (k : Nat) : QM w0 (w.drewN k) M KB SB OB UB pv S en vd := h.keep (grown_drewN _ _ _)
theorem QM.allo (h : QM w0 w M KB SB OB UB pv S en vd) (o : Obj) : QM w0 (w.alloc o) M KB SB OB UB pv S en vd := h.keep (World.grownBy_alloc _ _ none)
theorem QM.put (h : QM w0 w M KB SB OB UB pv S en vd) (j : Nat) (hj : j < 26) (v : Value) (S' : Flt) (en' : Bool) (vd' : Int) (hv : qrow pv S' en' vd' KB SB OB UB j = v) (ho : ∀ i, i < 26 → i ≠ j → qrow pv S en vd KB SB OB UB i = qrow pv S' en' vd' KB SB OB UB i) :
    QM w0 (w.setCell ⟨M, j, none⟩ v) M KB SB OB UB pv S' en' vd' := by
  have hg := grown_setCell w ⟨M, j, none⟩ v
  refine ⟨grown_set h.gr h.hM _, h.hM, (h.m.set' hj v).congr fun i hi => ?_, h.nk, h.ns, h.no, h.nu, h.ik.keep hg (by simp; exact h.nk), h.iz.keep hg (by simp; exact h.ns), h.io.keep hg (by simp; exact h.no), h.iu.keep hg (by simp; exact h.nu)⟩
  by_cases e : i = j
  · subst e; rw [if_pos rfl, hv]
  · rw [if_neg e]; exact ho i hi e
theorem QM.setA (h : QM w0 w M KB SB OB UB pv S en vd) (v : Int) : QM w0 (w.setCell ⟨M, 1, none⟩ (.int .u32 v)) M KB SB OB UB pv ⟨S.pc, v, S.x, S.cs⟩ en vd :=
  h.put 1 (by omega) _ _ _ _ rfl fun i _ hi => by unfold qrow; simp only [if_neg hi]
theorem QM.setX (h : QM w0 w M KB SB OB UB pv S en vd) (v : Int) : QM w0 (w.setCell ⟨M, 2, none⟩ (.int .u32 v)) M KB SB OB UB pv ⟨S.pc, S.a, v, S.cs⟩ en vd :=
  h.put 2 (by omega) _ _ _ _ rfl fun i _ hi => by unfold qrow; simp only [if_neg hi]
theorem QM.setPc (h : QM w0 w M KB SB OB UB pv S en vd) (pc : Nat) (v : Int) (hv : v = pc) : QM w0 (w.setCell ⟨M, 19, none⟩ (.int .i64 v)) M KB SB OB UB pv ⟨pc, S.a, S.x, S.cs⟩ en vd := by
  subst hv
  exact h.put 19 (by omega) _ _ _ _ rfl fun i _ hi => by unfold qrow; simp only [if_neg hi]
theorem QM.setCs (h : QM w0 w M KB SB OB UB pv S en vd) (k : Nat) (hk : k < 16) (v : Int) : QM w0 (w.setCell ⟨M, 3 + k, none⟩ (.int .u32 v)) M KB SB OB UB pv ⟨S.pc, S.a, S.x, upd S.cs k v⟩ en vd := by
  refine h.put (3 + k) (by omega) _ _ _ _ ?_ fun i _ hi => ?_
  · unfold qrow upd
    dsimp only
    rw [if_neg (by omega), if_neg (by omega), if_neg (by omega), if_pos (by omega), if_pos (by omega)]
  · unfold qrow upd
    dsimp only
    by_cases h3 : 3 ≤ i
    · rw [show (if i - 3 = k then v else S.cs (i - 3)) = S.cs (i - 3) from if_neg (by omega)]
    · rcases (by omega : i = 0 ∨ i = 1 ∨ i = 2) with rfl | rfl | rfl <;> rfl
theorem QM.fin (h : QM w0 w M KB SB OB UB pv S en vd) (v : Int) : QM w0 ((w.setCell ⟨M, 20, none⟩ (.bool true)).setCell ⟨M, 21, none⟩ (.int .u32 v)) M KB SB OB UB pv S true v :=
  (h.put 20 (by omega) (.bool true) S true vd rfl fun i _ hi => by unfold qrow; simp only [if_neg hi]).put 21 (by omega) _ S true v rfl fun i _ hi => by unfold qrow; simp only [if_neg hi]
end
set_option maxRecDepth 100000 in
set_option maxHeartbeats 400000 in
theorem end_any (w0 w : World) (M KB SB OB UB : Nat) (pv : Value) (S : Flt) (en : Bool) (vd v : Int) (h : QM w0 w M KB SB OB UB pv S en vd) :
    Calls Tryz.prog 77 #[.pointer (some ⟨M, 0, none⟩), .int .u32 v] w fun e w' => e = .returned (.tuple #[]) ∧ QM w0 w' M KB SB OB UB pv S true v := by
  obtain ⟨c0, c1, c2, c3, c4, c5, c6, c7, c8, c9⟩ := h.cells
  obtain ⟨z1, z2, z3, z4, z5⟩ := h.free
  have HH : Hid (QM w0 w M KB SB OB UB pv S en vd) := h
  clear h
  go_enter Tryz.func77, Tryz.ntmps77
  go_wp2
  go_end0
  exact ⟨rfl, HH.out.fin v⟩
set_option maxRecDepth 100000 in
set_option maxHeartbeats 400000 in
theorem choose_t (w0 w : World) (M KB SB OB UB : Nat) (pv : Value) (S : Flt) (en : Bool) (vd c : Int) (jt jf : Nat) (k : Int) (h : QM w0 w M KB SB OB UB pv S en vd) (hp : S.pc ≤ 1000000) (h1 : jt ≤ 4294967295) (h2 : jf ≤ 4294967295) :
    Calls Tryz.prog 76 #[.pointer (some ⟨M, 0, none⟩), .agg #[.int .i64 c, .int .i64 jt, .int .i64 jf, .int .i64 k], .bool true] w fun e w' => e = .returned (.tuple #[]) ∧ QM w0 w' M KB SB OB UB pv ⟨S.pc + jt, S.a, S.x, S.cs⟩ en vd := by
  obtain ⟨c0, c1, c2, c3, c4, c5, c6, c7, c8, c9⟩ := h.cells
  obtain ⟨z1, z2, z3, z4, z5⟩ := h.free
  have lM := h.m.lt
  have HH : Hid (QM w0 w M KB SB OB UB pv S en vd) := h
  clear h
  go_enter Tryz.func76, Tryz.ntmps76
  go_wp2
  go_region
  all_goals go_wp2
  go_end0
  exact ⟨rfl, by repeat (first | exact HH.out.setPc (S.pc + jt) _ (by omega) | refine QM.drew ?_ | refine QM.allo ?_ _ | refine QM.drewN ?_ _)⟩
set_option maxRecDepth 100000 in
set_option maxHeartbeats 400000 in
theorem choose_f (w0 w : World) (M KB SB OB UB : Nat) (pv : Value) (S : Flt) (en : Bool) (vd c : Int) (jt jf : Nat) (k : Int) (h : QM w0 w M KB SB OB UB pv S en vd) (hp : S.pc ≤ 1000000) (h1 : jt ≤ 4294967295) (h2 : jf ≤ 4294967295) :
    Calls Tryz.prog 76 #[.pointer (some ⟨M, 0, none⟩), .agg #[.int .i64 c, .int .i64 jt, .int .i64 jf, .int .i64 k], .bool false] w fun e w' => e = .returned (.tuple #[]) ∧ QM w0 w' M KB SB OB UB pv ⟨S.pc + jf, S.a, S.x, S.cs⟩ en vd := by
  obtain ⟨c0, c1, c2, c3, c4, c5, c6, c7, c8, c9⟩ := h.cells
  obtain ⟨z1, z2, z3, z4, z5⟩ := h.free
  have lM := h.m.lt
  have HH : Hid (QM w0 w M KB SB OB UB pv S en vd) := h
  clear h
  go_enter Tryz.func76, Tryz.ntmps76
  go_wp2
  go_region
  all_goals go_wp2
  go_end0
  exact ⟨rfl, by repeat (first | exact HH.out.setPc (S.pc + jf) _ (by omega) | refine QM.drew ?_ | refine QM.allo ?_ _ | refine QM.drewN ?_ _)⟩
end Go.Proofs.YthbcfepbkkbjiabGreatDoor
