/- The program's machine of code: the map of shapes. -/
import Derived.Test.YthbcfepbkkbjiaaE4
import Derived.Test.YthbcfepbkkbjiaaQ2
import Derived.Test.YthbcfepbkkbjiaaE8
namespace Go.Proofs.Ythbcfepbkkbjiaa
open Go.RowKit
set_option linter.unusedVariables false

/-- a shape, as the map holds it -/
def shv (s : Shp) : Value := .agg #[.int .i64 s.wh, .int .i64 s.nb, .int .i64 s.po, .int .i64 s.pu]

def smap (c : Int) : Option Value := (shp c).map shv

theorem BMap.congr {w : World} {b : Nat} {f f' : Int → Option Value} (h : BMap w b f) (hf : ∀ D, f D = f' D) : BMap w b f' := by
  have : f = f' := funext hf
  rwa [this] at h

set_option maxRecDepth 100000 in
set_option maxHeartbeats 2000000 in
theorem shapes_any (w : World) : Calls Try.prog 26 #[] w fun e w' => e = .returned (.map (some w.heap.size)) ∧ BMap w' w.heap.size smap ∧ w.grownBy w' none := by
  have hmm := @run_makeMap Try.prog
  have h0 : BMap (w.alloc (.map #[] 0)) w.heap.size (fun _ => none) ∧ w.grownBy (w.alloc (.map #[] 0)) none := ⟨bmap_new w, grown_alloc (grown_refl w none) (.map #[] 0)⟩
  go_enter Try.func26, Try.ntmps26
  go_wp2_with (refine wpList_put_bown _ w rfl _ _ _ 57 rfl 5 78 Try.underlying57 Try.underlying5 w.heap.size _ _ _ rfl rfl rfl (by assumption) (Nat.le_refl _) ?_; clear h0; intro w0 h0)
  go_ret
  refine ⟨rfl, h0.1.congr fun D => ?_, h0.2⟩
  by_cases e9 : D = 9
  · subst e9; rfl
  rw [if_neg e9]
  by_cases e8 : D = 8
  · subst e8; rfl
  rw [if_neg e8]
  by_cases e7 : D = 7
  · subst e7; rfl
  rw [if_neg e7]
  by_cases e6 : D = 6
  · subst e6; rfl
  rw [if_neg e6]
  by_cases e5 : D = 5
  · subst e5; rfl
  rw [if_neg e5]
  by_cases e4 : D = 4
  · subst e4; rfl
  rw [if_neg e4]
  by_cases e3 : D = 3
  · subst e3; rfl
  rw [if_neg e3]
  by_cases e2 : D = 2
  · subst e2; rfl
  rw [if_neg e2]
  by_cases e1 : D = 1
  · subst e1; rfl
  rw [if_neg e1]
  unfold smap shp
  rw [if_neg e1, if_neg e2, if_neg e3, if_neg e4, if_neg e5, if_neg e6, if_neg e7, if_neg e8, if_neg e9]
  rfl

def prow (cv pv : Value) (MB pc : Nat) (sv : Value) (cs : Nat → Int) (sd : Bool) (res : Int) : Nat → Value := fun j =>
  if j = 0 then cv else if j = 1 then pv else if j = 2 then .map (some MB) else if j = 3 then .int .i64 pc else if j = 4 then sv else if j < 23 then .int .u32 (cs (j - 5)) else if j = 23 then .bool sd else .int .u32 res

/-- the machine at M, since the world w0: its code, its packet, the map of shapes, its place, its stack, its cells, whether it has stopped and with what -/
structure PM (w0 w : World) (M MB : Nat) (cv pv sv : Value) (S : Mst) (sd : Bool) (res : Int) : Prop where
  gr : w0.grownBy w none
  hM : w0.heap.size ≤ M
  hB : w0.heap.size ≤ MB
  ne : M ≠ MB
  m : Blk w M 62 25 25 (prow cv pv MB S.pc sv S.cs sd res)
  st : Out w w0.heap.size 46 1 sv S.sp (ints .u32 S.st)
  own : ∀ g, sv.ownBlock = some g → g ≠ M ∧ g ≠ MB
  mp : BMap w MB smap

section
variable {w0 w w' : World} {M MB : Nat} {cv pv sv : Value} {S : Mst} {sd : Bool} {res : Int}

theorem PM.cells (h : PM w0 w M MB cv pv sv S sd res) :
    w.cell? ⟨M, 0, none⟩ = some cv ∧ w.cell? ⟨M, 1, none⟩ = some pv ∧ w.cell? ⟨M, 2, none⟩ = some (.map (some MB)) ∧ w.cell? ⟨M, 3, none⟩ = some (.int .i64 S.pc) ∧ w.cell? ⟨M, 4, none⟩ = some sv ∧ w.cell? ⟨M, 23, none⟩ = some (.bool sd) ∧ w.cell? ⟨M, 24, none⟩ = some (.int .u32 res) :=
  ⟨h.m.cell (j := 0) (by omega), h.m.cell (j := 1) (by omega), h.m.cell (j := 2) (by omega), h.m.cell (j := 3) (by omega), h.m.cell (j := 4) (by omega), h.m.cell (j := 23) (by omega), h.m.cell (j := 24) (by omega)⟩

theorem PM.free (h : PM w0 w M MB cv pv sv S sd res) :
    w.frozen? ⟨M, 3, none⟩ = false ∧ w.frozen? ⟨M, 4, none⟩ = false ∧ w.frozen? ⟨M, 23, none⟩ = false ∧ w.frozen? ⟨M, 24, none⟩ = false := ⟨h.m.frozen 3, h.m.frozen 4, h.m.frozen 23, h.m.frozen 24⟩

theorem PM.cs (h : PM w0 w M MB cv pv sv S sd res) {i : Nat} (hi : i < 18) : w.cell? ⟨M, 5 + i, none⟩ = some (.int .u32 (S.cs i)) := by
  have := h.m.cell (j := 5 + i) (by omega)
  rw [this]
  unfold prow
  rw [if_neg (by omega), if_neg (by omega), if_neg (by omega), if_neg (by omega), if_neg (by omega), if_pos (by omega), show 5 + i - 5 = i by omega]

theorem PM.keep (h : PM w0 w M MB cv pv sv S sd res) (hg : w.grownBy w' none) : PM w0 w' M MB cv pv sv S sd res :=
  ⟨grown_trans h.gr hg, h.hM, h.hB, h.ne, h.m.keep hg (by simp), h.st.keep hg (by simp), h.own, h.mp.keep hg (by simp)⟩

theorem PM.drew (h : PM w0 w M MB cv pv sv S sd res) : PM w0 w.drew M MB cv pv sv S sd res := h.keep (grown_drew (grown_refl _ _))
theorem PM.drewN (h : PM w0 w M MB cv pv sv S sd res) (k : Nat) : PM w0 (w.drewN k) M MB cv pv sv S sd res := h.keep (grown_drewN _ _ _)
theorem PM.allo (h : PM w0 w M MB cv pv sv S sd res) (o : Obj) : PM w0 (w.alloc o) M MB cv pv sv S sd res := h.keep (World.grownBy_alloc _ _ none)

theorem PM.setPc (h : PM w0 w M MB cv pv sv S sd res) (pc : Nat) (v : Int) (hv : v = pc) : PM w0 (w.setCell ⟨M, 3, none⟩ (.int .i64 v)) M MB cv pv sv ⟨pc, S.sp, S.st, S.cs⟩ sd res := by
  subst hv
  have hg := grown_setCell w ⟨M, 3, none⟩ (.int .i64 pc)
  refine ⟨grown_set h.gr h.hM _, h.hM, h.hB, h.ne, (h.m.set' (j := 3) (by omega) _).congr fun j hj => ?_, h.st.other hg (fun g e => (h.own g e).1), h.own, h.mp.keep hg (by simp; exact fun e => h.ne e.symm)⟩
  unfold prow
  by_cases e : j = 3
  · subst e; rfl
  · simp only [if_neg e]

theorem PM.setSt (h : PM w0 w M MB cv pv sv S sd res) (sv' : Value) (sp : Nat) (st : Nat → Int) (ho : Out w w0.heap.size 46 1 sv' sp (ints .u32 st)) (hown : ∀ g, sv'.ownBlock = some g → g ≠ M ∧ g ≠ MB) :
    PM w0 (w.setCell ⟨M, 4, none⟩ sv') M MB cv pv sv' ⟨S.pc, sp, st, S.cs⟩ sd res := by
  have hg := grown_setCell w ⟨M, 4, none⟩ sv'
  refine ⟨grown_set h.gr h.hM _, h.hM, h.hB, h.ne, (h.m.set' (j := 4) (by omega) _).congr fun j hj => ?_, ho.other hg (fun g e => (hown g e).1), hown, h.mp.keep hg (by simp; exact fun e => h.ne e.symm)⟩
  unfold prow
  by_cases e : j = 4
  · subst e; rfl
  · simp only [if_neg e]

theorem PM.setCs (h : PM w0 w M MB cv pv sv S sd res) (i : Nat) (hi : i < 18) (v : Int) : PM w0 (w.setCell ⟨M, 5 + i, none⟩ (.int .u32 v)) M MB cv pv sv ⟨S.pc, S.sp, S.st, upd S.cs i v⟩ sd res := by
  have hg := grown_setCell w ⟨M, 5 + i, none⟩ (.int .u32 v)
  refine ⟨grown_set h.gr h.hM _, h.hM, h.hB, h.ne, (h.m.set' (j := 5 + i) (by omega) _).congr fun j hj => ?_, h.st.other hg (fun g e => (h.own g e).1), h.own, h.mp.keep hg (by simp; exact fun e => h.ne e.symm)⟩
  unfold prow upd
  dsimp only
  by_cases e : j = 5 + i
  · subst e
    rw [if_pos rfl, if_neg (by omega), if_neg (by omega), if_neg (by omega), if_neg (by omega), if_neg (by omega), if_pos (by omega), if_pos (by omega)]
  · rw [if_neg e]
    by_cases e2 : j - 5 = i ∧ 5 ≤ j
    · omega
    · by_cases e5 : 5 ≤ j
      · rw [show (if j - 5 = i then v else S.cs (j - 5)) = S.cs (j - 5) from if_neg (by omega)]
      · rcases (by omega : j = 0 ∨ j = 1 ∨ j = 2 ∨ j = 3 ∨ j = 4) with rfl | rfl | rfl | rfl | rfl <;> rfl

/-- it stops -/
theorem PM.stop (h : PM w0 w M MB cv pv sv S sd res) (r : Int) : PM w0 ((w.setCell ⟨M, 23, none⟩ (.bool true)).setCell ⟨M, 24, none⟩ (.int .u32 r)) M MB cv pv sv S true r := by
  have hg := grown_trans (grown_setCell w ⟨M, 23, none⟩ (.bool true)) (grown_setCell (w.setCell ⟨M, 23, none⟩ (.bool true)) ⟨M, 24, none⟩ (.int .u32 r))
  refine ⟨grown_set (grown_set h.gr h.hM _) h.hM _, h.hM, h.hB, h.ne, ((h.m.set' (j := 23) (by omega) _).set' (j := 24) (by omega) _).congr fun j hj => ?_, h.st.other hg (fun g e => (h.own g e).1), h.own, h.mp.keep hg (by simp; exact fun e => h.ne e.symm)⟩
  unfold prow
  by_cases e : j = 24
  · subst e; rfl
  · by_cases e2 : j = 23
    · subst e2; rfl
    · simp only [if_neg e, if_neg e2]
      by_cases e3 : j < 23
      · simp only [if_pos e3]
      · omega

theorem PM.append (h : PM w0 w M MB cv pv sv S sd res) {g' cap' n' : Nat} {st' : Nat → Int} (hg0 : w0.grownBy w' none) (hg : w.grownBy w' sv.ownBlock)
    (ho : Out w' w0.heap.size 46 1 (.slice (some ⟨g', 0, none⟩) n' cap') n' (ints .u32 st')) (hor : sv.ownBlock = some g' ∨ w.heap.size ≤ g') :
    (w'.cell? ⟨M, 4, none⟩ = some sv ∧ w'.frozen? ⟨M, 4, none⟩ = false) ∧ PM w0 (w'.setCell ⟨M, 4, none⟩ (.slice (some ⟨g', 0, none⟩) n' cap')) M MB cv pv (.slice (some ⟨g', 0, none⟩) n' cap') ⟨S.pc, n', st', S.cs⟩ sd res := by
  have nM : some M ≠ sv.ownBlock := fun e => (h.own M e.symm).1 rfl
  have nB : some MB ≠ sv.ownBlock := fun e => (h.own MB e.symm).2 rfl
  have hm := h.m.keep hg nM
  have hb := h.mp.keep hg nB
  have own' : ∀ g, (Value.slice (some ⟨g', 0, none⟩) n' cap').ownBlock = some g → g ≠ M ∧ g ≠ MB := by
    intro g e
    have e2 : g' = g := by cases e; rfl
    subst e2
    rcases hor with e | e
    · exact h.own g' e
    · have := h.m.lt; have := h.mp.lt; exact ⟨by omega, by omega⟩
  refine ⟨⟨hm.cell (j := 4) (by omega), hm.frozen 4⟩, ?_⟩
  have hs := grown_setCell w' ⟨M, 4, none⟩ (.slice (some ⟨g', 0, none⟩) n' cap')
  refine ⟨grown_set hg0 h.hM _, h.hM, h.hB, h.ne, (hm.set' (j := 4) (by omega) _).congr fun j hj => ?_, ho.other hs (fun g e => (own' g e).1), own', hb.keep hs (by simp; exact fun e => h.ne e.symm)⟩
  unfold prow
  by_cases e : j = 4
  · subst e; rfl
  · simp only [if_neg e]

end

end Go.Proofs.Ythbcfepbkkbjiaa
