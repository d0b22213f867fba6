import Derived.MapKept
import Derived.Test.YthbcfepbkkbjiaaGreatDoorI1
import Derived.Test.YthbcfepbkkbjiaaGreatDoorI8
import Derived.Test.YthbcfepbkkbjiaaGreatDoorIE6
namespace Go.Proofs.YthbcfepbkkbjiaaGreatDoor
open Go.RowKit
def BMap (w : World) (b : Nat) (f : Int → Option Value) : Prop :=
  ∃ (es : Array MapEntry) (clock : Nat), w.heap[b]? = some (.map es clock) ∧ (∀ e ∈ es.toList, ∃ a, e.key = .int .u8 a) ∧
    (∀ (i j : Nat) (e e' : MapEntry), es.toList[i]? = some e → es.toList[j]? = some e' → e.key = e'.key → i = j) ∧
    ∀ C v, f C = some v ↔ ∃ e ∈ es.toList, e.key = .int .u8 C ∧ e.val = v
theorem BMap.lt {w : World} {b : Nat} {f : Int → Option Value} (h : BMap w b f) : b < w.heap.size := by
  obtain ⟨es, clock, h1, _⟩ := h
  exact (Array.getElem?_eq_some_iff.1 h1).1
theorem BMap.same {w w' : World} {b : Nat} {f : Int → Option Value} (h : BMap w b f) (hb : w'.heap[b]? = w.heap[b]?) : BMap w' b f := by
  obtain ⟨es, clock, h1, h2⟩ := h
  exact ⟨es, clock, by rw [hb]; exact h1, h2⟩
theorem BMap.keep {w w' : World} {b : Nat} {f : Int → Option Value} {row : Option Nat} (h : BMap w b f) (hg : w.grownBy w' row) (hr : some b ≠ row) : BMap w' b f := h.same (hg.block b h.lt hr)
end Go.Proofs.YthbcfepbkkbjiaaGreatDoor
namespace Go.Proofs.YthbcfepbkkbjiaaGreatDoor
open Go.RowKit
set_option linter.unusedVariables false
def shv (s : Shp) : Value := .agg #[.int .i64 s.wh, .int .i64 s.nb, .int .i64 s.po, .int .i64 s.pu]
def smap (c : Int) : Option Value := (shp c).map shv
theorem BMap.congr {w : World} {b : Nat} {f f' : Int → Option Value} (h : BMap w b f) (hf : ∀ D, f D = f' D) : BMap w b f' := by
  have : f = f' := funext hf
  rwa [this] at h
def prow (cv pv : Value) (MB pc : Nat) (sv : Value) (cs : Nat → Int) (sd : Bool) (res : Int) : Nat → Value := fun j =>
  if j = 0 then cv else if j = 1 then pv else if j = 2 then .map (some MB) else if j = 3 then .int .i64 pc else if j = 4 then sv else if j < 23 then .int .u32 (cs (j - 5)) else if j = 23 then .bool sd else .int .u32 res
structure PM (w0 w : World) (M MB : Nat) (cv pv sv : Value) (S : Mst) (sd : Bool) (res : Int) : Prop where
  gr : w0.grownBy w none
  hM : w0.heap.size ≤ M
  hB : w0.heap.size ≤ MB
  ne : M ≠ MB
  m : Blk w M 168 25 25 (prow cv pv MB S.pc sv S.cs sd res)
  st : Out w w0.heap.size 65 1 sv S.sp (ints .u32 S.st)
  own : ∀ g, sv.ownBlock = some g → g ≠ M ∧ g ≠ MB
  mp : BMap w MB smap
section
variable {w0 w w' : World} {M MB : Nat} {cv pv sv : Value} {S : Mst} {sd : Bool} {res : Int}
theorem PM.cells (h : PM w0 w M MB cv pv sv S sd res) :
    w.cell? ⟨M, 0, none⟩ = some cv ∧ w.cell? ⟨M, 1, none⟩ = some pv ∧ w.cell? ⟨M, 2, none⟩ = some (.map (some MB)) ∧ w.cell? ⟨M, 3, none⟩ = some (.int .i64 S.pc) ∧ w.cell? ⟨M, 4, none⟩ = some sv ∧ w.cell? ⟨M, 23, none⟩ = some (.bool sd) ∧ w.cell? ⟨M, 24, none⟩ = some (.int .u32 res) :=
  ⟨h.m.cell (j := 0) (by omega), h.m.cell (j := 1) (by omega), h.m.cell (j := 2) (by omega), h.m.cell (j := 3) (by omega), h.m.cell (j := 4) (by omega), h.m.cell (j := 23) (by omega), h.m.cell (j := 24) (by omega)⟩
theorem PM.keep (h : PM w0 w M MB cv pv sv S sd res) (hg : w.grownBy w' none) : PM w0 w' M MB cv pv sv S sd res :=
  ⟨grown_trans h.gr hg, h.hM, h.hB, h.ne, h.m.keep hg (by simp), h.st.keep hg (by simp), h.own, h.mp.keep hg (by simp)⟩
end
end Go.Proofs.YthbcfepbkkbjiaaGreatDoor
