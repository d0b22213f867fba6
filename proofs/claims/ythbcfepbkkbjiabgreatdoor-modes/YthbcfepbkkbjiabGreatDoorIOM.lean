import Derived.ProofKit
import Derived.OpenShut
import Derived.ChangeOld
import Derived.SizedLaws
import Derived.Deep.Slices
import Derived.Deep.Matrix
import Derived.Deep.Grids
import Derived.Test.YthbcfepbkkbjiabGreatDoorI2
namespace Go.Proofs.YthbcfepbkkbjiabGreatDoor
open Go.RowKit
set_option linter.unusedVariables false
def Mat (w : World) (po : Option Addr) (n : Nat) (A : Nat → Option Addr) (L C : Nat → Nat) (G : Nat → Nat → Int) : Prop :=
  (∀ r, r < n → L r ≤ C r ∧ C r ≤ maxLen ∧ Oct (G r) ∧ Src w .u8 (A r) (L r) (G r)) ∧ (0 < n → ∃ b off, po = some ⟨b, off, none⟩ ∧ ∀ r, r < n → w.cell? ⟨b, off + r, none⟩ = some (.slice (A r) (L r) (C r)))
theorem Mat.keep {w w' : World} {po : Option Addr} {n : Nat} {A : Nat → Option Addr} {L C : Nat → Nat} {G : Nat → Nat → Int} (h : Mat w po n A L C G) (hg : w.grownBy w' none) : Mat w' po n A L C G := by
  refine ⟨fun r hr => ⟨(h.1 r hr).1, (h.1 r hr).2.1, (h.1 r hr).2.2.1, (h.1 r hr).2.2.2.keep hg⟩, fun hn => ?_⟩
  obtain ⟨b, off, e, hc⟩ := h.2 hn
  exact ⟨b, off, e, fun r hr => hg.cell (hc r hr) (by simp)⟩
theorem Mat.at {w : World} {po : Option Addr} {n : Nat} {A : Nat → Option Addr} {L C : Nat → Nat} {G : Nat → Nat → Int} (h : Mat w po n A L C G) {r : Nat} (hr : r < n) : ∃ b off, po = some ⟨b, off, none⟩ ∧ w.cell? ⟨b, off + r, none⟩ = some (.slice (A r) (L r) (C r)) ∧ L r ≤ C r ∧ C r ≤ maxLen ∧ Oct (G r) ∧ Src w .u8 (A r) (L r) (G r) := by
  obtain ⟨b, off, e, hc⟩ := h.2 (by omega)
  obtain ⟨h1, h2, h3, h4⟩ := h.1 r hr
  exact ⟨b, off, e, hc r hr, h1, h2, h3, h4⟩
end Go.Proofs.YthbcfepbkkbjiabGreatDoor
namespace Go.Proofs.YthbcfepbkkbjiabGreatDoor
open Go.ChangeShapes Go.WideShapes Go.ChangeAt Go.RowKit Go.Deep
theorem Tryz.own : ownKnob Tryz.prog.godebug = none := by kernel_rfl
theorem Tryz.laidOut : laidOutB Tryz.prog = true := by kernel_rfl
theorem Tryz.cellsByte : Tryz.prog.cellsOf 5 = 1 := by kernel_rfl
theorem Tryz.cellsInt : Tryz.prog.cellsOf 3 = 1 := by kernel_rfl
section
variable {H : Type} {enc : TypeId × Value → H} {w : World} {base : Nat} {held : Bool}
def Fits64 (c : Int) : Prop := -9223372036854775808 ≤ c ∧ c ≤ 9223372036854775807
theorem fits64_of {c : Int} (h : (Lit.int .i64 c).wf = true) : Fits64 c := bounds_i64 h
end
end Go.Proofs.YthbcfepbkkbjiabGreatDoor
namespace Go.Proofs.YthbcfepbkkbjiabGreatDoor
open Go.ChangeShapes Go.WideShapes Go.ChangeAt Go.RowKit Go.Deep
set_option linter.unusedVariables false
theorem Tryz.cellsBytes : Tryz.prog.cellsOf 28 = 1 := by kernel_rfl
theorem oct_getD {zs : List Int} (h : ∀ n ∈ zs, (Lit.int .u8 n).wf = true) : Oct (fun j => zs.getD j 0) := fun j => by
  by_cases hj : j < zs.length
  · have := h zs[j] (List.getElem_mem hj)
    simp only [Lit.wf, IntKind.min, IntKind.max, IntKind.signed, IntKind.bits, Bool.and_eq_true] at this
    simp [List.getD, hj]
    simp at this
    omega
  · simp [List.getD, List.getElem?_eq_none (by omega : zs.length ≤ j)]
theorem add_none (b off j : Nat) : (⟨b, off, none⟩ : Addr).add j = ⟨b, off + j, none⟩ := by unfold Addr.add; split <;> simp_all
section
variable {H : Type} {enc : TypeId × Value → H} {w : World} {base : Nat} {held : Bool}
theorem open_mat {fuel : Nat} {po : Option Addr} {n pc : Nat} {x : DataW H × List MemPlace} (h : DataW.trod enc Tryz.prog w base (fun _ => true) held fuel 24 [.slice po n pc] = some x) :
    ∃ A L C G, Mat w po n A L C G ∧ n ≤ pc ∧ pc ≤ maxLen := by
  rcases open_int_rows Tryz.underlying24 Tryz.underlying28 Tryz.underlying5 Tryz.cellsBytes Tryz.cellsByte h with ⟨hcs, _⟩ | ⟨a, l, c, A, L, C, Z, hcs, _, hl, hm, _, hr⟩
  · simp at hcs
    obtain ⟨rfl, rfl, rfl⟩ := hcs
    exact ⟨fun _ => none, fun _ => 0, fun _ => 0, fun _ _ => 0, ⟨fun r hr => by omega, fun h => by omega⟩, Nat.le_refl _, Nat.zero_le _⟩
  · simp at hcs
    obtain ⟨rfl, rfl, rfl⟩ := hcs
    refine ⟨A, L, C, fun r j => (Z r).getD j 0, ⟨fun r hrn => ?_, fun hn => ?_⟩, hl, hm⟩
    · obtain ⟨_, h1, h2, h3, h4, h5, h6⟩ := hr r (by omega)
      refine ⟨h1, h2, oct_getD h4, fun hp => ?_⟩
      cases e : A r with
      | none => have := h5 e; omega
      | some a' =>
        obtain ⟨_, h7⟩ := h6 a' e
        obtain ⟨b, off, spot⟩ := a'
        have hspot : spot = none := by simpa [Addr.add] using World.cell?_spot (h7 0 (by omega))
        subst hspot
        refine ⟨b, off, rfl, fun j hj => ?_⟩
        have := h7 j (by omega)
        rw [add_none] at this
        exact this
    · obtain ⟨b, off, spot⟩ := a
      have hspot : spot = none := by simpa [Addr.add] using World.cell?_spot (hr 0 (by omega)).1
      subst hspot
      refine ⟨b, off, rfl, fun r hrn => ?_⟩
      have := (hr r (by omega)).1
      rw [add_none] at this
      exact this
theorem open_nums {fuel : Nat} {ao : Option Addr} {n c : Nat} {x : DataW H × List MemPlace} (h : DataW.trod enc Tryz.prog w base (fun _ => true) held fuel 22 [.slice ao n c] = some x) :
    ∃ g, (∀ j, j < n → Fits64 (g j)) ∧ Src w .i64 ao n g ∧ n ≤ c ∧ c ≤ maxLen := by
  rcases open_ints Tryz.underlying22 Tryz.underlying3 Tryz.cellsInt h with ⟨hcs, _⟩ | ⟨a, l, c', zs, hcs, _, hl, hm, hz, hx, hcell, hwz⟩
  · simp at hcs
    obtain ⟨rfl, rfl, rfl⟩ := hcs
    exact ⟨fun _ => 0, fun j hj => by omega, fun h => by omega, Nat.le_refl _, Nat.zero_le _⟩
  · simp at hcs hz
    obtain ⟨rfl, rfl, rfl⟩ := hcs
    refine ⟨fun j => zs.getD j 0, fun j hj => ?_, fun hp => ?_, hl, hm⟩
    · have hj' : j < zs.length := by omega
      have := fits64_of (hwz zs[j] (List.getElem_mem hj'))
      simpa [List.getD, hj'] using this
    · obtain ⟨b, off, spot⟩ := a
      have hspot : spot = none := by simpa [Addr.add] using World.cell?_spot (hcell 0 (by omega))
      subst hspot
      refine ⟨b, off, rfl, fun j hj => ?_⟩
      have hc := hcell j (by omega)
      rw [add_none] at hc
      exact hc
end
end Go.Proofs.YthbcfepbkkbjiabGreatDoor
namespace Go.Proofs.YthbcfepbkkbjiabGreatDoor
open Go.ChangeShapes Go.WideShapes Go.ChangeAt Go.RowKit Go.Deep
set_option linter.unusedVariables false
theorem Tryz.cellsBool : Tryz.prog.cellsOf 4 = 1 := by kernel_rfl
def Flags (w : World) (ao : Option Addr) (n : Nat) (g : Nat → Bool) : Prop := 0 < n → ∃ b off, ao = some ⟨b, off, none⟩ ∧ ∀ j, j < n → w.cell? ⟨b, off + j, none⟩ = some (.bool (g j))
theorem Flags.keep {w w' : World} {ao : Option Addr} {n : Nat} {g : Nat → Bool} (h : Flags w ao n g) (hg : w.grownBy w' none) : Flags w' ao n g := fun hn => by
  obtain ⟨b, off, e, hr⟩ := h hn
  exact ⟨b, off, e, fun j hj => hg.cell (hr j hj) (by simp)⟩
theorem open_flags {H : Type} {enc : TypeId × Value → H} {w : World} {base : Nat} {held : Bool} {fuel : Nat} {ao : Option Addr} {n c : Nat} {x : DataW H × List MemPlace} (h : DataW.trod enc Tryz.prog w base (fun _ => true) held fuel 23 [.slice ao n c] = some x) :
    ∃ g, Flags w ao n g ∧ n ≤ c ∧ c ≤ maxLen := by
  rcases open_bools Tryz.underlying23 Tryz.underlying4 Tryz.cellsBool h with ⟨hcs, _⟩ | ⟨a, l, c', B, hcs, _, hl, hm, hx, hcell⟩
  · simp at hcs
    obtain ⟨rfl, rfl, rfl⟩ := hcs
    exact ⟨fun _ => false, fun h => by omega, Nat.le_refl _, Nat.zero_le _⟩
  · simp at hcs
    obtain ⟨rfl, rfl, rfl⟩ := hcs
    refine ⟨B, fun hp => ?_, hl, hm⟩
    obtain ⟨b, off, spot⟩ := a
    have hspot : spot = none := by simpa [Addr.add] using World.cell?_spot (hcell 0 (by omega))
    subst hspot
    refine ⟨b, off, rfl, fun j hj => ?_⟩
    have hc := hcell j (by omega)
    rw [add_none] at hc
    exact hc
end Go.Proofs.YthbcfepbkkbjiabGreatDoor
