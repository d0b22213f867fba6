import Derived.Test.YthbcfepbkkbjiabGreatDoorJDP
import Derived.Test.YthbcfepbkkbjiabGreatDoorJK
namespace Go.Proofs.YthbcfepbkkbjiabGreatDoor
open Go.RowKit
set_option linter.unusedVariables false
set_option linter.unusedSimpArgs false
def Cell5 (w : World) (B i b : Nat) (x0 x1 x2 x3 : Int) : Prop := w.cell? ⟨B, i, none⟩ = some (.slice (some ⟨b, 0, none⟩) 4 4) ∧ w.cell? ⟨b, 0, none⟩ = some (.int .i64 x0) ∧ w.cell? ⟨b, 1, none⟩ = some (.int .i64 x1) ∧ w.cell? ⟨b, 2, none⟩ = some (.int .i64 x2) ∧ w.cell? ⟨b, 3, none⟩ = some (.int .i64 x3)
theorem Cell5.keep {w w' : World} {B i b : Nat} {x0 x1 x2 x3 : Int} {ob : Option Nat} (h : Cell5 w B i b x0 x1 x2 x3) (hg : w.grownBy w' ob) (h1 : some B ≠ ob) (h2 : some b ≠ ob) : Cell5 w' B i b x0 x1 x2 x3 :=
  ⟨hg.cell h.1 h1, hg.cell h.2.1 h2, hg.cell h.2.2.1 h2, hg.cell h.2.2.2.1 h2, hg.cell h.2.2.2.2 h2⟩
end Go.Proofs.YthbcfepbkkbjiabGreatDoor
namespace Go.Proofs.YthbcfepbkkbjiabGreatDoor
open Go.RowKit
set_option linter.unusedVariables false
set_option linter.unusedSimpArgs false
theorem chk_of {u : Nat → Int} {L : Nat} (h1 : 1 ≤ L) (h2 : L ≤ 256) (hw : ∀ j, j < L → wrong (decs (encs u)) L j = 0) (hl : (kd (decs (encs u) (4 * (L - 1)))).kind = 12) (hb : ∀ j, j < L → ¬ bad (decs (encs u)) j) : Chk (encs u) (8 * L) 0 0 := by
  refine Or.inr ⟨by unfold badSize; omega, ?_⟩
  rw [show 8 * L / 8 = L by omega]
  exact Or.inr ⟨hw, Or.inr ⟨hl, Or.inr ⟨hb, rfl, rfl⟩⟩⟩
theorem decs_all {u : Nat → Int} {L : Nat} (h : ∀ i, i < L → Room u i) (j : Nat) (hj : j < 4 * L) : decs (encs u) j = u j := by
  obtain ⟨d0, d1, d2, d3⟩ := decs_encs (h (j / 4) (by omega))
  have h4 : j % 4 = 0 ∨ j % 4 = 1 ∨ j % 4 = 2 ∨ j % 4 = 3 := by omega
  rcases h4 with e | e | e | e
  · rw [show 4 * (j / 4) = j by omega] at d0; exact d0
  · rw [show 4 * (j / 4) + 1 = j by omega] at d1; exact d1
  · rw [show 4 * (j / 4) + 2 = j by omega] at d2; exact d2
  · rw [show 4 * (j / 4) + 3 = j by omega] at d3; exact d3
theorem runF_done {q p : Nat → Int} {m f : Nat} {S : Flt} {v : Int} (h : flt q p m S = ⟨S, v, true⟩) : runF q p m (f + 1) S = v := by
  simp [runF, h]
theorem kd6 : kd 6 = ⟨6, 12, 0, false, 0, 11⟩ := rfl
set_option maxRecDepth 100000 in
theorem kpacket (ao : Option Addr) (n c : Nat) (w : World) (hn : n ≤ maxLen) (hc : n ≤ c) :
    Calls Tryz.prog 10 #[.slice ao n c] w fun e w' => e = .returned (.slice ao (min n 2000 : Nat) c) ∧ w' = w := by
  by_cases h : n ≤ 2000
  · have h1 : ¬ ((2000 : Int) < (n : Int)) := by omega
    go_enter Tryz.func10, Tryz.ntmps10
    go_wp2
    go_ret
    exact ⟨rfl, rfl⟩
  · have h1 : (2000 : Int) < (n : Int) := by omega
    have h2 : (2000 : Int) ≤ (c : Int) := by omega
    go_enter Tryz.func10, Tryz.ntmps10
    go_wp2
    go_ret
    exact ⟨by first | rfl | (rw [Nat.min_eq_right (by omega)]; rfl), rfl⟩
end Go.Proofs.YthbcfepbkkbjiabGreatDoor
