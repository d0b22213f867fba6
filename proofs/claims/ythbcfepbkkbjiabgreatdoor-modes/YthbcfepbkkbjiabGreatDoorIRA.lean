import Derived.Test.YthbcfepbkkbjiabGreatDoorI3
import Derived.Test.YthbcfepbkkbjiabGreatDoorI8
namespace Go.Proofs.YthbcfepbkkbjiabGreatDoor
open Go.RowKit
set_option linter.unusedVariables false
set_option linter.unusedSimpArgs false
def F0 : Flt := ⟨0, 0, 0, fun _ => 0⟩
theorem finv0 {n : Nat} (h : 1 ≤ n) : FInv n F0 := ⟨by show 0 < n; omega, u32_zero, u32_zero, fun _ => u32_zero⟩
theorem runF_fin {q p : Nat → Int} {m k : Nat} {S : Flt} {R : Int} (hk : k < 256) (h : runF q p m (256 - k) S = R) (hd : (flt q p m S).done = true) : (flt q p m S).v = R := by
  rw [show 256 - k = (255 - k) + 1 by omega] at h
  unfold runF at h
  rwa [if_pos hd] at h
theorem runF_go {q p : Nat → Int} {m k : Nat} {S : Flt} {R : Int} (hk : k < 256) (h : runF q p m (256 - k) S = R) (hd : (flt q p m S).done = false) : runF q p m (256 - (k + 1)) (flt q p m S).S = R := by
  rw [show 256 - k = (255 - k) + 1 by omega] at h
  unfold runF at h
  rw [if_neg (by simp [hd])] at h
  rwa [show 256 - (k + 1) = 255 - k by omega]
def RunS (g : Nat → Int) (n : Nat) (p : Nat → Int) (m : Nat) (v E : Int) : Prop :=
  (E ≠ 0 ∧ v = 0 ∧ ∃ k, Chk g n E k) ∨ (Chk g n 0 0 ∧ ((2000 < m ∧ v = 0 ∧ E = 10) ∨ (m ≤ 2000 ∧ E = 0 ∧ v = runF (decs g) p m 256 F0)))
theorem RunS.one {g : Nat → Int} {n : Nat} {p : Nat → Int} {m : Nat} {v E v' E' : Int} (h : RunS g n p m v E) (h' : RunS g n p m v' E') : v = v' ∧ E = E' := by
  rcases h with ⟨h1, h2, k, h3⟩ | ⟨h1, h2⟩
  · rcases h' with ⟨_, g2, k', g3⟩ | ⟨g1, _⟩
    · exact ⟨h2.trans g2.symm, (h3.one g3).1⟩
    · exact absurd (h3.one g1).1 h1
  · rcases h' with ⟨g1, _, k', g3⟩ | ⟨_, g2⟩
    · exact absurd (g3.one h1).1 g1
    · rcases h2 with ⟨a1, a2, a3⟩ | ⟨a1, a2, a3⟩
      · rcases g2 with ⟨b1, b2, b3⟩ | ⟨b1, _⟩
        · exact ⟨a2.trans b2.symm, a3.trans b3.symm⟩
        · omega
      · rcases g2 with ⟨b1, _⟩ | ⟨_, b2, b3⟩
        · omega
        · exact ⟨a3.trans b3.symm, a2.trans b2.symm⟩
theorem chk_ne {g : Nat → Int} {n : Nat} {E : Int} {k : Nat} (h : Chk g n E k) (hno : ¬ Chk g n 0 0) : E ≠ 0 := fun e => by
  subst e
  apply hno
  rcases h with ⟨h1, h2, h3⟩ | ⟨h1, h2⟩
  · cases h2
  · refine Or.inr ⟨h1, ?_⟩
    rcases h2 with ⟨_, a2, _, a4⟩ | ⟨a1, a2⟩
    · exact absurd a4.symm a2
    · rcases a2 with ⟨_, a3, _⟩ | ⟨a3, a4⟩
      · cases a3
      · rcases a4 with ⟨_, _, _, h⟩ | ⟨b1, b2, b3⟩
        · cases h
        · exact Or.inr ⟨a1, Or.inr ⟨a3, Or.inr ⟨b1, rfl, rfl⟩⟩⟩
theorem chk_good {g : Nat → Int} {n : Nat} (hg : Oct g) (h : Chk g n 0 0) : ¬ badSize n ∧ Good (decs g) (n / 8) := by
  rcases h with ⟨_, h, _⟩ | ⟨h1, h2⟩
  · cases h
  · refine ⟨h1, ?_⟩
    have hn : 1 ≤ n / 8 := by unfold badSize at h1; omega
    rcases h2 with ⟨_, a2, _, a4⟩ | ⟨a1, a2⟩
    · exact absurd a4.symm a2
    · rcases a2 with ⟨_, a3, _⟩ | ⟨a3, _⟩
      · cases a3
      · exact ⟨decs_num hg, a1, a3, hn⟩
end Go.Proofs.YthbcfepbkkbjiabGreatDoor
