/- The cells that are written on all ways, and the reference's ways on which one is not: the two say the same. -/
import Derived.Test.YthbcfepbkkbjiaaDoorZ6
import Derived.Test.YthbcfepbkkbjiaaDoorV8
namespace Go.Proofs.YthbcfepbkkbjiaaDoor
open Go.RowKit
set_option linter.unusedVariables false

/-- Behind k instructions: a place may be come to without the cell being written, just if the map has the place, and there the cell is not in the set. -/
def Cov (q : Nat → Int) (k : Nat) (W : Int → Option Nat) : Prop :=
  (∀ C v, W C = some v → v < 65536) ∧ ∀ c : Nat, c < 16 → ∀ j : Nat, (there q (c : Int) k j = true ↔ ∃ v, W (j : Int) = some v ∧ v.testBit c = false)

/-- the like, while t of the ways on from k have been joined -/
def CovT (q : Nat → Int) (k v' t : Nat) (W : Int → Option Nat) : Prop :=
  (∀ C v, W C = some v → v < 65536) ∧ ∀ c : Nat, c < 16 → ∀ j : Nat, ((there q (c : Int) k j = true ∨ (v'.testBit c = false ∧ ∃ i, i < t ∧ (nx q k).getD i 0 = (j : Int))) ↔ ∃ v, W (j : Int) = some v ∧ v.testBit c = false)

def W0 (C : Int) : Option Nat := if C = 0 then some 0 else none

theorem cov_zero (q : Nat → Int) : Cov q 0 W0 := by
  refine ⟨fun C v h => ?_, fun c hc j => ?_⟩
  · unfold W0 at h
    split at h
    · cases h; omega
    · cases h
  · unfold there W0
    by_cases h : j = 0
    · subst h; simp
    · simp [h]

theorem covT_zero {q : Nat → Int} {k v' : Nat} {W : Int → Option Nat} (h : Cov q k W) : CovT q k v' 0 W :=
  ⟨h.1, fun c hc j => by rw [← h.2 c hc j]; simp⟩

theorem covT_succ {q : Nat → Int} {k v' t : Nat} {W : Int → Option Nat} (hv : v' < 65536) (h : CovT q k v' t W) : CovT q k v' (t + 1) (joined W ((nx q k).getD t 0) v') := by
  obtain ⟨h1, h2⟩ := h
  refine ⟨fun C v hC => ?_, fun c hc j => ?_⟩
  · unfold joined at hC
    split at hC
    · rename_i e
      subst e
      cases hp : W ((nx q k).getD t 0) with
      | none => rw [hp] at hC; cases hC; exact hv
      | some u =>
        rw [hp] at hC
        simp only [Option.some.injEq] at hC
        subst hC
        exact Nat.lt_of_le_of_lt Nat.and_le_left hv
    · exact h1 C v hC
  · have IH := h2 c hc j
    unfold joined
    by_cases e : (j : Int) = (nx q k).getD t 0
    · rw [if_pos e, ← e]
      cases hp : W (j : Int) with
      | none =>
        rw [hp] at IH
        simp only [reduceCtorEq, false_and, exists_false, iff_false, not_or] at IH
        obtain ⟨i1, i2⟩ := IH
        simp only [Option.some.injEq, exists_eq_left']
        constructor
        · rintro (x | ⟨x, _⟩)
          · exact absurd x i1
          · exact x
        · intro x
          exact Or.inr ⟨x, t, by omega, e.symm⟩
      | some u =>
        rw [hp] at IH
        simp only [Option.some.injEq, exists_eq_left'] at IH ⊢
        rw [Nat.testBit_and, Bool.and_eq_false_iff, ← IH]
        constructor
        · rintro (x | ⟨x, i, hi, hx⟩)
          · exact Or.inr (Or.inl x)
          · exact Or.inl x
        · rintro (x | x | ⟨x, i, hi, hx⟩)
          · exact Or.inr ⟨x, t, by omega, e.symm⟩
          · exact Or.inl x
          · exact Or.inr ⟨x, i, by omega, hx⟩
    · rw [if_neg e, ← IH]
      constructor
      · rintro (x | ⟨x, i, hi, hx⟩)
        · exact Or.inl x
        · have : i ≠ t := fun ei => by subst ei; exact e hx.symm
          exact Or.inr ⟨x, i, by omega, hx⟩
      · rintro (x | ⟨x, i, hi, hx⟩)
        · exact Or.inl x
        · exact Or.inr ⟨x, i, by omega, hx⟩

theorem bset_all (f : Nat → Bool) (l : List Int) (j : Nat) : bset f l l.length j = true ↔ (f j = true ∨ ∃ i, i < l.length ∧ l.getD i 0 = (j : Int)) := by
  unfold bset
  rw [Bool.or_eq_true, List.take_length, List.any_eq_true]
  constructor
  · rintro (x | ⟨x, hx, e⟩)
    · exact Or.inl x
    · obtain ⟨i, hi, rfl⟩ := List.getElem_of_mem hx
      exact Or.inr ⟨i, hi, by simpa [List.getD, hi] using e⟩
  · rintro (x | ⟨i, hi, e⟩)
    · exact Or.inl x
    · exact Or.inr ⟨l[i], List.getElem_mem hi, by simpa [List.getD, hi] using e⟩

/-- What is written behind instruction k, on all ways to it. -/
def Left (q : Nat → Int) (k v' : Nat) : Prop := v' < 65536 ∧ ∀ c : Nat, c < 16 → (v'.testBit c = false ↔ there q (c : Int) k k = true ∧ ¬ ((kd (q (4 * k))).kind = 6 ∧ q (4 * k + 3) = (c : Int)))

theorem covT_all {q : Nat → Int} {k v' : Nat} {W : Int → Option Nat} (hl : Left q k v') (h : CovT q k v' (nx q k).length W) : Cov q (k + 1) W := by
  refine ⟨h.1, fun c hc j => ?_⟩
  rw [← h.2 c hc j, there]
  by_cases e : there q (c : Int) k k = true ∧ ¬ ((kd (q (4 * k))).kind = 6 ∧ q (4 * k + 3) = (c : Int))
  · rw [if_pos e, bset_all]
    have := (hl.2 c hc).2 e
    simp only [this, true_and]
  · rw [if_neg e]
    have : ¬ v'.testBit c = false := fun x => e ((hl.2 c hc).1 x)
    exact ⟨Or.inl, fun x => x.elim id (fun y => absurd y.1 this)⟩

theorem cov_skip {q : Nat → Int} {k : Nat} {W : Int → Option Nat} (hW : W (k : Int) = none) (h : Cov q k W) : Cov q (k + 1) W := by
  refine ⟨h.1, fun c hc j => ?_⟩
  have hno : ¬ there q (c : Int) k k = true := fun x => by
    obtain ⟨v, hv, _⟩ := (h.2 c hc k).1 x
    rw [hW] at hv; cases hv
  rw [← h.2 c hc j, there, if_neg (fun e => hno e.1)]

theorem cov_skip_ok {q : Nat → Int} {k K : Nat} {W : Int → Option Nat} (hW : W (k : Int) = none) (h : Cov q k W) (hK : (kd (q (4 * k))).kind = 3 → K < 16 ∧ q (4 * k + 3) = (K : Int)) : ¬ bad q k := by
  rintro ⟨b1, b2⟩
  obtain ⟨k1, k2⟩ := hK b1
  rw [k2] at b2
  obtain ⟨v, hv, _⟩ := (h.2 K k1 k).1 b2
  rw [hW] at hv; cases hv

theorem and_bit (v K : Nat) : (v &&& 2 ^ K = 0) ↔ v.testBit K = false := by
  constructor
  · intro h
    have := congrArg (fun x => x.testBit K) h
    simpa [Nat.testBit_and, Nat.testBit_two_pow_self] using this
  · intro h
    apply Nat.eq_of_testBit_eq
    intro i
    rw [Nat.testBit_and, Nat.testBit_two_pow, Nat.zero_testBit]
    by_cases e : K = i
    · subst e; simp [h]
    · simp [e]

/-- a read: the cell is in the set, or the read is bad -/
theorem cov_read {q : Nat → Int} {k K v : Nat} {W : Int → Option Nat} (hW : W (k : Int) = some v) (h : Cov q k W) (hk : (kd (q (4 * k))).kind = 3) (k1 : K < 16) (k2 : q (4 * k + 3) = (K : Int)) : (v &&& 2 ^ K = 0) ↔ bad q k := by
  rw [and_bit]
  unfold bad
  rw [k2, h.2 K k1 k, hW]
  simp [hk]

theorem left_same {q : Nat → Int} {k v : Nat} {W : Int → Option Nat} (hW : W (k : Int) = some v) (h : Cov q k W) (hk : (kd (q (4 * k))).kind ≠ 6) : Left q k v := by
  refine ⟨h.1 _ _ hW, fun c hc => ?_⟩
  rw [h.2 c hc k, hW]
  simp [hk]

theorem left_or {q : Nat → Int} {k K v : Nat} {W : Int → Option Nat} (hW : W (k : Int) = some v) (h : Cov q k W) (hk : (kd (q (4 * k))).kind = 6) (k1 : K < 16) (k2 : q (4 * k + 3) = (K : Int)) : Left q k (v ||| 2 ^ K) := by
  have hv := h.1 _ _ hW
  have hp : 2 ^ K < 2 ^ 16 := Nat.pow_lt_pow_right (by omega) k1
  refine ⟨Nat.or_lt_two_pow (by omega) hp, fun c hc => ?_⟩
  rw [h.2 c hc k, hW, k2, Nat.testBit_or, Nat.testBit_two_pow]
  by_cases e : K = c
  · subst e; simp [hk]
  · have : ¬ (K : Int) = (c : Int) := by omega
    simp [hk, e, this]

theorem bad_kind {q : Nat → Int} {k : Nat} (h : (kd (q (4 * k))).kind ≠ 3) : ¬ bad q k := fun b => h b.1

end Go.Proofs.YthbcfepbkkbjiaaDoor
