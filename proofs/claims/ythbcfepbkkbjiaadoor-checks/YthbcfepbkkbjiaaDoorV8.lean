/- The walk of the reference's Check; what it says. -/
import Derived.Test.YthbcfepbkkbjiaaDoorV7
import Derived.Test.YthbcfepbkkbjiaaDoorU
namespace Go.Proofs.YthbcfepbkkbjiaaDoor
open Go.RowKit

/-- a cell that may be read ahead of being written -/
def bad (q : Nat → Int) (i : Nat) : Prop := (kd (q (4 * i))).kind = 3 ∧ there q (q (4 * i + 3)) i i = true

/-- What Check tells of n instructions: the error, the place. -/
def Spec (q : Nat → Int) (n : Nat) (E : Int) (p : Nat) : Prop :=
  (p < n ∧ wrong q n p ≠ 0 ∧ (∀ j, j < p → wrong q n j = 0) ∧ E = wrong q n p) ∨
  ((∀ j, j < n → wrong q n j = 0) ∧
    (((kd (q (4 * (n - 1)))).kind ≠ 12 ∧ E = 7 ∧ p = n - 1) ∨
     ((kd (q (4 * (n - 1)))).kind = 12 ∧ ((p < n ∧ bad q p ∧ (∀ j, j < p → ¬ bad q j) ∧ E = 8) ∨ ((∀ j, j < n → ¬ bad q j) ∧ E = 0 ∧ p = 0)))))

/-- it tells one thing -/
theorem Spec.one {q : Nat → Int} {n : Nat} {E E' : Int} {p p' : Nat} (h : Spec q n E p) (h' : Spec q n E' p') : E = E' ∧ p = p' := by
  rcases h with ⟨a1, a2, a3, a4⟩ | ⟨a1, a2⟩
  · rcases h' with ⟨b1, b2, b3, b4⟩ | ⟨b1, _⟩
    · have : p = p' := by
        rcases Nat.lt_trichotomy p p' with h | h | h
        · exact absurd (b3 p h) a2
        · exact h
        · exact absurd (a3 p' h) b2
      subst this
      exact ⟨a4.trans b4.symm, rfl⟩
    · exact absurd (b1 p a1) a2
  · rcases h' with ⟨b1, b2, _⟩ | ⟨b1, b2⟩
    · exact absurd (a1 p' b1) b2
    · rcases a2 with ⟨c1, c2, c3⟩ | ⟨c1, c2⟩
      · rcases b2 with ⟨d1, d2, d3⟩ | ⟨d1, _⟩
        · exact ⟨c2.trans d2.symm, c3.trans d3.symm⟩
        · exact absurd d1 c1
      · rcases b2 with ⟨d1, _⟩ | ⟨d1, d2⟩
        · exact absurd c1 d1
        · rcases c2 with ⟨e1, e2, e3, e4⟩ | ⟨e1, e2, e3⟩
          · rcases d2 with ⟨f1, f2, f3, f4⟩ | ⟨f1, _⟩
            · have : p = p' := by
                rcases Nat.lt_trichotomy p p' with h | h | h
                · exact absurd e2 (f3 p h)
                · exact h
                · exact absurd f2 (e3 p' h)
              exact ⟨e4.trans f4.symm, this⟩
            · exact absurd e2 (f1 p e1)
          · rcases d2 with ⟨f1, f2, _⟩ | ⟨f1, f2, f3⟩
            · exact absurd f2 (e1 p' f1)
            · exact ⟨e2.trans f2.symm, e3.trans f3.symm⟩

/-- What Check tells of bytes. -/
def Chk (g : Nat → Int) (n : Nat) (E : Int) (p : Nat) : Prop := (badSize n ∧ E = 1 ∧ p = 0) ∨ (¬ badSize n ∧ Spec (decs g) (n / 8) E p)

theorem Chk.one {g : Nat → Int} {n : Nat} {E E' : Int} {p p' : Nat} (h : Chk g n E p) (h' : Chk g n E' p') : E = E' ∧ p = p' := by
  rcases h with ⟨a1, a2, a3⟩ | ⟨a1, a2⟩
  · rcases h' with ⟨_, b2, b3⟩ | ⟨b1, _⟩
    · exact ⟨a2.trans b2.symm, a3.trans b3.symm⟩
    · exact absurd a1 b1
  · rcases h' with ⟨b1, _⟩ | ⟨_, b2⟩
    · exact absurd b1 a1
    · exact a2.one b2

theorem decs_num {g : Nat → Int} (hg : Oct g) : Num (decs g) := fun j => by
  have h : ∀ i, 0 ≤ g i ∧ g i ≤ 255 := hg
  unfold decs num2 num4
  have a0 := h (8 * (j / 4))
  have a1 := h (8 * (j / 4) + 1)
  have a2 := h (8 * (j / 4) + 2)
  have a3 := h (8 * (j / 4) + 3)
  have a4 := h (8 * (j / 4) + 4)
  have a5 := h (8 * (j / 4) + 4 + 1)
  have a6 := h (8 * (j / 4) + 4 + 2)
  have a7 := h (8 * (j / 4) + 4 + 3)
  split
  · omega
  · split
    · omega
    · split
      · omega
      · omega

/-- where nothing is wrong no jump leads away -/
theorem nx_in {q : Nat → Int} {n : Nat} (hq : Num q) (h : ∀ j, j < n → wrong q n j = 0) : ∀ i, i < n → ∀ t, t < (nx q i).length → 0 ≤ (nx q i).getD t 0 ∧ (nx q i).getD t 0 ≤ n := by
  intro i hi t ht
  have hw := h i hi
  have z1 := hq (4 * i + 1)
  have z2 := hq (4 * i + 2)
  have z3 := hq (4 * i + 3)
  have pos : 0 ≤ (nx q i).getD t 0 := by
    revert ht
    unfold nx
    split
    · intro ht; simp at ht
    · split
      · intro ht
        match t, ht with
        | 0, _ => simp; omega
      · split
        · intro ht
          match t, ht with
          | 0, _ => simp; omega
          | 1, _ => simp; omega
        · intro ht
          match t, ht with
          | 0, _ => simp; omega
  refine ⟨pos, ?_⟩
  by_cases hk : (kd (q (4 * i))).kind = 10 ∨ (kd (q (4 * i))).kind = 11
  · by_cases hge : (n : Int) ≤ (nx q i).getD t 0
    · exfalso
      have ha := any_le (nx q i) n t ht hge
      unfold wrong wrg at hw
      have hne8 : ¬ (kd (q (4 * i))).kind = 8 := by rcases hk with hk | hk <;> simp [hk]
      have hne3 : ¬ ((kd (q (4 * i))).kind = 3 ∨ (kd (q (4 * i))).kind = 6) := by rcases hk with hk | hk <;> simp [hk]
      by_cases hok : okk (q (4 * i)) = false
      · rw [if_pos hok] at hw; omega
      · rw [if_neg hok, if_neg (by simp [hne8]), if_neg (by simp [hne8]), if_neg (by simp [hne3]), if_pos ⟨hk, ha⟩] at hw
        omega
    · omega
  · revert ht
    unfold nx
    split
    · intro ht; simp at ht
    · split
      · exact absurd (Or.inl ‹_›) hk
      · split
        · exact absurd (Or.inr ‹_›) hk
        · intro ht
          match t, ht with
          | 0, _ => simp; omega

end Go.Proofs.YthbcfepbkkbjiaaDoor
