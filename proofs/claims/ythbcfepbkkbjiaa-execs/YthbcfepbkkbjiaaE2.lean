/- The machine that code is for, as the document tells it: a state, what fits, a step, all steps. -/
import Derived.Test.YthbcfepbkkbjiaaE1
namespace Go.Proofs.Ythbcfepbkkbjiaa
open Go.RowKit

/-- of an instruction: bytes that tell which, bytes of a number, words that are popped, pushed -/
structure Shp where
  wh : Nat
  nb : Nat
  po : Nat
  pu : Nat

def shp (c : Int) : Option Shp :=
  if c = 1 then some ⟨0, 4, 0, 1⟩ else if c = 2 then some ⟨1, 0, 0, 1⟩ else if c = 3 then some ⟨1, 0, 1, 0⟩ else if c = 4 then some ⟨1, 0, 2, 1⟩ else if c = 5 then some ⟨1, 0, 2, 1⟩
  else if c = 6 then some ⟨0, 0, 0, 1⟩ else if c = 7 then some ⟨0, 2, 0, 0⟩ else if c = 8 then some ⟨1, 2, 2, 0⟩ else if c = 9 then some ⟨0, 0, 1, 0⟩ else none

theorem shp_cases {c : Int} {s : Shp} (h : shp c = some s) :
    (c = 1 ∧ s = ⟨0, 4, 0, 1⟩) ∨ (c = 2 ∧ s = ⟨1, 0, 0, 1⟩) ∨ (c = 3 ∧ s = ⟨1, 0, 1, 0⟩) ∨ (c = 4 ∧ s = ⟨1, 0, 2, 1⟩) ∨ (c = 5 ∧ s = ⟨1, 0, 2, 1⟩) ∨ (c = 6 ∧ s = ⟨0, 0, 0, 1⟩) ∨ (c = 7 ∧ s = ⟨0, 2, 0, 0⟩) ∨ (c = 8 ∧ s = ⟨1, 2, 2, 0⟩) ∨ (c = 9 ∧ s = ⟨0, 0, 1, 0⟩) := by
  unfold shp at h
  split at h
  · exact Or.inl ⟨‹_›, by cases h; rfl⟩
  split at h
  · exact Or.inr (Or.inl ⟨‹_›, by cases h; rfl⟩)
  split at h
  · exact Or.inr (Or.inr (Or.inl ⟨‹_›, by cases h; rfl⟩))
  split at h
  · exact Or.inr (Or.inr (Or.inr (Or.inl ⟨‹_›, by cases h; rfl⟩)))
  split at h
  · exact Or.inr (Or.inr (Or.inr (Or.inr (Or.inl ⟨‹_›, by cases h; rfl⟩))))
  split at h
  · exact Or.inr (Or.inr (Or.inr (Or.inr (Or.inr (Or.inl ⟨‹_›, by cases h; rfl⟩)))))
  split at h
  · exact Or.inr (Or.inr (Or.inr (Or.inr (Or.inr (Or.inr (Or.inl ⟨‹_›, by cases h; rfl⟩))))))
  split at h
  · exact Or.inr (Or.inr (Or.inr (Or.inr (Or.inr (Or.inr (Or.inr (Or.inl ⟨‹_›, by cases h; rfl⟩)))))))
  split at h
  · exact Or.inr (Or.inr (Or.inr (Or.inr (Or.inr (Or.inr (Or.inr (Or.inr ⟨‹_›, by cases h; rfl⟩)))))))
  · cases h

theorem shp_some {c : Int} (h : 1 ≤ c) (h9 : c ≤ 9) : ∃ s, shp c = some s := by
  unfold shp
  by_cases e1 : c = 1
  · exact ⟨_, by rw [if_pos e1]⟩
  rw [if_neg e1]
  by_cases e2 : c = 2
  · exact ⟨_, by rw [if_pos e2]⟩
  rw [if_neg e2]
  by_cases e3 : c = 3
  · exact ⟨_, by rw [if_pos e3]⟩
  rw [if_neg e3]
  by_cases e4 : c = 4
  · exact ⟨_, by rw [if_pos e4]⟩
  rw [if_neg e4]
  by_cases e5 : c = 5
  · exact ⟨_, by rw [if_pos e5]⟩
  rw [if_neg e5]
  by_cases e6 : c = 6
  · exact ⟨_, by rw [if_pos e6]⟩
  rw [if_neg e6]
  by_cases e7 : c = 7
  · exact ⟨_, by rw [if_pos e7]⟩
  rw [if_neg e7]
  by_cases e8 : c = 8
  · exact ⟨_, by rw [if_pos e8]⟩
  rw [if_neg e8, if_pos (by omega)]
  exact ⟨_, rfl⟩

/-- is the number behind it one that there is? -/
def knw (c o : Int) : Bool := if c = 2 ∨ c = 3 then decide (o ≤ 17) else if c = 4 then decide (o ≤ 9) else if c = 5 then decide (o = 1 ∨ o = 2 ∨ o = 4) else if c = 8 then decide (o ≤ 3) else true

structure Mst where
  pc : Nat
  sp : Nat
  st : Nat → Int
  cs : Nat → Int

/-- may the next instruction be done? -/
def fitB (g : Nat → Int) (n : Nat) (S : Mst) : Bool :=
  decide (S.pc < n) && (match shp (g S.pc) with
    | none => false
    | some s => decide (S.pc + 1 + s.wh + s.nb ≤ n) && decide (s.po ≤ S.sp) && decide (S.sp - s.po + s.pu ≤ 8) && knw (g S.pc) (g (S.pc + 1)))

theorem fit_none {g : Nat → Int} {n : Nat} {S : Mst} (h : shp (g S.pc) = none) : fitB g n S = false := by simp [fitB, h]
theorem fit_end {g : Nat → Int} {n : Nat} {S : Mst} (h : ¬ S.pc < n) : fitB g n S = false := by simp [fitB, h]
theorem fit_some {g : Nat → Int} {n : Nat} {S : Mst} {s : Shp} (hlt : S.pc < n) (h : shp (g S.pc) = some s) :
    fitB g n S = (decide (S.pc + 1 + s.wh + s.nb ≤ n) && decide (s.po ≤ S.sp) && decide (S.sp - s.po + s.pu ≤ 8) && knw (g S.pc) (g (S.pc + 1))) := by simp [fitB, h, hlt]

theorem fit_true {g : Nat → Int} {n : Nat} {S : Mst} (h : fitB g n S = true) :
    S.pc < n ∧ ∃ s, shp (g S.pc) = some s ∧ S.pc + 1 + s.wh + s.nb ≤ n ∧ s.po ≤ S.sp ∧ S.sp - s.po + s.pu ≤ 8 ∧ knw (g S.pc) (g (S.pc + 1)) = true := by
  have hlt : S.pc < n := by
    by_cases e : S.pc < n
    · exact e
    · rw [fit_end e] at h; cases h
  refine ⟨hlt, ?_⟩
  cases e : shp (g S.pc) with
  | none => rw [fit_none e] at h; cases h
  | some s =>
    rw [fit_some hlt e] at h
    simp only [Bool.and_eq_true, decide_eq_true_eq] at h
    exact ⟨s, rfl, h.1.1.1, h.1.1.2, h.1.2, h.2⟩

def upd (f : Nat → Int) (i : Nat) (v : Int) : Nat → Int := fun j => if j = i then v else f j

def Mst.push (S : Mst) (v : Int) (d : Nat) : Mst := ⟨S.pc + d, S.sp + 1, upd S.st S.sp v, S.cs⟩

/-- what a step comes to: the state, the word with which it stops, does it stop? -/
structure Res where
  S : Mst
  v : Int
  done : Bool

/-- one instruction that fits; code g, packet p of m bytes -/
def stepM (g : Nat → Int) (p : Nat → Int) (m : Nat) (S : Mst) : Res :=
  let c := g S.pc
  let o := g (S.pc + 1)
  let y := S.st (S.sp - 1)
  let x := S.st (S.sp - 2)
  if c = 1 then ⟨S.push (be g (S.pc + 1) 4) 5, 0, false⟩
  else if c = 2 then ⟨S.push (S.cs o.toNat) 2, 0, false⟩
  else if c = 3 then ⟨⟨S.pc + 2, S.sp - 1, S.st, upd S.cs o.toNat y⟩, 0, false⟩
  else if c = 4 then ⟨⟨S.pc + 2, S.sp - 1, upd S.st (S.sp - 2) (opr o x y), S.cs⟩, 0, div0 o y⟩
  else if c = 5 then
    if (x + y).toNat + o.toNat ≤ m then ⟨⟨S.pc + 2, S.sp - 1, upd S.st (S.sp - 2) (be p (x + y).toNat o.toNat), S.cs⟩, 0, false⟩
    else ⟨⟨S.pc + 2, S.sp - 1, upd S.st (S.sp - 2) 0, S.cs⟩, 0, true⟩
  else if c = 6 then ⟨S.push m 1, 0, false⟩
  else if c = 7 then ⟨⟨S.pc + 3 + (be g (S.pc + 1) 2).toNat, S.sp, S.st, S.cs⟩, 0, false⟩
  else if c = 8 then ⟨⟨S.pc + 4 + (if askv o x y = true then (be g (S.pc + 2) 2).toNat else 0), S.sp - 2, S.st, S.cs⟩, 0, false⟩
  else ⟨⟨S.pc + 1, S.sp - 1, S.st, S.cs⟩, y, true⟩

/-- all that is done, from the k-th step on: the word, the steps, the error -/
def execM (g : Nat → Int) (n : Nat) (p : Nat → Int) (m : Nat) : Nat → Nat → Mst → Int × Nat × Int
  | 0, k, _ => (0, k, 9)
  | f + 1, k, S => if fitB g n S = true then (if (stepM g p m S).done = true then ((stepM g p m S).v, k + 1, 0) else execM g n p m f (k + 1) (stepM g p m S).S) else (0, k, 9)

/-- what holds of each state that is come to -/
structure Inv (n : Nat) (S : Mst) : Prop where
  pc : S.pc ≤ n + 65539
  sp : S.sp ≤ 8
  st : ∀ j, j < S.sp → U32 (S.st j)
  cs : ∀ j, U32 (S.cs j)

def S0 : Mst := ⟨0, 0, fun _ => 0, fun _ => 0⟩

theorem u32_zero : U32 0 := ⟨by decide, by decide⟩

theorem inv0 (n : Nat) : Inv n S0 := ⟨Nat.zero_le _, Nat.zero_le _, fun _ h => absurd h (Nat.not_lt_zero _), fun _ => u32_zero⟩

theorem upd_all {f : Nat → Int} {i : Nat} {v : Int} (P : Int → Prop) (h : ∀ j, P (f j)) (hv : P v) (j : Nat) : P (upd f i v j) := by
  unfold upd; split
  · exact hv
  · exact h j

theorem upd_lt {f : Nat → Int} {i n : Nat} {v : Int} (P : Int → Prop) (h : ∀ j, j < n → P (f j)) (hv : P v) (hi : i ≤ n) (j : Nat) (hj : j < i + 1) : P (upd f i v j) := by
  unfold upd; split
  · exact hv
  · exact h j (by omega)

theorem step_inv {g : Nat → Int} {n : Nat} {p : Nat → Int} {m : Nat} {S : Mst} (hg : Oct g) (hp : Oct p) (hm : m ≤ 2000) (h : Inv n S) (hf : fitB g n S = true) : Inv n (stepM g p m S).S := by
  obtain ⟨h1, h2, h3, h4⟩ := h
  obtain ⟨f1, s, f2, f3, f4, f5, f6⟩ := fit_true hf
  have b4 := be_u32 hg (S.pc + 1) 4 (by omega)
  have hm' : U32 (m : Int) := ⟨by omega, by omega⟩
  have bd : ∀ o, 0 ≤ be g o 2 ∧ be g o 2 < 65536 := fun o => be_bd hg o 2 (by omega)
  rcases shp_cases f2 with ⟨c, rfl⟩ | ⟨c, rfl⟩ | ⟨c, rfl⟩ | ⟨c, rfl⟩ | ⟨c, rfl⟩ | ⟨c, rfl⟩ | ⟨c, rfl⟩ | ⟨c, rfl⟩ | ⟨c, rfl⟩
  all_goals (simp only at f3 f4 f5; simp only [stepM, c]; simp only [Int.reduceEq, if_true, if_false])
  · exact ⟨by simp only [Mst.push]; omega, by simp only [Mst.push]; omega, upd_lt U32 h3 b4 (Nat.le_refl _), h4⟩
  · exact ⟨by simp only [Mst.push]; omega, by simp only [Mst.push]; omega, upd_lt U32 h3 (h4 _) (Nat.le_refl _), h4⟩
  · exact ⟨by simp only; omega, by simp only; omega, fun j hj => h3 j (by simp only at hj; omega), upd_all U32 h4 (h3 _ (by omega))⟩
  · exact ⟨by simp only; omega, by simp only; omega, fun j hj => by
      simp only at hj ⊢
      exact upd_lt U32 h3 (opr_u32 (h3 _ (by omega)) (h3 _ (by omega))) (by omega) j (by omega), h4⟩
  · have ho : (g (S.pc + 1)).toNat ≤ 4 := by
      rw [c] at f6
      simp [knw] at f6
      omega
    split
    · exact ⟨by simp only; omega, by simp only; omega, fun j hj => by
        simp only at hj ⊢
        exact upd_lt U32 h3 (be_u32 hp _ _ ho) (by omega) j (by omega), h4⟩
    · exact ⟨by simp only; omega, by simp only; omega, fun j hj => by
        simp only at hj ⊢
        exact upd_lt U32 h3 u32_zero (by omega) j (by omega), h4⟩
  · exact ⟨by simp only [Mst.push]; omega, by simp only [Mst.push]; omega, upd_lt U32 h3 hm' (Nat.le_refl _), h4⟩
  · have := bd (S.pc + 1)
    exact ⟨by simp only; omega, by simp only; omega, h3, h4⟩
  · have := bd (S.pc + 2)
    refine ⟨?_, by simp only; omega, fun j hj => h3 j (by simp only at hj; omega), h4⟩
    simp only
    split <;> omega
  · exact ⟨by simp only; omega, by simp only; omega, fun j hj => h3 j (by simp only at hj; omega), h4⟩

end Go.Proofs.Ythbcfepbkkbjiaa
