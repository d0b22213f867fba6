/- Filters at work, as the document tells it: a state, a step, the verdict. -/
import Derived.Test.YtgmimakoliifdaaGreatDoorV8
import Derived.Test.YtgmimakoliifdaaGreatDoorE2
namespace Go.Proofs.YtgmimakoliifdaaGreatDoor
open Go.RowKit
set_option linter.unusedVariables false

structure Flt where
  pc : Nat
  a : Int
  x : Int
  cs : Nat → Int

structure Fres where
  S : Flt
  v : Int
  done : Bool

/-- one instruction of n, q their numbers; packet p of m bytes -/
def flt (q : Nat → Int) (p : Nat → Int) (m : Nat) (S : Flt) : Fres :=
  let r := kd (q (4 * S.pc))
  let jt := q (4 * S.pc + 1)
  let jf := q (4 * S.pc + 2)
  let k := q (4 * S.pc + 3)
  let y := if r.x = true then S.x else k
  if r.kind = 1 then
    if ((if r.x = true then k + S.x else k)).toNat + r.n.toNat ≤ m then ⟨⟨S.pc + 1, be p ((if r.x = true then k + S.x else k)).toNat r.n.toNat, S.x, S.cs⟩, 0, false⟩ else ⟨S, 0, true⟩
  else if r.kind = 5 then
    if k.toNat + 1 ≤ m then ⟨⟨S.pc + 1, S.a, p k.toNat % 16 * 4, S.cs⟩, 0, false⟩ else ⟨S, 0, true⟩
  else if r.kind = 2 then if r.x = true then ⟨⟨S.pc + 1, S.a, k, S.cs⟩, 0, false⟩ else ⟨⟨S.pc + 1, k, S.x, S.cs⟩, 0, false⟩
  else if r.kind = 3 then if r.x = true then ⟨⟨S.pc + 1, S.a, S.cs k.toNat, S.cs⟩, 0, false⟩ else ⟨⟨S.pc + 1, S.cs k.toNat, S.x, S.cs⟩, 0, false⟩
  else if r.kind = 4 then if r.x = true then ⟨⟨S.pc + 1, S.a, m, S.cs⟩, 0, false⟩ else ⟨⟨S.pc + 1, m, S.x, S.cs⟩, 0, false⟩
  else if r.kind = 6 then ⟨⟨S.pc + 1, S.a, S.x, upd S.cs k.toNat (if r.x = true then S.x else S.a)⟩, 0, false⟩
  else if r.kind = 7 then if r.x = true then ⟨⟨S.pc + 1, S.a, S.a, S.cs⟩, 0, false⟩ else ⟨⟨S.pc + 1, S.x, S.x, S.cs⟩, 0, false⟩
  else if r.kind = 8 then if div0 r.o y = true then ⟨S, 0, true⟩ else ⟨⟨S.pc + 1, opr r.o S.a y, S.x, S.cs⟩, 0, false⟩
  else if r.kind = 9 then ⟨⟨S.pc + 1, (-S.a) % 4294967296, S.x, S.cs⟩, 0, false⟩
  else if r.kind = 10 then ⟨⟨S.pc + 1 + k.toNat, S.a, S.x, S.cs⟩, 0, false⟩
  else if r.kind = 11 then ⟨⟨S.pc + 1 + (if askv r.o S.a y = true then jt.toNat else jf.toNat), S.a, S.x, S.cs⟩, 0, false⟩
  else ⟨S, if r.x = true then S.a else k, true⟩

/-- the verdict, within so many steps -/
def runF (q : Nat → Int) (p : Nat → Int) (m : Nat) : Nat → Flt → Int
  | 0, _ => 0
  | f + 1, S => if (flt q p m S).done = true then (flt q p m S).v else runF q p m f (flt q p m S).S

/-- what has passed the check -/
structure Good (q : Nat → Int) (n : Nat) : Prop where
  num : Num q
  ok : ∀ j, j < n → wrong q n j = 0
  last : (kd (q (4 * (n - 1)))).kind = 12
  pos : 1 ≤ n

structure FInv (n : Nat) (S : Flt) : Prop where
  pc : S.pc < n
  a : U32 S.a
  x : U32 S.x
  cs : ∀ j, U32 (S.cs j)

theorem num_u32 {q : Nat → Int} (h : Num q) (j : Nat) : U32 (q j) := ⟨(h j).1, by have := (h j).2; omega⟩

/-- what the check says of an instruction -/
theorem Good.at {q : Nat → Int} {n : Nat} (h : Good q n) {i : Nat} (hi : i < n) :
    okk (q (4 * i)) = true ∧ (((kd (q (4 * i))).kind = 3 ∨ (kd (q (4 * i))).kind = 6) → q (4 * i + 3) < 16) ∧
    ((kd (q (4 * i))).kind = 10 → (i : Int) + 1 + q (4 * i + 3) < n) ∧ ((kd (q (4 * i))).kind = 11 → (i : Int) + 1 + q (4 * i + 1) < n ∧ (i : Int) + 1 + q (4 * i + 2) < n) ∧
    ((kd (q (4 * i))).kind ≠ 12 → i + 1 < n) := by
  have hw := h.ok i hi
  unfold wrong wrg at hw
  have hok : okk (q (4 * i)) = true := by
    cases e : okk (q (4 * i)) with
    | true => rfl
    | false => rw [if_pos e] at hw; omega
  refine ⟨hok, fun hk => ?_, fun hk => ?_, fun hk => ?_, fun hk => ?_⟩
  · by_cases hlt : q (4 * i + 3) < 16
    · exact hlt
    · exfalso
      have h8 : ¬ (kd (q (4 * i))).kind = 8 := by rcases hk with hk | hk <;> simp [hk]
      rw [if_neg (by simp [hok]), if_neg (by simp [h8]), if_neg (by simp [h8]), if_pos ⟨hk, by omega⟩] at hw
      omega
  · by_cases hlt : (i : Int) + 1 + q (4 * i + 3) < n
    · exact hlt
    · exfalso
      have hn : nx q i = [(i : Int) + 1 + q (4 * i + 3)] := by unfold nx; simp [hk]
      rw [if_neg (by simp [hok]), if_neg (by simp [hk]), if_neg (by simp [hk]), if_neg (by simp [hk]), if_pos ⟨Or.inl hk, by rw [hn]; simp; omega⟩] at hw
      omega
  · by_cases hlt : (i : Int) + 1 + q (4 * i + 1) < n ∧ (i : Int) + 1 + q (4 * i + 2) < n
    · exact hlt
    · exfalso
      have hn : nx q i = [(i : Int) + 1 + q (4 * i + 1), (i : Int) + 1 + q (4 * i + 2)] := by unfold nx; simp [hk]
      rw [if_neg (by simp [hok]), if_neg (by simp [hk]), if_neg (by simp [hk]), if_neg (by simp [hk]), if_pos ⟨Or.inr hk, by rw [hn]; simp; omega⟩] at hw
      omega
  · by_cases e : i = n - 1
    · subst e; exact absurd h.last hk
    · omega

/-- which kinds there are -/
theorem kd_range (C : Int) (h : okk C = true) : 1 ≤ (kd C).kind ∧ (kd C).kind ≤ 12 ∧ ((kd C).kind = 1 → (kd C).n = 1 ∨ (kd C).n = 2 ∨ (kd C).n = 4) ∧ ((kd C).kind = 8 → 0 ≤ (kd C).o ∧ (kd C).o ≤ 9) ∧ ((kd C).kind = 11 → 0 ≤ (kd C).o ∧ (kd C).o ≤ 3) := by
  have := kd_all (fun r => (r.cls != 0) = true → 1 ≤ r.kind ∧ r.kind ≤ 12 ∧ (r.kind = 1 → r.n = 1 ∨ r.n = 2 ∨ r.n = 4) ∧ (r.kind = 8 → 0 ≤ r.o ∧ r.o ≤ 9) ∧ (r.kind = 11 → 0 ≤ r.o ∧ r.o ≤ 3)) (by decide) C (by simp)
  exact this h

/-- a step that goes on leads forward, and stays within -/
theorem flt_inv {q : Nat → Int} {n : Nat} {p : Nat → Int} {m : Nat} {S : Flt} (h : Good q n) (hp : Oct p) (hm : m ≤ 2000) (hI : FInv n S) (hd : (flt q p m S).done = false) :
    FInv n (flt q p m S).S ∧ S.pc + 1 ≤ (flt q p m S).S.pc := by
  obtain ⟨i1, i2, i3, i4⟩ := hI
  obtain ⟨g1, g2, g3, g4, g5⟩ := h.at i1
  obtain ⟨r1, r2, r3, r4, r5⟩ := kd_range _ g1
  have z1 := h.num (4 * S.pc + 1)
  have z2 := h.num (4 * S.pc + 2)
  have z3 := h.num (4 * S.pc + 3)
  have u3 := num_u32 h.num (4 * S.pc + 3)
  have um : U32 (m : Int) := ⟨by omega, by omega⟩
  unfold flt at hd ⊢
  dsimp only at hd ⊢
  generalize kd (q (4 * S.pc)) = r at *
  by_cases e1 : r.kind = 1
  · rw [if_pos e1] at hd ⊢
    generalize (if r.x = true then q (4 * S.pc + 3) + S.x else q (4 * S.pc + 3)).toNat = f at *
    by_cases hf : f + r.n.toNat ≤ m
    · rw [if_pos hf]
      exact ⟨⟨g5 (by omega), be_u32 hp _ _ (by rcases r3 e1 with h | h | h <;> rw [h] <;> decide), i3, i4⟩, Nat.le_refl _⟩
    · rw [if_neg hf] at hd; cases hd
  rw [if_neg e1] at hd ⊢
  by_cases e5 : r.kind = 5
  · rw [if_pos e5] at hd ⊢
    split at hd
    · rename_i hf
      rw [if_pos hf]
      exact ⟨⟨g5 (by omega), i2, ⟨by dsimp only; omega, by dsimp only; omega⟩, i4⟩, Nat.le_refl _⟩
    · cases hd
  rw [if_neg e5] at hd ⊢
  by_cases e2 : r.kind = 2
  · rw [if_pos e2] at hd ⊢
    split
    · exact ⟨⟨g5 (by omega), i2, u3, i4⟩, Nat.le_refl _⟩
    · exact ⟨⟨g5 (by omega), u3, i3, i4⟩, Nat.le_refl _⟩
  rw [if_neg e2] at hd ⊢
  by_cases e3 : r.kind = 3
  · rw [if_pos e3] at hd ⊢
    split
    · exact ⟨⟨g5 (by omega), i2, i4 _, i4⟩, Nat.le_refl _⟩
    · exact ⟨⟨g5 (by omega), i4 _, i3, i4⟩, Nat.le_refl _⟩
  rw [if_neg e3] at hd ⊢
  by_cases e4 : r.kind = 4
  · rw [if_pos e4] at hd ⊢
    split
    · exact ⟨⟨g5 (by omega), i2, um, i4⟩, Nat.le_refl _⟩
    · exact ⟨⟨g5 (by omega), um, i3, i4⟩, Nat.le_refl _⟩
  rw [if_neg e4] at hd ⊢
  by_cases e6 : r.kind = 6
  · rw [if_pos e6] at hd ⊢
    exact ⟨⟨g5 (by omega), i2, i3, upd_all U32 i4 (by split <;> assumption)⟩, Nat.le_refl _⟩
  rw [if_neg e6] at hd ⊢
  by_cases e7 : r.kind = 7
  · rw [if_pos e7] at hd ⊢
    split
    · exact ⟨⟨g5 (by omega), i2, i2, i4⟩, Nat.le_refl _⟩
    · exact ⟨⟨g5 (by omega), i3, i3, i4⟩, Nat.le_refl _⟩
  rw [if_neg e7] at hd ⊢
  by_cases e8 : r.kind = 8
  · rw [if_pos e8] at hd ⊢
    have uy : U32 (if r.x = true then S.x else q (4 * S.pc + 3)) := by split <;> assumption
    generalize (if r.x = true then S.x else q (4 * S.pc + 3)) = y at *
    by_cases hf : div0 r.o y = true
    · rw [if_pos hf] at hd; cases hd
    · rw [if_neg hf]
      exact ⟨⟨g5 (by omega), opr_u32 i2 uy, i3, i4⟩, Nat.le_refl _⟩
  rw [if_neg e8] at hd ⊢
  by_cases e9 : r.kind = 9
  · rw [if_pos e9] at hd ⊢
    exact ⟨⟨g5 (by omega), ⟨by dsimp only; omega, by dsimp only; omega⟩, i3, i4⟩, Nat.le_refl _⟩
  rw [if_neg e9] at hd ⊢
  by_cases e10 : r.kind = 10
  · rw [if_pos e10] at hd ⊢
    have := g3 e10
    exact ⟨⟨by dsimp only; omega, i2, i3, i4⟩, by dsimp only; omega⟩
  rw [if_neg e10] at hd ⊢
  by_cases e11 : r.kind = 11
  · rw [if_pos e11] at hd ⊢
    have := g4 e11
    generalize (if r.x = true then S.x else q (4 * S.pc + 3)) = y at *
    refine ⟨⟨?_, i2, i3, i4⟩, by dsimp only; omega⟩
    dsimp only
    by_cases hf : askv r.o S.a y = true
    · rw [if_pos hf]; omega
    · rw [if_neg hf]; omega
  rw [if_neg e11] at hd
  cases hd

end Go.Proofs.YtgmimakoliifdaaGreatDoor
