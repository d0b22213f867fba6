import Derived.BigQuiet
import Derived.Deep.QuietTactic
import Derived.Test.YthbcfepbkkbjiabGreatDoorI2
import Derived.Test.YthbcfepbkkbjiabGreatDoorI1
namespace Go.Proofs.YthbcfepbkkbjiabGreatDoor
open Go.RowKit
def Fam (w wr : World) (C : Int) (e : TypeId) : Prop :=
  wr.heap[w.heap.size]? = some (.cells #[.int .i64 C, .int .i64 0, .int .i64 0, .bool false, .int .i64 0] e (0, 0)) ∧
  wr.heap[w.heap.size + 1]? = some (.cells #[.int .i64 0, .int .i64 0, .int .i64 0, .bool false, .int .i64 0] e (0, 0)) ∧
  wr.heap[w.heap.size + 1 + 1]? = some (.cells #[.int .i64 4, .int .i64 20, .int .i64 36, .int .i64 52, .int .i64 148, .int .i64 68, .int .i64 84, .int .i64 164, .int .i64 100, .int .i64 116] 3 (0, 0)) ∧ w.grownBy wr none
theorem Fam.drewN {w wr : World} {C : Int} {e : TypeId} (h : Fam w wr C e) (n : Nat) : Fam w (wr.drewN n) C e := ⟨h.1, h.2.1, h.2.2.1, grown_none h.2.2.2 (grown_drewN _ _ _)⟩
end Go.Proofs.YthbcfepbkkbjiabGreatDoor
namespace Go.Proofs.YthbcfepbkkbjiabGreatDoor
open Go.RowKit
def nx (q : Nat → Int) (i : Nat) : List Int :=
  if (kd (q (4 * i))).kind = 12 then [] else if (kd (q (4 * i))).kind = 10 then [(i : Int) + 1 + q (4 * i + 3)]
  else if (kd (q (4 * i))).kind = 11 then [(i : Int) + 1 + q (4 * i + 1), (i : Int) + 1 + q (4 * i + 2)] else [(i : Int) + 1]
def Num (q : Nat → Int) : Prop := ∀ j, 0 ≤ q j ∧ q j ≤ 4294967295
theorem src_new1 (w : World) (x : Int) (e : TypeId) (B : Nat) (hB : B = w.heap.size) : Src (w.alloc (.cells #[.int .i64 x] e)) .i64 (some ⟨B, 0, none⟩) 1 (fun j => [x].getD j 0) := fun _ =>
  ⟨B, 0, rfl, fun j hj => by
    subst hB
    have : j = 0 := by omega
    subst this
    exact World.cell?_alloc_new _ _ _ _⟩
theorem src_new2 (w : World) (x y : Int) (e : TypeId) (B : Nat) (hB : B = w.heap.size) : Src (w.alloc (.cells #[.int .i64 x, .int .i64 y] e)) .i64 (some ⟨B, 0, none⟩) 2 (fun j => [x, y].getD j 0) := fun _ =>
  ⟨B, 0, rfl, fun j hj => by
    subst hB
    match j, hj with
    | 0, _ => exact World.cell?_alloc_new _ _ _ _
    | 1, _ => exact World.cell?_alloc_new _ _ _ _⟩
end Go.Proofs.YthbcfepbkkbjiabGreatDoor
namespace Go.Proofs.YthbcfepbkkbjiabGreatDoor
open Go.RowKit
set_option linter.unusedVariables false
theorem ret_int {k : IntKind} {a b : Int} (h : a = b) : Ending.returned (.int k a) = .returned (.int k b) := by rw [h]
def wrg (r : KR) (ok : Bool) (K : Int) (l : List Int) (n : Int) : Int :=
  if ok = false then 2 else if r.kind = 8 ∧ r.x = false ∧ (r.o = 3 ∨ r.o = 4) ∧ K = 0 then 3 else if r.kind = 8 ∧ r.x = false ∧ 8 ≤ r.o ∧ 31 < K then 4
  else if (r.kind = 3 ∨ r.kind = 6) ∧ 16 ≤ K then 5 else if (r.kind = 10 ∨ r.kind = 11) ∧ l.any (fun x => decide (n ≤ x)) = true then 6 else 0
def wrong (q : Nat → Int) (n i : Nat) : Int := wrg (kd (q (4 * i))) (okk (q (4 * i))) (q (4 * i + 3)) (nx q i) n
end Go.Proofs.YthbcfepbkkbjiabGreatDoor
namespace Go.Proofs.YthbcfepbkkbjiabGreatDoor
open Go.RowKit
theorem nx_len (q : Nat → Int) (i : Nat) : (nx q i).length ≤ 2 := by
  unfold nx
  split
  · simp
  · split
    · simp
    · split <;> simp
theorem any_le (l : List Int) (n : Int) (k : Nat) (hk : k < l.length) (h : n ≤ l.getD k 0) : l.any (fun x => decide (n ≤ x)) = true := by
  rw [List.any_eq_true]
  exact ⟨l[k], List.getElem_mem hk, by simpa [List.getD, hk] using h⟩
theorem any_lt (l : List Int) (n : Int) (h : ∀ j, j < l.length → l.getD j 0 < n) : l.any (fun x => decide (n ≤ x)) = false := by
  rw [List.any_eq_false]
  intro x hx
  obtain ⟨j, hj, rfl⟩ := List.getElem_of_mem hx
  have := h j hj
  simp [List.getD, hj] at this
  simpa using this
end Go.Proofs.YthbcfepbkkbjiabGreatDoor
namespace Go.Proofs.YthbcfepbkkbjiabGreatDoor
open Go.RowKit
def bset (f : Nat → Bool) (l : List Int) (t : Nat) : Nat → Bool := fun j => f j || (l.take t).any (fun x => x == (j : Int))
def there (q : Nat → Int) (cell : Int) : Nat → Nat → Bool
  | 0 => fun j => j == 0
  | i + 1 => if there q cell i i = true ∧ ¬ ((kd (q (4 * i))).kind = 6 ∧ q (4 * i + 3) = cell) then bset (there q cell i) (nx q i) (nx q i).length else there q cell i
end Go.Proofs.YthbcfepbkkbjiabGreatDoor
namespace Go.Proofs.YthbcfepbkkbjiabGreatDoor
open Go.RowKit
def bad (q : Nat → Int) (i : Nat) : Prop := (kd (q (4 * i))).kind = 3 ∧ there q (q (4 * i + 3)) i i = true
def Spec (q : Nat → Int) (n : Nat) (E : Int) (p : Nat) : Prop :=
  (p < n ∧ wrong q n p ≠ 0 ∧ (∀ j, j < p → wrong q n j = 0) ∧ E = wrong q n p) ∨
  ((∀ j, j < n → wrong q n j = 0) ∧
    (((kd (q (4 * (n - 1)))).kind ≠ 12 ∧ E = 7 ∧ p = n - 1) ∨
     ((kd (q (4 * (n - 1)))).kind = 12 ∧ ((p < n ∧ bad q p ∧ (∀ j, j < p → ¬ bad q j) ∧ E = 8) ∨ ((∀ j, j < n → ¬ bad q j) ∧ E = 0 ∧ p = 0)))))
theorem Spec.one {q : Nat → Int} {n : Nat} {E E' : Int} {p p' : Nat} (h : Spec q n E p) (h' : Spec q n E' p') : E = E' ∧ p = p' := by
  rcases h with ⟨a1, a2, a3, a4⟩ | ⟨a1, a2⟩
  · rcases h' with ⟨b1, b2, b3, b4⟩ | ⟨b1, _⟩
    · have : p = p' := by
        rcases Nat.lt_trichotomy p p' with h | h | h
        · exact absurd (b3 p h) a2
        · exact h
        · exact absurd (a3 p' h) b2
      subst this
      exact ⟨a4.trans b4.symm, rfl⟩
    · exact absurd (b1 p a1) a2
  · rcases h' with ⟨b1, b2, _⟩ | ⟨b1, b2⟩
    · exact absurd (a1 p' b1) b2
    · rcases a2 with ⟨c1, c2, c3⟩ | ⟨c1, c2⟩
      · rcases b2 with ⟨d1, d2, d3⟩ | ⟨d1, _⟩
        · exact ⟨c2.trans d2.symm, c3.trans d3.symm⟩
        · exact absurd d1 c1
      · rcases b2 with ⟨d1, _⟩ | ⟨d1, d2⟩
        · exact absurd c1 d1
        · rcases c2 with ⟨e1, e2, e3, e4⟩ | ⟨e1, e2, e3⟩
          · rcases d2 with ⟨f1, f2, f3, f4⟩ | ⟨f1, _⟩
            · have : p = p' := by
                rcases Nat.lt_trichotomy p p' with h | h | h
                · exact absurd e2 (f3 p h)
                · exact h
                · exact absurd f2 (e3 p' h)
              exact ⟨e4.trans f4.symm, this⟩
            · exact absurd e2 (f1 p e1)
          · rcases d2 with ⟨f1, f2, _⟩ | ⟨f1, f2, f3⟩
            · exact absurd f2 (e1 p' f1)
            · exact ⟨e2.trans f2.symm, e3.trans f3.symm⟩
def Chk (g : Nat → Int) (n : Nat) (E : Int) (p : Nat) : Prop := (badSize n ∧ E = 1 ∧ p = 0) ∨ (¬ badSize n ∧ Spec (decs g) (n / 8) E p)
theorem Chk.one {g : Nat → Int} {n : Nat} {E E' : Int} {p p' : Nat} (h : Chk g n E p) (h' : Chk g n E' p') : E = E' ∧ p = p' := by
  rcases h with ⟨a1, a2, a3⟩ | ⟨a1, a2⟩
  · rcases h' with ⟨_, b2, b3⟩ | ⟨b1, _⟩
    · exact ⟨a2.trans b2.symm, a3.trans b3.symm⟩
    · exact absurd a1 b1
  · rcases h' with ⟨b1, _⟩ | ⟨_, b2⟩
    · exact absurd b1 a1
    · exact a2.one b2
theorem decs_num {g : Nat → Int} (hg : Oct g) : Num (decs g) := fun j => by
  have h : ∀ i, 0 ≤ g i ∧ g i ≤ 255 := hg
  unfold decs num2 num4
  have a0 := h (8 * (j / 4))
  have a1 := h (8 * (j / 4) + 1)
  have a2 := h (8 * (j / 4) + 2)
  have a3 := h (8 * (j / 4) + 3)
  have a4 := h (8 * (j / 4) + 4)
  have a5 := h (8 * (j / 4) + 4 + 1)
  have a6 := h (8 * (j / 4) + 4 + 2)
  have a7 := h (8 * (j / 4) + 4 + 3)
  split
  · omega
  · split
    · omega
    · split
      · omega
      · omega
end Go.Proofs.YthbcfepbkkbjiabGreatDoor
namespace Go.Proofs.YthbcfepbkkbjiabGreatDoor
open Go.RowKit
set_option linter.unusedVariables false
structure Flt where
  pc : Nat
  a : Int
  x : Int
  cs : Nat → Int
structure Fres where
  S : Flt
  v : Int
  done : Bool
def flt (q : Nat → Int) (p : Nat → Int) (m : Nat) (S : Flt) : Fres :=
  let r := kd (q (4 * S.pc))
  let jt := q (4 * S.pc + 1)
  let jf := q (4 * S.pc + 2)
  let k := q (4 * S.pc + 3)
  let y := if r.x = true then S.x else k
  if r.kind = 1 then
    if ((if r.x = true then k + S.x else k)).toNat + r.n.toNat ≤ m then ⟨⟨S.pc + 1, be p ((if r.x = true then k + S.x else k)).toNat r.n.toNat, S.x, S.cs⟩, 0, false⟩ else ⟨S, 0, true⟩
  else if r.kind = 5 then
    if k.toNat + 1 ≤ m then ⟨⟨S.pc + 1, S.a, p k.toNat % 16 * 4, S.cs⟩, 0, false⟩ else ⟨S, 0, true⟩
  else if r.kind = 2 then if r.x = true then ⟨⟨S.pc + 1, S.a, k, S.cs⟩, 0, false⟩ else ⟨⟨S.pc + 1, k, S.x, S.cs⟩, 0, false⟩
  else if r.kind = 3 then if r.x = true then ⟨⟨S.pc + 1, S.a, S.cs k.toNat, S.cs⟩, 0, false⟩ else ⟨⟨S.pc + 1, S.cs k.toNat, S.x, S.cs⟩, 0, false⟩
  else if r.kind = 4 then if r.x = true then ⟨⟨S.pc + 1, S.a, m, S.cs⟩, 0, false⟩ else ⟨⟨S.pc + 1, m, S.x, S.cs⟩, 0, false⟩
  else if r.kind = 6 then ⟨⟨S.pc + 1, S.a, S.x, upd S.cs k.toNat (if r.x = true then S.x else S.a)⟩, 0, false⟩
  else if r.kind = 7 then if r.x = true then ⟨⟨S.pc + 1, S.a, S.a, S.cs⟩, 0, false⟩ else ⟨⟨S.pc + 1, S.x, S.x, S.cs⟩, 0, false⟩
  else if r.kind = 8 then if div0 r.o y = true then ⟨S, 0, true⟩ else ⟨⟨S.pc + 1, opr r.o S.a y, S.x, S.cs⟩, 0, false⟩
  else if r.kind = 9 then ⟨⟨S.pc + 1, (-S.a) % 4294967296, S.x, S.cs⟩, 0, false⟩
  else if r.kind = 10 then ⟨⟨S.pc + 1 + k.toNat, S.a, S.x, S.cs⟩, 0, false⟩
  else if r.kind = 11 then ⟨⟨S.pc + 1 + (if askv r.o S.a y = true then jt.toNat else jf.toNat), S.a, S.x, S.cs⟩, 0, false⟩
  else ⟨S, if r.x = true then S.a else k, true⟩
def runF (q : Nat → Int) (p : Nat → Int) (m : Nat) : Nat → Flt → Int
  | 0, _ => 0
  | f + 1, S => if (flt q p m S).done = true then (flt q p m S).v else runF q p m f (flt q p m S).S
structure Good (q : Nat → Int) (n : Nat) : Prop where
  num : Num q
  ok : ∀ j, j < n → wrong q n j = 0
  last : (kd (q (4 * (n - 1)))).kind = 12
  pos : 1 ≤ n
structure FInv (n : Nat) (S : Flt) : Prop where
  pc : S.pc < n
  a : U32 S.a
  x : U32 S.x
  cs : ∀ j, U32 (S.cs j)
theorem num_u32 {q : Nat → Int} (h : Num q) (j : Nat) : U32 (q j) := ⟨(h j).1, by have := (h j).2; omega⟩
theorem Good.at {q : Nat → Int} {n : Nat} (h : Good q n) {i : Nat} (hi : i < n) :
    okk (q (4 * i)) = true ∧ (((kd (q (4 * i))).kind = 3 ∨ (kd (q (4 * i))).kind = 6) → q (4 * i + 3) < 16) ∧
    ((kd (q (4 * i))).kind = 10 → (i : Int) + 1 + q (4 * i + 3) < n) ∧ ((kd (q (4 * i))).kind = 11 → (i : Int) + 1 + q (4 * i + 1) < n ∧ (i : Int) + 1 + q (4 * i + 2) < n) ∧
    ((kd (q (4 * i))).kind ≠ 12 → i + 1 < n) := by
  have hw := h.ok i hi
  unfold wrong wrg at hw
  have hok : okk (q (4 * i)) = true := by
    cases e : okk (q (4 * i)) with
    | true => rfl
    | false => rw [if_pos e] at hw; omega
  refine ⟨hok, fun hk => ?_, fun hk => ?_, fun hk => ?_, fun hk => ?_⟩
  · by_cases hlt : q (4 * i + 3) < 16
    · exact hlt
    · exfalso
      have h8 : ¬ (kd (q (4 * i))).kind = 8 := by rcases hk with hk | hk <;> simp [hk]
      rw [if_neg (by simp [hok]), if_neg (by simp [h8]), if_neg (by simp [h8]), if_pos ⟨hk, by omega⟩] at hw
      omega
  · by_cases hlt : (i : Int) + 1 + q (4 * i + 3) < n
    · exact hlt
    · exfalso
      have hn : nx q i = [(i : Int) + 1 + q (4 * i + 3)] := by unfold nx; simp [hk]
      rw [if_neg (by simp [hok]), if_neg (by simp [hk]), if_neg (by simp [hk]), if_neg (by simp [hk]), if_pos ⟨Or.inl hk, by rw [hn]; simp; omega⟩] at hw
      omega
  · by_cases hlt : (i : Int) + 1 + q (4 * i + 1) < n ∧ (i : Int) + 1 + q (4 * i + 2) < n
    · exact hlt
    · exfalso
      have hn : nx q i = [(i : Int) + 1 + q (4 * i + 1), (i : Int) + 1 + q (4 * i + 2)] := by unfold nx; simp [hk]
      rw [if_neg (by simp [hok]), if_neg (by simp [hk]), if_neg (by simp [hk]), if_neg (by simp [hk]), if_pos ⟨Or.inr hk, by rw [hn]; simp; omega⟩] at hw
      omega
  · by_cases e : i = n - 1
    · subst e; exact absurd h.last hk
    · omega
theorem kd_range (C : Int) (h : okk C = true) : 1 ≤ (kd C).kind ∧ (kd C).kind ≤ 12 ∧ ((kd C).kind = 1 → (kd C).n = 1 ∨ (kd C).n = 2 ∨ (kd C).n = 4) ∧ ((kd C).kind = 8 → 0 ≤ (kd C).o ∧ (kd C).o ≤ 9) ∧ ((kd C).kind = 11 → 0 ≤ (kd C).o ∧ (kd C).o ≤ 3) := by
  have := kd_all (fun r => (r.cls != 0) = true → 1 ≤ r.kind ∧ r.kind ≤ 12 ∧ (r.kind = 1 → r.n = 1 ∨ r.n = 2 ∨ r.n = 4) ∧ (r.kind = 8 → 0 ≤ r.o ∧ r.o ≤ 9) ∧ (r.kind = 11 → 0 ≤ r.o ∧ r.o ≤ 3)) (by decide) C (by simp)
  exact this h
theorem flt_inv {q : Nat → Int} {n : Nat} {p : Nat → Int} {m : Nat} {S : Flt} (h : Good q n) (hp : Oct p) (hm : m ≤ 2000) (hI : FInv n S) (hd : (flt q p m S).done = false) :
    FInv n (flt q p m S).S ∧ S.pc + 1 ≤ (flt q p m S).S.pc := by
  obtain ⟨i1, i2, i3, i4⟩ := hI
  obtain ⟨g1, g2, g3, g4, g5⟩ := h.at i1
  obtain ⟨r1, r2, r3, r4, r5⟩ := kd_range _ g1
  have z1 := h.num (4 * S.pc + 1)
  have z2 := h.num (4 * S.pc + 2)
  have z3 := h.num (4 * S.pc + 3)
  have u3 := num_u32 h.num (4 * S.pc + 3)
  have um : U32 (m : Int) := ⟨by omega, by omega⟩
  unfold flt at hd ⊢
  dsimp only at hd ⊢
  generalize kd (q (4 * S.pc)) = r at *
  by_cases e1 : r.kind = 1
  · rw [if_pos e1] at hd ⊢
    generalize (if r.x = true then q (4 * S.pc + 3) + S.x else q (4 * S.pc + 3)).toNat = f at *
    by_cases hf : f + r.n.toNat ≤ m
    · rw [if_pos hf]
      exact ⟨⟨g5 (by omega), be_u32 hp _ _ (by rcases r3 e1 with h | h | h <;> rw [h] <;> decide), i3, i4⟩, Nat.le_refl _⟩
    · rw [if_neg hf] at hd; cases hd
  rw [if_neg e1] at hd ⊢
  by_cases e5 : r.kind = 5
  · rw [if_pos e5] at hd ⊢
    split at hd
    · rename_i hf
      rw [if_pos hf]
      exact ⟨⟨g5 (by omega), i2, ⟨by dsimp only; omega, by dsimp only; omega⟩, i4⟩, Nat.le_refl _⟩
    · cases hd
  rw [if_neg e5] at hd ⊢
  by_cases e2 : r.kind = 2
  · rw [if_pos e2] at hd ⊢
    split
    · exact ⟨⟨g5 (by omega), i2, u3, i4⟩, Nat.le_refl _⟩
    · exact ⟨⟨g5 (by omega), u3, i3, i4⟩, Nat.le_refl _⟩
  rw [if_neg e2] at hd ⊢
  by_cases e3 : r.kind = 3
  · rw [if_pos e3] at hd ⊢
    split
    · exact ⟨⟨g5 (by omega), i2, i4 _, i4⟩, Nat.le_refl _⟩
    · exact ⟨⟨g5 (by omega), i4 _, i3, i4⟩, Nat.le_refl _⟩
  rw [if_neg e3] at hd ⊢
  by_cases e4 : r.kind = 4
  · rw [if_pos e4] at hd ⊢
    split
    · exact ⟨⟨g5 (by omega), i2, um, i4⟩, Nat.le_refl _⟩
    · exact ⟨⟨g5 (by omega), um, i3, i4⟩, Nat.le_refl _⟩
  rw [if_neg e4] at hd ⊢
  by_cases e6 : r.kind = 6
  · rw [if_pos e6] at hd ⊢
    exact ⟨⟨g5 (by omega), i2, i3, upd_all U32 i4 (by split <;> assumption)⟩, Nat.le_refl _⟩
  rw [if_neg e6] at hd ⊢
  by_cases e7 : r.kind = 7
  · rw [if_pos e7] at hd ⊢
    split
    · exact ⟨⟨g5 (by omega), i2, i2, i4⟩, Nat.le_refl _⟩
    · exact ⟨⟨g5 (by omega), i3, i3, i4⟩, Nat.le_refl _⟩
  rw [if_neg e7] at hd ⊢
  by_cases e8 : r.kind = 8
  · rw [if_pos e8] at hd ⊢
    have uy : U32 (if r.x = true then S.x else q (4 * S.pc + 3)) := by split <;> assumption
    generalize (if r.x = true then S.x else q (4 * S.pc + 3)) = y at *
    by_cases hf : div0 r.o y = true
    · rw [if_pos hf] at hd; cases hd
    · rw [if_neg hf]
      exact ⟨⟨g5 (by omega), opr_u32 i2 uy, i3, i4⟩, Nat.le_refl _⟩
  rw [if_neg e8] at hd ⊢
  by_cases e9 : r.kind = 9
  · rw [if_pos e9] at hd ⊢
    exact ⟨⟨g5 (by omega), ⟨by dsimp only; omega, by dsimp only; omega⟩, i3, i4⟩, Nat.le_refl _⟩
  rw [if_neg e9] at hd ⊢
  by_cases e10 : r.kind = 10
  · rw [if_pos e10] at hd ⊢
    have := g3 e10
    exact ⟨⟨by dsimp only; omega, i2, i3, i4⟩, by dsimp only; omega⟩
  rw [if_neg e10] at hd ⊢
  by_cases e11 : r.kind = 11
  · rw [if_pos e11] at hd ⊢
    have := g4 e11
    generalize (if r.x = true then S.x else q (4 * S.pc + 3)) = y at *
    refine ⟨⟨?_, i2, i3, i4⟩, by dsimp only; omega⟩
    dsimp only
    by_cases hf : askv r.o S.a y = true
    · rw [if_pos hf]; omega
    · rw [if_neg hf]; omega
  rw [if_neg e11] at hd
  cases hd
end Go.Proofs.YthbcfepbkkbjiabGreatDoor
