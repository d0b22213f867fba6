import Derived.Test.YthbcfepbkkbjiaaGreatDoorJKD
namespace Go.Proofs.YthbcfepbkkbjiaaGreatDoor
open Go.RowKit
set_option linter.unusedVariables false
set_option linter.unusedSimpArgs false
def Straight (q : Nat → Int) (n : Nat) : Prop := ∀ i, i < n → (kd (q (4 * i))).kind ≠ 10 ∧ (kd (q (4 * i))).kind ≠ 11
theorem straight_nx {q : Nat → Int} {n i : Nat} (h : Straight q n) (hi : i < n) (x : Int) (hx : x ∈ nx q i) : x = (i : Int) + 1 := by
  obtain ⟨h1, h2⟩ := h i hi
  unfold nx at hx
  rw [if_neg h1, if_neg h2] at hx
  split at hx
  · simp at hx
  · simpa using hx
theorem straight_le {q : Nat → Int} {n : Nat} (h : Straight q n) (c : Int) : ∀ i, i ≤ n → ∀ j, there q c i j = true → j ≤ i
  | 0, _, j, hj => by simp [there] at hj; omega
  | i + 1, hi, j, hj => by
    unfold there at hj
    split at hj
    · unfold bset at hj
      rw [Bool.or_eq_true] at hj
      rcases hj with hj | hj
      · have := straight_le h c i (by omega) j hj; omega
      · rw [List.take_length, List.any_eq_true] at hj
        obtain ⟨x, hx, e⟩ := hj
        have := straight_nx h (by omega) x hx
        have e2 : x = (j : Int) := by simpa using e
        omega
    · have := straight_le h c i (by omega) j hj; omega
theorem straight_step {q : Nat → Int} {n : Nat} (h : Straight q n) (c : Int) {i : Nat} (hi : i < n) (ht : there q c (i + 1) (i + 1) = true) : there q c i i = true ∧ ¬ ((kd (q (4 * i))).kind = 6 ∧ q (4 * i + 3) = c) := by
  unfold there at ht
  split at ht
  · assumption
  · have := straight_le h c i (by omega) _ ht; omega
theorem straight_wrong {q : Nat → Int} {n N j : Nat} (h : Straight q n) (hj : j < n) (hok : okk (q (4 * j)) = true) (h8 : ¬ ((kd (q (4 * j))).kind = 8 ∧ (kd (q (4 * j))).x = false ∧ (((kd (q (4 * j))).o = 3 ∨ (kd (q (4 * j))).o = 4) ∧ q (4 * j + 3) = 0 ∨ 8 ≤ (kd (q (4 * j))).o ∧ 31 < q (4 * j + 3)))) (h3 : (kd (q (4 * j))).kind = 3 ∨ (kd (q (4 * j))).kind = 6 → q (4 * j + 3) < 16) : wrong q N j = 0 := by
  obtain ⟨h1, h2⟩ := h j hj
  unfold wrong wrg
  rw [if_neg (by simp [hok]), if_neg (fun e => h8 ⟨e.1, e.2.1, Or.inl e.2.2⟩), if_neg (fun e => h8 ⟨e.1, e.2.1, Or.inr e.2.2⟩), if_neg (fun e => absurd (h3 e.1) (by omega)), if_neg (fun e => by rcases e.1 with e | e; exact h1 e; exact h2 e)]
theorem kd0 : kd 0 = ⟨0, 2, 0, false, 0, 2⟩ := rfl
theorem kd1 : kd 1 = ⟨1, 2, 0, true, 0, 2⟩ := rfl
theorem kd2 : kd 2 = ⟨2, 6, 0, false, 0, 4⟩ := rfl
theorem kd3 : kd 3 = ⟨3, 6, 0, true, 0, 4⟩ := rfl
theorem kd4 : kd 4 = ⟨4, 8, 0, false, 0, 6⟩ := rfl
theorem kd22 : kd 22 = ⟨22, 12, 0, true, 0, 11⟩ := rfl
theorem kd96 : kd 96 = ⟨96, 3, 0, false, 0, 3⟩ := rfl
theorem kd97 : kd 97 = ⟨97, 3, 0, true, 0, 3⟩ := rfl
theorem kd129 : kd 129 = ⟨129, 4, 0, true, 0, 2⟩ := rfl
theorem kd135 : kd 135 = ⟨135, 7, 0, false, 0, 5⟩ := rfl
theorem kd177 : kd 177 = ⟨177, 5, 0, false, 0, 1⟩ := rfl
def aq (C a c : Int) : Nat → Int := fun j => [C, 0, 0, a, 2, 0, 0, c, 0, 0, 0, 9, 96, 0, 0, c, 22, 0, 0, 0].getD j 0
def iq (C i c a : Int) : Nat → Int := fun j => [1, 0, 0, i, 3, 0, 0, c, 1, 0, 0, 9, 97, 0, 0, c, C, 0, 0, a, 22, 0, 0, 0].getD j 0
def lq : Nat → Int := fun j => [129, 0, 0, 0, 135, 0, 0, 0, 22, 0, 0, 0].getD j 0
def fq (a : Int) : Nat → Int := fun j => [177, 0, 0, a, 135, 0, 0, 0, 4, 0, 0, 1, 22, 0, 0, 0].getD j 0
theorem aq_room {C a c : Int} (hC : 0 ≤ C ∧ C < 65536) (ha : 0 ≤ a ∧ a < 4294967296) (hc : 0 ≤ c ∧ c < 16) : ∀ i, i < 5 → Room (aq C a c) i := fun i hi => by
  obtain ⟨C0, C1⟩ := hC
  obtain ⟨a0, a1⟩ := ha
  obtain ⟨c0, c1⟩ := hc
  match i, hi with
  | 0, _ => simp [Room, aq]; omega
  | 1, _ => simp [Room, aq]; omega
  | 2, _ => simp [Room, aq]
  | 3, _ => simp [Room, aq]; omega
  | 4, _ => simp [Room, aq]
theorem iq_room {C i c a : Int} (hC : 0 ≤ C ∧ C < 65536) (hx : 0 ≤ i ∧ i < 4294967296) (ha : 0 ≤ a ∧ a < 4294967296) (hc : 0 ≤ c ∧ c < 16) : ∀ k, k < 6 → Room (iq C i c a) k := fun k hk => by
  obtain ⟨C0, C1⟩ := hC
  obtain ⟨a0, a1⟩ := ha
  obtain ⟨c0, c1⟩ := hc
  obtain ⟨x0, x1⟩ := hx
  match k, hk with
  | 0, _ => simp [Room, iq]; omega
  | 1, _ => simp [Room, iq]; omega
  | 2, _ => simp [Room, iq]
  | 3, _ => simp [Room, iq]; omega
  | 4, _ => simp [Room, iq]; omega
  | 5, _ => simp [Room, iq]
theorem lq_room : ∀ i, i < 3 → Room lq i := fun i hi => by
  match i, hi with
  | 0, _ => simp [Room, lq]
  | 1, _ => simp [Room, lq]
  | 2, _ => simp [Room, lq]
theorem fq_room {a : Int} (ha : 0 ≤ a ∧ a < 4294967296) : ∀ i, i < 4 → Room (fq a) i := fun i hi => by
  obtain ⟨a0, a1⟩ := ha
  match i, hi with
  | 0, _ => simp [Room, fq]; omega
  | 1, _ => simp [Room, fq]
  | 2, _ => simp [Room, fq]
  | 3, _ => simp [Room, fq]
theorem aq_chk {C n a c : Int} (hK : kd C = ⟨C, 1, n, false, 0, 1⟩) (hC : 0 ≤ C ∧ C < 65536) (ha : 0 ≤ a ∧ a < 4294967296) (hc : 0 ≤ c ∧ c < 16) : Chk (encs (aq C a c)) (8 * 5) 0 0 := by
  have D := decs_all (aq_room hC ha hc)
  obtain ⟨c0, c1⟩ := hc
  have D0 : decs (encs (aq C a c)) (4 * 0) = C := D 0 (by decide)
  have D4 : decs (encs (aq C a c)) (4 * 1) = 2 := D 4 (by decide)
  have D7 : decs (encs (aq C a c)) (4 * 1 + 3) = c := D 7 (by decide)
  have D8 : decs (encs (aq C a c)) (4 * 2) = 0 := D 8 (by decide)
  have D12 : decs (encs (aq C a c)) (4 * 3) = 96 := D 12 (by decide)
  have D15 : decs (encs (aq C a c)) (4 * 3 + 3) = c := D 15 (by decide)
  have D16 : decs (encs (aq C a c)) (4 * 4) = 22 := D 16 (by decide)
  generalize hq : decs (encs (aq C a c)) = q at *
  have S : Straight q 5 := fun i hi => by
    match i, hi with
    | 0, _ => rw [D0, hK]; simp
    | 1, _ => rw [D4, kd2]; simp
    | 2, _ => rw [D8, kd0]; simp
    | 3, _ => rw [D12, kd96]; simp
    | 4, _ => rw [D16, kd22]; simp
  refine chk_of (by decide) (by decide) (fun j hj => ?_) ?_ (fun j hj hb => ?_)
  · rw [hq]
    match j, hj with
    | 0, _ => exact straight_wrong S (by decide) (by simp [okk, D0, hK]) (by simp [D0, hK]) (by simp [D0, hK])
    | 1, _ => exact straight_wrong S (by decide) (by simp only [okk, D4, kd2]; rfl) (by simp only [D4, kd2]; simp) (by simp only [D7]; omega)
    | 2, _ => exact straight_wrong S (by decide) (by simp only [okk, D8, kd0]; rfl) (by simp only [D8, kd0]; simp) (by simp only [D8, kd0]; simp)
    | 3, _ => exact straight_wrong S (by decide) (by simp only [okk, D12, kd96]; rfl) (by simp only [D12, kd96]; simp) (by simp only [D15]; omega)
    | 4, _ => exact straight_wrong S (by decide) (by simp only [okk, D16, kd22]; rfl) (by simp only [D16, kd22]; simp) (by simp only [D16, kd22]; simp)
  · rw [hq]; show (kd (q (4 * 4))).kind = 12; rw [D16, kd22]
  · rw [hq] at hb
    obtain ⟨h1, h2⟩ := hb
    match j, hj with
    | 0, _ => rw [D0, hK] at h1; simp at h1
    | 1, _ => rw [D4, kd2] at h1; simp at h1
    | 2, _ => rw [D8, kd0] at h1; simp at h1
    | 3, _ =>
      have s3 := (straight_step S _ (by decide) h2).1
      have s2 := (straight_step S _ (by decide) s3).2
      exact s2 ⟨by rw [D4, kd2], by rw [D7, D15]⟩
    | 4, _ => rw [D16, kd22] at h1; simp at h1
theorem iq_chk {C n i c a : Int} (hK : kd C = ⟨C, 1, n, true, 0, 1⟩) (hC : 0 ≤ C ∧ C < 65536) (hx : 0 ≤ i ∧ i < 4294967296) (ha : 0 ≤ a ∧ a < 4294967296) (hc : 0 ≤ c ∧ c < 16) : Chk (encs (iq C i c a)) (8 * 6) 0 0 := by
  have D := decs_all (iq_room hC hx ha hc)
  obtain ⟨c0, c1⟩ := hc
  have D0 : decs (encs (iq C i c a)) (4 * 0) = 1 := D 0 (by decide)
  have D4 : decs (encs (iq C i c a)) (4 * 1) = 3 := D 4 (by decide)
  have D7 : decs (encs (iq C i c a)) (4 * 1 + 3) = c := D 7 (by decide)
  have D8 : decs (encs (iq C i c a)) (4 * 2) = 1 := D 8 (by decide)
  have D12 : decs (encs (iq C i c a)) (4 * 3) = 97 := D 12 (by decide)
  have D15 : decs (encs (iq C i c a)) (4 * 3 + 3) = c := D 15 (by decide)
  have D16 : decs (encs (iq C i c a)) (4 * 4) = C := D 16 (by decide)
  have D20 : decs (encs (iq C i c a)) (4 * 5) = 22 := D 20 (by decide)
  generalize hq : decs (encs (iq C i c a)) = q at *
  have S : Straight q 6 := fun i hi => by
    match i, hi with
    | 0, _ => rw [D0, kd1]; simp
    | 1, _ => rw [D4, kd3]; simp
    | 2, _ => rw [D8, kd1]; simp
    | 3, _ => rw [D12, kd97]; simp
    | 4, _ => rw [D16, hK]; simp
    | 5, _ => rw [D20, kd22]; simp
  refine chk_of (by decide) (by decide) (fun j hj => ?_) ?_ (fun j hj hb => ?_)
  · rw [hq]
    match j, hj with
    | 0, _ => exact straight_wrong S (by decide) (by simp only [okk, D0, kd1]; rfl) (by simp only [D0, kd1]; simp) (by simp only [D0, kd1]; simp)
    | 1, _ => exact straight_wrong S (by decide) (by simp only [okk, D4, kd3]; rfl) (by simp only [D4, kd3]; simp) (by simp only [D7]; omega)
    | 2, _ => exact straight_wrong S (by decide) (by simp only [okk, D8, kd1]; rfl) (by simp only [D8, kd1]; simp) (by simp only [D8, kd1]; simp)
    | 3, _ => exact straight_wrong S (by decide) (by simp only [okk, D12, kd97]; rfl) (by simp only [D12, kd97]; simp) (by simp only [D15]; omega)
    | 4, _ => exact straight_wrong S (by decide) (by simp [okk, D16, hK]) (by simp [D16, hK]) (by simp [D16, hK])
    | 5, _ => exact straight_wrong S (by decide) (by simp only [okk, D20, kd22]; rfl) (by simp only [D20, kd22]; simp) (by simp only [D20, kd22]; simp)
  · rw [hq]; show (kd (q (4 * 5))).kind = 12; rw [D20, kd22]
  · rw [hq] at hb
    obtain ⟨h1, h2⟩ := hb
    match j, hj with
    | 0, _ => rw [D0, kd1] at h1; simp at h1
    | 1, _ => rw [D4, kd3] at h1; simp at h1
    | 2, _ => rw [D8, kd1] at h1; simp at h1
    | 3, _ =>
      have s3 := (straight_step S _ (by decide) h2).1
      have s2 := (straight_step S _ (by decide) s3).2
      exact s2 ⟨by rw [D4, kd3], by rw [D7, D15]⟩
    | 4, _ => rw [D16, hK] at h1; simp at h1
    | 5, _ => rw [D20, kd22] at h1; simp at h1
theorem lq_chk : Chk (encs lq) (8 * 3) 0 0 := by
  have D := decs_all lq_room
  have D0 : decs (encs lq) (4 * 0) = 129 := D 0 (by decide)
  have D4 : decs (encs lq) (4 * 1) = 135 := D 4 (by decide)
  have D8 : decs (encs lq) (4 * 2) = 22 := D 8 (by decide)
  generalize hq : decs (encs lq) = q at *
  have S : Straight q 3 := fun i hi => by
    match i, hi with
    | 0, _ => rw [D0, kd129]; simp
    | 1, _ => rw [D4, kd135]; simp
    | 2, _ => rw [D8, kd22]; simp
  refine chk_of (by decide) (by decide) (fun j hj => ?_) ?_ (fun j hj hb => ?_)
  · rw [hq]
    match j, hj with
    | 0, _ => exact straight_wrong S (by decide) (by simp only [okk, D0, kd129]; rfl) (by simp only [D0, kd129]; simp) (by simp only [D0, kd129]; simp)
    | 1, _ => exact straight_wrong S (by decide) (by simp only [okk, D4, kd135]; rfl) (by simp only [D4, kd135]; simp) (by simp only [D4, kd135]; simp)
    | 2, _ => exact straight_wrong S (by decide) (by simp only [okk, D8, kd22]; rfl) (by simp only [D8, kd22]; simp) (by simp only [D8, kd22]; simp)
  · rw [hq]; show (kd (q (4 * 2))).kind = 12; rw [D8, kd22]
  · rw [hq] at hb
    obtain ⟨h1, h2⟩ := hb
    match j, hj with
    | 0, _ => rw [D0, kd129] at h1; simp at h1
    | 1, _ => rw [D4, kd135] at h1; simp at h1
    | 2, _ => rw [D8, kd22] at h1; simp at h1
theorem fq_chk {a : Int} (ha : 0 ≤ a ∧ a < 4294967296) : Chk (encs (fq a)) (8 * 4) 0 0 := by
  have D := decs_all (fq_room ha)
  have D0 : decs (encs (fq a)) (4 * 0) = 177 := D 0 (by decide)
  have D4 : decs (encs (fq a)) (4 * 1) = 135 := D 4 (by decide)
  have D8 : decs (encs (fq a)) (4 * 2) = 4 := D 8 (by decide)
  have D12 : decs (encs (fq a)) (4 * 3) = 22 := D 12 (by decide)
  generalize hq : decs (encs (fq a)) = q at *
  have S : Straight q 4 := fun i hi => by
    match i, hi with
    | 0, _ => rw [D0, kd177]; simp
    | 1, _ => rw [D4, kd135]; simp
    | 2, _ => rw [D8, kd4]; simp
    | 3, _ => rw [D12, kd22]; simp
  refine chk_of (by decide) (by decide) (fun j hj => ?_) ?_ (fun j hj hb => ?_)
  · rw [hq]
    match j, hj with
    | 0, _ => exact straight_wrong S (by decide) (by simp only [okk, D0, kd177]; rfl) (by simp only [D0, kd177]; simp) (by simp only [D0, kd177]; simp)
    | 1, _ => exact straight_wrong S (by decide) (by simp only [okk, D4, kd135]; rfl) (by simp only [D4, kd135]; simp) (by simp only [D4, kd135]; simp)
    | 2, _ => exact straight_wrong S (by decide) (by simp only [okk, D8, kd4]; rfl) (by simp only [D8, kd4]; simp) (by simp only [D8, kd4]; simp)
    | 3, _ => exact straight_wrong S (by decide) (by simp only [okk, D12, kd22]; rfl) (by simp only [D12, kd22]; simp) (by simp only [D12, kd22]; simp)
  · rw [hq]; show (kd (q (4 * 3))).kind = 12; rw [D12, kd22]
  · rw [hq] at hb
    obtain ⟨h1, h2⟩ := hb
    match j, hj with
    | 0, _ => rw [D0, kd177] at h1; simp at h1
    | 1, _ => rw [D4, kd135] at h1; simp at h1
    | 2, _ => rw [D8, kd4] at h1; simp at h1
    | 3, _ => rw [D12, kd22] at h1; simp at h1
theorem aq_run {C n a c : Int} (hK : kd C = ⟨C, 1, n, false, 0, 1⟩) (hC : 0 ≤ C ∧ C < 65536) (ha : 0 ≤ a ∧ a < 4294967296) (hc : 0 ≤ c ∧ c < 16) (p : Nat → Int) (m : Nat) : runF (decs (encs (aq C a c))) p m 256 F0 = if a.toNat + n.toNat ≤ m then be p a.toNat n.toNat else 0 := by
  have D := decs_all (aq_room hC ha hc)
  have D0 : decs (encs (aq C a c)) 0 = C := D 0 (by decide)
  have D3 : decs (encs (aq C a c)) 3 = a := D 3 (by decide)
  have D4 : decs (encs (aq C a c)) 4 = 2 := D 4 (by decide)
  have D7 : decs (encs (aq C a c)) 7 = c := D 7 (by decide)
  have D8 : decs (encs (aq C a c)) 8 = 0 := D 8 (by decide)
  have D11 : decs (encs (aq C a c)) 11 = 9 := D 11 (by decide)
  have D12 : decs (encs (aq C a c)) 12 = 96 := D 12 (by decide)
  have D15 : decs (encs (aq C a c)) 15 = c := D 15 (by decide)
  have D16 : decs (encs (aq C a c)) 16 = 22 := D 16 (by decide)
  generalize decs (encs (aq C a c)) = q at *
  by_cases hm : a.toNat + n.toNat ≤ m
  · rw [if_pos hm]
    rw [runF_on (f := 255) (S' := ⟨1, be p a.toNat n.toNat, 0, fun _ => 0⟩) (by simp [flt, F0, D0, D3, hK, hm])]
    rw [runF_on (f := 254) (S' := ⟨2, be p a.toNat n.toNat, 0, upd (fun _ => 0) c.toNat (be p a.toNat n.toNat)⟩) (by simp [flt, D4, D7, kd2])]
    rw [runF_on (f := 253) (S' := ⟨3, 9, 0, upd (fun _ => 0) c.toNat (be p a.toNat n.toNat)⟩) (by simp [flt, D8, D11, kd0])]
    rw [runF_on (f := 252) (S' := ⟨4, be p a.toNat n.toNat, 0, upd (fun _ => 0) c.toNat (be p a.toNat n.toNat)⟩) (by simp [flt, D12, D15, kd96, upd])]
    rw [runF_done (f := 251) (v := be p a.toNat n.toNat) (by simp [flt, D16, kd22])]
  · rw [if_neg hm, runF_done (f := 255) (v := 0) (by simp [flt, F0, D0, D3, hK, hm])]
theorem iq_run {C n i c a : Int} (hK : kd C = ⟨C, 1, n, true, 0, 1⟩) (hC : 0 ≤ C ∧ C < 65536) (hx : 0 ≤ i ∧ i < 4294967296) (ha : 0 ≤ a ∧ a < 4294967296) (hc : 0 ≤ c ∧ c < 16) (p : Nat → Int) (m : Nat) : runF (decs (encs (iq C i c a))) p m 256 F0 = if (a + i).toNat + n.toNat ≤ m then be p (a + i).toNat n.toNat else 0 := by
  have D := decs_all (iq_room hC hx ha hc)
  have D0 : decs (encs (iq C i c a)) 0 = 1 := D 0 (by decide)
  have D3 : decs (encs (iq C i c a)) 3 = i := D 3 (by decide)
  have D4 : decs (encs (iq C i c a)) 4 = 3 := D 4 (by decide)
  have D7 : decs (encs (iq C i c a)) 7 = c := D 7 (by decide)
  have D8 : decs (encs (iq C i c a)) 8 = 1 := D 8 (by decide)
  have D11 : decs (encs (iq C i c a)) 11 = 9 := D 11 (by decide)
  have D12 : decs (encs (iq C i c a)) 12 = 97 := D 12 (by decide)
  have D15 : decs (encs (iq C i c a)) 15 = c := D 15 (by decide)
  have D16 : decs (encs (iq C i c a)) 16 = C := D 16 (by decide)
  have D19 : decs (encs (iq C i c a)) 19 = a := D 19 (by decide)
  have D20 : decs (encs (iq C i c a)) 20 = 22 := D 20 (by decide)
  generalize decs (encs (iq C i c a)) = q at *
  rw [runF_on (f := 255) (S' := ⟨1, 0, i, fun _ => 0⟩) (by simp [flt, F0, D0, D3, kd1])]
  rw [runF_on (f := 254) (S' := ⟨2, 0, i, upd (fun _ => 0) c.toNat i⟩) (by simp [flt, D4, D7, kd3])]
  rw [runF_on (f := 253) (S' := ⟨3, 0, 9, upd (fun _ => 0) c.toNat i⟩) (by simp [flt, D8, D11, kd1])]
  rw [runF_on (f := 252) (S' := ⟨4, 0, i, upd (fun _ => 0) c.toNat i⟩) (by simp [flt, D12, D15, kd97, upd])]
  by_cases hm : (a + i).toNat + n.toNat ≤ m
  · rw [if_pos hm]
    rw [runF_on (f := 251) (S' := ⟨5, be p (a + i).toNat n.toNat, i, upd (fun _ => 0) c.toNat i⟩) (by simp [flt, D16, D19, hK, hm])]
    rw [runF_done (f := 250) (v := be p (a + i).toNat n.toNat) (by simp [flt, D20, kd22])]
  · rw [if_neg hm, runF_done (f := 251) (v := 0) (by simp [flt, D16, D19, hK, hm])]
theorem lq_run (p : Nat → Int) (m : Nat) : runF (decs (encs lq)) p m 256 F0 = m := by
  have D := decs_all lq_room
  have D0 : decs (encs lq) 0 = 129 := D 0 (by decide)
  have D4 : decs (encs lq) 4 = 135 := D 4 (by decide)
  have D8 : decs (encs lq) 8 = 22 := D 8 (by decide)
  generalize decs (encs lq) = q at *
  rw [runF_on (f := 255) (S' := ⟨1, 0, m, fun _ => 0⟩) (by simp [flt, F0, D0, kd129])]
  rw [runF_on (f := 254) (S' := ⟨2, m, m, fun _ => 0⟩) (by simp [flt, D4, kd135])]
  rw [runF_done (f := 253) (v := m) (by simp [flt, D8, kd22])]
theorem fq_run {a : Int} (ha : 0 ≤ a ∧ a < 4294967296) {p : Nat → Int} (hp : Oct p) (m : Nat) : runF (decs (encs (fq a))) p m 256 F0 = if a.toNat < m then 1 + p a.toNat % 16 * 4 else 0 := by
  have D := decs_all (fq_room ha)
  have D0 : decs (encs (fq a)) 0 = 177 := D 0 (by decide)
  have D3 : decs (encs (fq a)) 3 = a := D 3 (by decide)
  have D4 : decs (encs (fq a)) 4 = 135 := D 4 (by decide)
  have D8 : decs (encs (fq a)) 8 = 4 := D 8 (by decide)
  have D11 : decs (encs (fq a)) 11 = 1 := D 11 (by decide)
  have D12 : decs (encs (fq a)) 12 = 22 := D 12 (by decide)
  generalize decs (encs (fq a)) = q at *
  by_cases hm : a.toNat < m
  · have hm1 : a.toNat + 1 ≤ m := hm
    have e : (p a.toNat % 16 * 4 + 1) % 4294967296 = 1 + p a.toNat % 16 * 4 := by omega
    rw [if_pos hm]
    rw [runF_on (f := 255) (S' := ⟨1, 0, p a.toNat % 16 * 4, fun _ => 0⟩) (by simp [flt, F0, D0, D3, kd177, hm1])]
    rw [runF_on (f := 254) (S' := ⟨2, p a.toNat % 16 * 4, p a.toNat % 16 * 4, fun _ => 0⟩) (by simp [flt, D4, kd135])]
    rw [runF_on (f := 253) (S' := ⟨3, 1 + p a.toNat % 16 * 4, p a.toNat % 16 * 4, fun _ => 0⟩) (by simp [flt, D8, D11, kd4, div0, opr, opv, e])]
    rw [runF_done (f := 252) (v := 1 + p a.toNat % 16 * 4) (by simp [flt, D12, kd22])]
  · have hm1 : ¬ a.toNat + 1 ≤ m := hm
    rw [if_neg hm, runF_done (f := 255) (v := 0) (by simp [flt, F0, D0, D3, kd177, hm1])]
end Go.Proofs.YthbcfepbkkbjiaaGreatDoor
