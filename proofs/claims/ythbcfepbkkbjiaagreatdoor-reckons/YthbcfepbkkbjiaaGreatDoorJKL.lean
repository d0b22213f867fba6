import Derived.Test.YthbcfepbkkbjiaaGreatDoorJKH
namespace Go.Proofs.YthbcfepbkkbjiaaGreatDoor
open Go.RowKit
set_option linter.unusedVariables false
set_option linter.unusedSimpArgs false
theorem kd_sum (k : Nat) (hk : k < 10) : ∃ cl, kd (sums k) = ⟨sums k, 8, 0, false, (k : Int), cl⟩ ∧ (cl != 0) = true := by
  match k, hk with
  | 0, _ => exact ⟨_, rfl, rfl⟩
  | 1, _ => exact ⟨_, rfl, rfl⟩
  | 2, _ => exact ⟨_, rfl, rfl⟩
  | 3, _ => exact ⟨_, rfl, rfl⟩
  | 4, _ => exact ⟨_, rfl, rfl⟩
  | 5, _ => exact ⟨_, rfl, rfl⟩
  | 6, _ => exact ⟨_, rfl, rfl⟩
  | 7, _ => exact ⟨_, rfl, rfl⟩
  | 8, _ => exact ⟨_, rfl, rfl⟩
  | 9, _ => exact ⟨_, rfl, rfl⟩
theorem kd_sumx (k : Nat) (hk : k < 10) : ∃ cl, kd (sums k + 8) = ⟨sums k + 8, 8, 0, true, (k : Int), cl⟩ ∧ (cl != 0) = true := by
  match k, hk with
  | 0, _ => exact ⟨_, rfl, rfl⟩
  | 1, _ => exact ⟨_, rfl, rfl⟩
  | 2, _ => exact ⟨_, rfl, rfl⟩
  | 3, _ => exact ⟨_, rfl, rfl⟩
  | 4, _ => exact ⟨_, rfl, rfl⟩
  | 5, _ => exact ⟨_, rfl, rfl⟩
  | 6, _ => exact ⟨_, rfl, rfl⟩
  | 7, _ => exact ⟨_, rfl, rfl⟩
  | 8, _ => exact ⟨_, rfl, rfl⟩
  | 9, _ => exact ⟨_, rfl, rfl⟩
def xq (C x y : Int) : Nat → Int := fun j => [0, 0, 0, x, 1, 0, 0, y, C, 0, 0, 0, 22, 0, 0, 0].getD j 0
def yq (C x y : Int) : Nat → Int := fun j => [0, 0, 0, x, C, 0, 0, y, 22, 0, 0, 0].getD j 0
theorem xq_room {C x y : Int} (hC : 0 ≤ C ∧ C < 65536) (hx : U32 x) (hy : U32 y) : ∀ i, i < 4 → Room (xq C x y) i := fun i hi => by
  obtain ⟨C0, C1⟩ := hC
  obtain ⟨x0, x1⟩ := hx
  obtain ⟨y0, y1⟩ := hy
  match i, hi with
  | 0, _ => simp [Room, xq]; omega
  | 1, _ => simp [Room, xq]; omega
  | 2, _ => simp [Room, xq]; omega
  | 3, _ => simp [Room, xq]
theorem yq_room {C x y : Int} (hC : 0 ≤ C ∧ C < 65536) (hx : U32 x) (hy : U32 y) : ∀ i, i < 3 → Room (yq C x y) i := fun i hi => by
  obtain ⟨C0, C1⟩ := hC
  obtain ⟨x0, x1⟩ := hx
  obtain ⟨y0, y1⟩ := hy
  match i, hi with
  | 0, _ => simp [Room, yq]; omega
  | 1, _ => simp [Room, yq]; omega
  | 2, _ => simp [Room, yq]
theorem xq_chk {C x y o : Int} {cl : Nat} (hK : kd C = ⟨C, 8, 0, true, o, cl⟩) (hcl : (cl != 0) = true) (hC : 0 ≤ C ∧ C < 65536) (hx : U32 x) (hy : U32 y) : Chk (encs (xq C x y)) (8 * 4) 0 0 := by
  have D := decs_all (xq_room hC hx hy)
  have D0 : decs (encs (xq C x y)) (4 * 0) = 0 := D 0 (by decide)
  have D4 : decs (encs (xq C x y)) (4 * 1) = 1 := D 4 (by decide)
  have D8 : decs (encs (xq C x y)) (4 * 2) = C := D 8 (by decide)
  have D12 : decs (encs (xq C x y)) (4 * 3) = 22 := D 12 (by decide)
  generalize hq : decs (encs (xq C x y)) = q at *
  have S : Straight q 4 := fun i hi => by
    match i, hi with
    | 0, _ => rw [D0, kd0]; simp
    | 1, _ => rw [D4, kd1]; simp
    | 2, _ => rw [D8, hK]; simp
    | 3, _ => rw [D12, kd22]; simp
  refine chk_of (by decide) (by decide) (fun j hj => ?_) ?_ (fun j hj hb => ?_)
  · rw [hq]
    match j, hj with
    | 0, _ => exact straight_wrong S (by decide) (by simp only [okk, D0, kd0]; rfl) (by simp only [D0, kd0]; simp) (by simp only [D0, kd0]; simp)
    | 1, _ => exact straight_wrong S (by decide) (by simp only [okk, D4, kd1]; rfl) (by simp only [D4, kd1]; simp) (by simp only [D4, kd1]; simp)
    | 2, _ => exact straight_wrong S (by decide) (by simp only [okk, D8, hK]; exact hcl) (by simp only [D8, hK]; simp) (by simp only [D8, hK]; simp)
    | 3, _ => exact straight_wrong S (by decide) (by simp only [okk, D12, kd22]; rfl) (by simp only [D12, kd22]; simp) (by simp only [D12, kd22]; simp)
  · rw [hq]; show (kd (q (4 * 3))).kind = 12; rw [D12, kd22]
  · rw [hq] at hb
    obtain ⟨h1, h2⟩ := hb
    match j, hj with
    | 0, _ => rw [D0, kd0] at h1; simp at h1
    | 1, _ => rw [D4, kd1] at h1; simp at h1
    | 2, _ => rw [D8, hK] at h1; simp at h1
    | 3, _ => rw [D12, kd22] at h1; simp at h1
theorem xq_run {C x y o : Int} {cl : Nat} (hK : kd C = ⟨C, 8, 0, true, o, cl⟩) (hC : 0 ≤ C ∧ C < 65536) (hx : U32 x) (hy : U32 y) (p : Nat → Int) (m : Nat) : runF (decs (encs (xq C x y))) p m 256 F0 = opr o x y := by
  have D := decs_all (xq_room hC hx hy)
  have D0 : decs (encs (xq C x y)) 0 = 0 := D 0 (by decide)
  have D3 : decs (encs (xq C x y)) 3 = x := D 3 (by decide)
  have D4 : decs (encs (xq C x y)) 4 = 1 := D 4 (by decide)
  have D7 : decs (encs (xq C x y)) 7 = y := D 7 (by decide)
  have D8 : decs (encs (xq C x y)) 8 = C := D 8 (by decide)
  have D12 : decs (encs (xq C x y)) 12 = 22 := D 12 (by decide)
  generalize decs (encs (xq C x y)) = q at *
  rw [runF_on (f := 255) (S' := ⟨1, x, 0, fun _ => 0⟩) (by simp [flt, F0, D0, D3, kd0])]
  rw [runF_on (f := 254) (S' := ⟨2, x, y, fun _ => 0⟩) (by simp [flt, D4, D7, kd1])]
  by_cases hd : div0 o y = true
  · rw [runF_done (f := 253) (v := 0) (by simp [flt, D8, hK, hd])]
    unfold opr; rw [if_pos hd]
  · rw [runF_on (f := 253) (S' := ⟨3, opr o x y, y, fun _ => 0⟩) (by simp [flt, D8, hK, hd])]
    rw [runF_done (f := 252) (v := opr o x y) (by simp [flt, D12, kd22])]
theorem yq_chk {C x y o : Int} {cl : Nat} (hK : kd C = ⟨C, 8, 0, false, o, cl⟩) (hcl : (cl != 0) = true) (hC : 0 ≤ C ∧ C < 65536) (hx : U32 x) (hy : U32 y) : ((o = 3 ∨ o = 4) ∧ y = 0 → Chk (encs (yq C x y)) (8 * 3) 3 1) ∧ (¬ ((o = 3 ∨ o = 4) ∧ y = 0) → 8 ≤ o ∧ 31 < y → Chk (encs (yq C x y)) (8 * 3) 4 1) ∧ (¬ ((o = 3 ∨ o = 4) ∧ y = 0) → ¬ (8 ≤ o ∧ 31 < y) → Chk (encs (yq C x y)) (8 * 3) 0 0) := by
  have D := decs_all (yq_room hC hx hy)
  have D0 : decs (encs (yq C x y)) (4 * 0) = 0 := D 0 (by decide)
  have D4 : decs (encs (yq C x y)) (4 * 1) = C := D 4 (by decide)
  have D7 : decs (encs (yq C x y)) (4 * 1 + 3) = y := D 7 (by decide)
  have D8 : decs (encs (yq C x y)) (4 * 2) = 22 := D 8 (by decide)
  have hq0 := chk_of (u := yq C x y) (L := 3) (by decide) (by decide)
  have hbs : ¬ badSize (8 * 3) := by unfold badSize; omega
  unfold Chk
  rw [show 8 * 3 / 8 = 3 by decide]
  generalize hq : decs (encs (yq C x y)) = q at *
  have S : Straight q 3 := fun i hi => by
    match i, hi with
    | 0, _ => rw [D0, kd0]; simp
    | 1, _ => rw [D4, hK]; simp
    | 2, _ => rw [D8, kd22]; simp
  have w0 : wrong q 3 0 = 0 := straight_wrong S (by decide) (by simp only [okk, D0, kd0]; rfl) (by simp only [D0, kd0]; simp) (by simp only [D0, kd0]; simp)
  have w2 : wrong q 3 2 = 0 := straight_wrong S (by decide) (by simp only [okk, D8, kd22]; rfl) (by simp only [D8, kd22]; simp) (by simp only [D8, kd22]; simp)
  have ok1 : okk (q (4 * 1)) = true := by simp only [okk, D4, hK]; exact hcl
  refine ⟨fun h => ?_, fun h h' => ?_, fun h h' => ?_⟩
  · have w1 : wrong q 3 1 = 3 := by
      unfold wrong wrg
      rw [if_neg (by simp [ok1]), if_pos ⟨by rw [D4, hK], by rw [D4, hK], by rw [D4, hK]; exact h.1, by rw [D7]; exact h.2⟩]
    exact Or.inr ⟨hbs, Or.inl ⟨by decide, by rw [w1]; decide, fun j hj => (by obtain rfl : j = 0 := (by omega); exact w0), w1.symm⟩⟩
  · have w1 : wrong q 3 1 = 4 := by
      unfold wrong wrg
      rw [if_neg (by simp [ok1]), if_neg (fun e => by rw [D4, hK, D7] at e; exact h e.2.2), if_pos ⟨by rw [D4, hK], by rw [D4, hK], by rw [D4, hK]; exact h'.1, by rw [D7]; exact h'.2⟩]
    exact Or.inr ⟨hbs, Or.inl ⟨by decide, by rw [w1]; decide, fun j hj => (by obtain rfl : j = 0 := (by omega); exact w0), w1.symm⟩⟩
  · have w1 : wrong q 3 1 = 0 := straight_wrong S (by decide) ok1 (by
      rw [D4, hK, D7]
      rintro ⟨_, _, e | e⟩
      · exact h e
      · exact h' e) (by rw [D4, hK]; simp)
    refine Or.inr ⟨hbs, Or.inr ⟨fun j hj => ?_, Or.inr ⟨by rw [show 4 * (3 - 1) = 4 * 2 by decide, D8, kd22], Or.inr ⟨fun j hj hb => ?_, rfl, rfl⟩⟩⟩⟩
    · match j, hj with
      | 0, _ => exact w0
      | 1, _ => exact w1
      | 2, _ => exact w2
    · obtain ⟨h1, h2⟩ := hb
      match j, hj with
      | 0, _ => rw [D0, kd0] at h1; simp at h1
      | 1, _ => rw [D4, hK] at h1; simp at h1
      | 2, _ => rw [D8, kd22] at h1; simp at h1
theorem yq_run {C x y o : Int} {cl : Nat} (hK : kd C = ⟨C, 8, 0, false, o, cl⟩) (hC : 0 ≤ C ∧ C < 65536) (hx : U32 x) (hy : U32 y) (p : Nat → Int) (m : Nat) : runF (decs (encs (yq C x y))) p m 256 F0 = opr o x y := by
  have D := decs_all (yq_room hC hx hy)
  have D0 : decs (encs (yq C x y)) 0 = 0 := D 0 (by decide)
  have D3 : decs (encs (yq C x y)) 3 = x := D 3 (by decide)
  have D4 : decs (encs (yq C x y)) 4 = C := D 4 (by decide)
  have D7 : decs (encs (yq C x y)) 7 = y := D 7 (by decide)
  have D8 : decs (encs (yq C x y)) 8 = 22 := D 8 (by decide)
  generalize decs (encs (yq C x y)) = q at *
  rw [runF_on (f := 255) (S' := ⟨1, x, 0, fun _ => 0⟩) (by simp [flt, F0, D0, D3, kd0])]
  by_cases hd : div0 o y = true
  · rw [runF_done (f := 254) (v := 0) (by simp [flt, D4, D7, hK, hd])]
    unfold opr; rw [if_pos hd]
  · rw [runF_on (f := 254) (S' := ⟨2, opr o x y, 0, fun _ => 0⟩) (by simp [flt, D4, D7, hK, hd])]
    rw [runF_done (f := 253) (v := opr o x y) (by simp [flt, D8, kd22])]
def rcode (x y k : Int) : List Int := pW x ++ (pW y ++ ([4, k] ++ [9]))
theorem rcode_exec {x y : Int} {k : Nat} {g : Nat → Int} (hk : k < 10) (hx : U32 x) (hy : U32 y) (hA : At g 0 (rcode x y k)) (p : Nat → Int) (m : Nat) : execR g 13 p m = (opr k x y, if div0 k y = true then 3 else 4, 0) := by
  obtain ⟨h1, h2⟩ := At.app hA
  obtain ⟨h2, h3⟩ := At.app h2
  obtain ⟨h3, h4⟩ := At.app h3
  rw [len_W] at h2 h3 h4
  rw [len_W] at h3 h4
  have G1 := ex_W (N := 13) (p := p) (m := m) (sp := 0) (st := S0.st) (cs := S0.cs) h1 hx (by decide) (by decide)
  have G2 := ex_W (N := 13) (p := p) (m := m) (sp := 0 + 1) (st := upd S0.st 0 x) (cs := S0.cs) h2 hy (by decide) (by decide)
  have G := G1.then G2
  have ho : 0 ≤ (k : Int) ∧ (k : Int) ≤ 9 := by omega
  have e1 : upd (upd S0.st 0 x) (0 + 1) y (0 + 1) = y := by simp [upd]
  have e0 : upd (upd S0.st 0 x) (0 + 1) y 0 = x := by simp [upd]
  by_cases hd : div0 (k : Int) y = true
  · have F := ex_R0 (N := 13) (p := p) (m := m) (sp := 0) (st := upd (upd S0.st 0 x) (0 + 1) y) (cs := S0.cs) h3 ho (by decide) (by decide) (by rw [e1]; exact hd)
    have := G.fin F 65533 0
    rw [if_pos hd, show opr (k : Int) x y = 0 by unfold opr; rw [if_pos hd]]
    exact this
  · have G3 := ex_R (N := 13) (p := p) (m := m) (sp := 0) (st := upd (upd S0.st 0 x) (0 + 1) y) (cs := S0.cs) h3 ho (by decide) (by decide) (by rw [e1]; simpa using hd)
    rw [e1, e0] at G3
    have F := ex_S (N := 13) (p := p) (m := m) (sp := 0) (st := upd (upd (upd S0.st 0 x) (0 + 1) y) 0 (opr k x y)) (cs := S0.cs) h4 (by simp) (by decide)
    have := (G.then G3).fin F 65532 0
    rw [if_neg hd]
    rw [show upd (upd (upd S0.st 0 x) (0 + 1) y) 0 (opr k x y) 0 = opr k x y by simp [upd]] at this
    exact this
end Go.Proofs.YthbcfepbkkbjiaaGreatDoor
