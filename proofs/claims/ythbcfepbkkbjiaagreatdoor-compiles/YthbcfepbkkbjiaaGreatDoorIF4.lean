import Derived.Test.YthbcfepbkkbjiaaGreatDoorIE6
namespace Go.Proofs.YthbcfepbkkbjiaaGreatDoor
open Go.RowKit
set_option linter.unusedVariables false
theorem rbytes_sum (w0 w : World) (ao : Option Addr) (n c : Nat) (g : Nat → Int) (x y s : Nat) (hgr : w0.grownBy w none) (hsrc : Src w0 .u8 ao n g) (hg : Oct g) (h1 : 1 ≤ s) (hs : s ≤ 4) (hk : ((x : Int) + (y : Int)).toNat + s ≤ n) (hn : n ≤ 2000) :
    Calls Tryz.prog 83 #[.slice ao n c, .int .i64 ((x : Int) + (y : Int)), .int .i64 s] w fun e w' => e = .returned (.tuple #[.int .i64 (be g ((x : Int) + (y : Int)).toNat s), .bool true]) ∧ w.grownBy w' none := by
  obtain ⟨b, off, rfl, hrow⟩ := hsrc (by omega)
  have e : ((x : Int) + (y : Int)) = ((x + y : Nat) : Int) := by omega
  rw [e, Int.toNat_natCast] at hk
  rw [e, Int.toNat_natCast]
  exact rbytes_ok b off n c (x + y) s g w hs (by unfold maxLen; omega) hk hg (hrow.keep hgr (by simp))
theorem rbytes_sno (w0 w : World) (ao : Option Addr) (n c : Nat) (x y s : Nat) (hx : (x : Int) < 4294967296) (hy : (y : Int) < 4294967296) (hs : s ≤ 4) (hk : ¬ ((x : Int) + (y : Int)).toNat + s ≤ n) (hn : n ≤ 2000) :
    Calls Tryz.prog 83 #[.slice ao n c, .int .i64 ((x : Int) + (y : Int)), .int .i64 s] w fun e w' => e = .returned (.tuple #[.int .i64 0, .bool false]) ∧ w.grownBy w' none := by
  have e : ((x : Int) + (y : Int)) = ((x + y : Nat) : Int) := by omega
  rw [e, Int.toNat_natCast] at hk
  rw [e]
  exact rbytes_no ao n c (x + y) s w (by unfold maxLen; omega) (by omega) hs (by omega)
set_option maxRecDepth 100000 in
set_option maxHeartbeats 2000000 in
theorem rstep_5a (w0 w : World) (M CB b off n c : Nat) (g : Nat → Int) (po : Option Addr) (m pc' : Nat) (p : Nat → Int) (sv : Value) (S : Mst) (h : Fst w0 w M CB b off n c g po m pc' p sv S) (hC : g S.pc = 5) (hfit5 : (S.st (S.sp - 1 - 1) + S.st (S.sp - 1)).toNat + (g (S.pc + 1)).toNat ≤ m) :
    Calls Tryz.prog 51 #[.pointer (some ⟨M, 0, none⟩)] w fun e w' => e = .returned (.tuple #[.int .i64 0, .bool false]) ∧ ∃ sv', RM w0 w' M CB (.slice (some ⟨b, off, none⟩) n c) (.slice po m pc') sv' ⟨S.pc + 2, S.sp - 1 - 1 + 1, upd S.st (S.sp - 1 - 1) (be p (S.st (S.sp - 1 - 1) + S.st (S.sp - 1)).toNat (g (S.pc + 1)).toNat), S.cs⟩ := by
  obtain ⟨pc, sp, st, cs⟩ := S
  obtain ⟨hn, hm, hc, hg, hp, hi, hfit, hrm, hrow, hsrc⟩ := h
  obtain ⟨f1, s, f2, f3, f4, f5, f6⟩ := fit_true hfit
  obtain ⟨i1, i2, i3, i4⟩ := hi
  obtain ⟨⟨c0, c1, c2, c3, c4⟩, z2, z4⟩ := hrm.cells
  dsimp only at *
  have hs : s = ⟨1, 0, 2, 1⟩ := by rw [hC] at f2; cases f2; rfl
  subst hs
  dsimp only at f3 f4 f5
  rw [hC] at f6
  have hR := hrow.keep hrm.gr (by simp)
  have cc := hR pc f1
  rw [hC] at cc
  have HRM : Hid (RM w0 w M CB (.slice (some ⟨b, off, none⟩) n c) (.slice po m pc') sv ⟨pc, sp, st, cs⟩) := hrm
  have HO : Hid (∀ w, Calls Tryz.prog 81 #[.int .i64 5] w fun e w' => e = .returned (.tuple #[.int .i64 1, .int .i64 2, .int .i64 1]) ∧ w.grownBy w' none) := fun w => operands_some 5 _ w rfl
  clear hrm f2 hfit hR
  obtain ⟨i0, hi, hz0, hz1, hz2⟩ := info_parts Tryz.infoInt1
  have ob := hg (pc + 1)
  obtain ⟨o, ho⟩ : ∃ o : Nat, g (pc + 1) = o := ⟨(g (pc + 1)).toNat, by omega⟩
  rw [ho] at ob f6
  try rw [ho]
  have o17 : o ≤ 4 := by simp [knw] at f6; omega
  have o18 : (o : Int) < 5 := by omega
  have o19 : o < 5 := by omega
  have oW : IntKind.i64.wrap (o : Int) = (o : Int) := wrap_nat o (by omega)
  have ux : U32 (st (sp - 1 - 1)) := i3 _ (by omega)
  have uy : U32 (st (sp - 1)) := i3 _ (by omega)
  obtain ⟨x, hx⟩ : ∃ x : Nat, st (sp - 1 - 1) = x := ⟨(st (sp - 1 - 1)).toNat, by have := ux.1; omega⟩
  obtain ⟨y, hy⟩ : ∃ y : Nat, st (sp - 1) = y := ⟨(st (sp - 1)).toNat, by have := uy.1; omega⟩
  try rw [hx]
  try rw [hy]
  have xb := ux.2
  have yb := uy.2
  rw [hx] at xb
  rw [hy] at yb
  have xyW : IntKind.i64.wrap ((x : Int) + (y : Int)) = (x : Int) + (y : Int) := by rw [IntKind.wrap_i64]; omega
  have o1 : 1 ≤ o := by simp [knw] at f6; omega
  rw [hx, hy, ho] at hfit5
  have e1 : ¬ c = pc + 1 := by omega
  go_enter Tryz.func51, Tryz.ntmps51
  go_wp2
  go_quiet (fail)
  go_wp2_with (go_at_call 81; refine (HO.out _).mono ?_; rintro e w1 ⟨rfl, hg1⟩; obtain ⟨⟨d0, d1, d2, d3, d4⟩, y2, y4⟩ := (HRM.out.keep (grown_undrewN hg1)).cells; dsimp only at d4; have lM := (HRM.out.keep (grown_undrewN hg1)).m.lt; have lC := (HRM.out.keep (grown_undrewN hg1)).cs.lt; have HP : ∀ k, Hid (RM w0 ((w1.drewN k).setCell ⟨M, 4, none⟩ (.int .i64 ((pc : Int) + 1 + 1))) M CB (.slice (some ⟨b, off, none⟩) n c) (.slice po m pc') sv ⟨pc + 2, sp, st, cs⟩) := fun k => ((HRM.out.keep (grown_undrewN hg1)).keep (grown_drewN w1 k none)).setPc' (pc + 2) _ (by omega))
  go_quiet (fail)
  go_wp2_with (go_at_call 82; refine (rpop_any w0 _ M CB _ _ sv _ (HP _).out (by dsimp only; omega)).mono ?_; dsimp only; rw [hy]; rintro e w4 ⟨rfl, sv1, HA⟩; obtain ⟨⟨a0, a1, a2, a3, a4⟩, z5, z6⟩ := HA.cells; dsimp only at a4; have lA := HA.m.lt; have lB := HA.cs.lt; go_wp2_with (go_at_call 82; refine (rpop_any w0 _ M CB _ _ sv1 _ HA (by dsimp only; omega)).mono ?_; dsimp only; rw [hx]; rintro e w5 ⟨rfl, sv2, HB⟩; clear a0 a1 a2 a3 a4 z5 z6 lA lB; obtain ⟨⟨a0, a1, a2, a3, a4⟩, z5, z6⟩ := HB.cells; dsimp only at a4; have lA := HB.m.lt; have lB := HB.cs.lt; have cO : w5.cell? ⟨b, off + (pc + 1), none⟩ = some (.int .u8 (o : Int)) := (by have := (hrow.keep HB.gr (by simp)) (pc + 1) (by omega); rwa [ho] at this); have cS := hsrc.keep HB.gr))
  go_region_with (go_at_call 83; refine (rbytes_sum w0 _ po m _ p x y o (RM.gr (M := M) (CB := CB) (cv := .slice (some ⟨b, off, none⟩) n c) (pv := .slice po m pc') (sv := sv2) (S := ⟨pc + 2, sp - 1 - 1, st, cs⟩) (by repeat (first | exact HB | refine RM.drew ?_ | refine RM.drewN ?_ _))) hsrc hp (by omega) (by omega) (by omega) hm).mono ?_; rintro e w6 ⟨rfl, hg6⟩; have HQ := RM.keep (M := M) (CB := CB) (cv := .slice (some ⟨b, off, none⟩) n c) (pv := .slice po m pc') (sv := sv2) (S := ⟨pc + 2, sp - 1 - 1, st, cs⟩) (w0 := w0) (by repeat (first | exact HB | refine RM.drew ?_ | refine RM.drewN ?_ _)) hg6; obtain ⟨⟨_, _, r2, _, r4⟩, r5, r6⟩ := HQ.cells)
  all_goals go_wp2_with (at_builtin; refine wpList_push _ w0 rfl _ _ 66 rfl 3 i0 (.int .i64 0) 8 Tryz.underlying66 hi hz0 hz1 hz2 rfl .i64 _ _ _ rfl (HQ.keep (World.grownBy_alloc _ _ none)).st (HQ.keep (World.grownBy_alloc _ _ none)).gr _ _ _ _ rfl (heap_top _ _ _ (by simp)) (by dsimp only; omega) (by decide) ?_; intro g2 p2 w3 o2 gr2 k2 u2; obtain ⟨⟨q1, q2⟩, Q3⟩ := RM.append (HQ.keep (World.grownBy_alloc _ _ none)) gr2 k2 o2 u2; clear k2 u2)
  all_goals go_ret2
  all_goals exact ⟨rfl, _, Q3⟩
set_option maxRecDepth 100000 in
set_option maxHeartbeats 2000000 in
theorem rstep_5b (w0 w : World) (M CB b off n c : Nat) (g : Nat → Int) (po : Option Addr) (m pc' : Nat) (p : Nat → Int) (sv : Value) (S : Mst) (h : Fst w0 w M CB b off n c g po m pc' p sv S) (hC : g S.pc = 5) (hfit5 : ¬ (S.st (S.sp - 1 - 1) + S.st (S.sp - 1)).toNat + (g (S.pc + 1)).toNat ≤ m) :
    Calls Tryz.prog 51 #[.pointer (some ⟨M, 0, none⟩)] w fun e w' => e = .returned (.tuple #[.int .i64 0, .bool true]) ∧ ∃ sv', RM w0 w' M CB (.slice (some ⟨b, off, none⟩) n c) (.slice po m pc') sv' ⟨S.pc + 2, S.sp - 1 - 1 + 1, upd S.st (S.sp - 1 - 1) 0, S.cs⟩ := by
  obtain ⟨pc, sp, st, cs⟩ := S
  obtain ⟨hn, hm, hc, hg, hp, hi, hfit, hrm, hrow, hsrc⟩ := h
  obtain ⟨f1, s, f2, f3, f4, f5, f6⟩ := fit_true hfit
  obtain ⟨i1, i2, i3, i4⟩ := hi
  obtain ⟨⟨c0, c1, c2, c3, c4⟩, z2, z4⟩ := hrm.cells
  dsimp only at *
  have hs : s = ⟨1, 0, 2, 1⟩ := by rw [hC] at f2; cases f2; rfl
  subst hs
  dsimp only at f3 f4 f5
  rw [hC] at f6
  have hR := hrow.keep hrm.gr (by simp)
  have cc := hR pc f1
  rw [hC] at cc
  have HRM : Hid (RM w0 w M CB (.slice (some ⟨b, off, none⟩) n c) (.slice po m pc') sv ⟨pc, sp, st, cs⟩) := hrm
  have HO : Hid (∀ w, Calls Tryz.prog 81 #[.int .i64 5] w fun e w' => e = .returned (.tuple #[.int .i64 1, .int .i64 2, .int .i64 1]) ∧ w.grownBy w' none) := fun w => operands_some 5 _ w rfl
  clear hrm f2 hfit hR
  obtain ⟨i0, hi, hz0, hz1, hz2⟩ := info_parts Tryz.infoInt1
  have ob := hg (pc + 1)
  obtain ⟨o, ho⟩ : ∃ o : Nat, g (pc + 1) = o := ⟨(g (pc + 1)).toNat, by omega⟩
  rw [ho] at ob f6
  try rw [ho]
  have o17 : o ≤ 4 := by simp [knw] at f6; omega
  have o18 : (o : Int) < 5 := by omega
  have o19 : o < 5 := by omega
  have oW : IntKind.i64.wrap (o : Int) = (o : Int) := wrap_nat o (by omega)
  have ux : U32 (st (sp - 1 - 1)) := i3 _ (by omega)
  have uy : U32 (st (sp - 1)) := i3 _ (by omega)
  obtain ⟨x, hx⟩ : ∃ x : Nat, st (sp - 1 - 1) = x := ⟨(st (sp - 1 - 1)).toNat, by have := ux.1; omega⟩
  obtain ⟨y, hy⟩ : ∃ y : Nat, st (sp - 1) = y := ⟨(st (sp - 1)).toNat, by have := uy.1; omega⟩
  try rw [hx]
  try rw [hy]
  have xb := ux.2
  have yb := uy.2
  rw [hx] at xb
  rw [hy] at yb
  have xyW : IntKind.i64.wrap ((x : Int) + (y : Int)) = (x : Int) + (y : Int) := by rw [IntKind.wrap_i64]; omega
  have o1 : 1 ≤ o := by simp [knw] at f6; omega
  rw [hx, hy, ho] at hfit5
  have e1 : ¬ c = pc + 1 := by omega
  go_enter Tryz.func51, Tryz.ntmps51
  go_wp2
  go_quiet (fail)
  go_wp2_with (go_at_call 81; refine (HO.out _).mono ?_; rintro e w1 ⟨rfl, hg1⟩; obtain ⟨⟨d0, d1, d2, d3, d4⟩, y2, y4⟩ := (HRM.out.keep (grown_undrewN hg1)).cells; dsimp only at d4; have lM := (HRM.out.keep (grown_undrewN hg1)).m.lt; have lC := (HRM.out.keep (grown_undrewN hg1)).cs.lt; have HP : ∀ k, Hid (RM w0 ((w1.drewN k).setCell ⟨M, 4, none⟩ (.int .i64 ((pc : Int) + 1 + 1))) M CB (.slice (some ⟨b, off, none⟩) n c) (.slice po m pc') sv ⟨pc + 2, sp, st, cs⟩) := fun k => ((HRM.out.keep (grown_undrewN hg1)).keep (grown_drewN w1 k none)).setPc' (pc + 2) _ (by omega))
  go_quiet (fail)
  go_wp2_with (go_at_call 82; refine (rpop_any w0 _ M CB _ _ sv _ (HP _).out (by dsimp only; omega)).mono ?_; dsimp only; rw [hy]; rintro e w4 ⟨rfl, sv1, HA⟩; obtain ⟨⟨a0, a1, a2, a3, a4⟩, z5, z6⟩ := HA.cells; dsimp only at a4; have lA := HA.m.lt; have lB := HA.cs.lt; go_wp2_with (go_at_call 82; refine (rpop_any w0 _ M CB _ _ sv1 _ HA (by dsimp only; omega)).mono ?_; dsimp only; rw [hx]; rintro e w5 ⟨rfl, sv2, HB⟩; clear a0 a1 a2 a3 a4 z5 z6 lA lB; obtain ⟨⟨a0, a1, a2, a3, a4⟩, z5, z6⟩ := HB.cells; dsimp only at a4; have lA := HB.m.lt; have lB := HB.cs.lt; have cO : w5.cell? ⟨b, off + (pc + 1), none⟩ = some (.int .u8 (o : Int)) := (by have := (hrow.keep HB.gr (by simp)) (pc + 1) (by omega); rwa [ho] at this); have cS := hsrc.keep HB.gr))
  go_region_with (go_at_call 83; refine (rbytes_sno w0 _ po m _ x y o xb yb (by omega) (by omega) hm).mono ?_; rintro e w6 ⟨rfl, hg6⟩; have HQ := RM.keep (M := M) (CB := CB) (cv := .slice (some ⟨b, off, none⟩) n c) (pv := .slice po m pc') (sv := sv2) (S := ⟨pc + 2, sp - 1 - 1, st, cs⟩) (w0 := w0) (by repeat (first | exact HB | refine RM.drew ?_ | refine RM.drewN ?_ _)) hg6; obtain ⟨⟨_, _, r2, _, r4⟩, r5, r6⟩ := HQ.cells)
  all_goals go_wp2_with (at_builtin; refine wpList_push _ w0 rfl _ _ 66 rfl 3 i0 (.int .i64 0) 8 Tryz.underlying66 hi hz0 hz1 hz2 rfl .i64 _ _ _ rfl (HQ.keep (World.grownBy_alloc _ _ none)).st (HQ.keep (World.grownBy_alloc _ _ none)).gr _ _ _ _ rfl (heap_top _ _ _ (by simp)) (by dsimp only; omega) (by decide) ?_; intro g2 p2 w3 o2 gr2 k2 u2; obtain ⟨⟨q1, q2⟩, Q3⟩ := RM.append (HQ.keep (World.grownBy_alloc _ _ none)) gr2 k2 o2 u2; clear k2 u2)
  all_goals go_ret2
  all_goals exact ⟨rfl, _, Q3⟩
end Go.Proofs.YthbcfepbkkbjiaaGreatDoor
