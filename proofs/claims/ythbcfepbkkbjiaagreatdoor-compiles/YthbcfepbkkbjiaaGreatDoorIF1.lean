import Derived.Test.YthbcfepbkkbjiaaGreatDoorIE6
namespace Go.Proofs.YthbcfepbkkbjiaaGreatDoor
open Go.RowKit
set_option linter.unusedVariables false
set_option maxRecDepth 100000 in
set_option maxHeartbeats 2000000 in
theorem rstep_2 (w0 w : World) (M CB b off n c : Nat) (g : Nat → Int) (po : Option Addr) (m pc' : Nat) (p : Nat → Int) (sv : Value) (S : Mst) (h : Fst w0 w M CB b off n c g po m pc' p sv S) (hC : g S.pc = 2) :
    Calls Tryz.prog 51 #[.pointer (some ⟨M, 0, none⟩)] w fun e w' => e = .returned (.tuple #[.int .i64 0, .bool false]) ∧ ∃ sv', RM w0 w' M CB (.slice (some ⟨b, off, none⟩) n c) (.slice po m pc') sv' (S.push (S.cs (g (S.pc + 1)).toNat) 2) := by
  obtain ⟨pc, sp, st, cs⟩ := S
  obtain ⟨hn, hm, hc, hg, hp, hi, hfit, hrm, hrow, hsrc⟩ := h
  obtain ⟨f1, s, f2, f3, f4, f5, f6⟩ := fit_true hfit
  obtain ⟨i1, i2, i3, i4⟩ := hi
  obtain ⟨⟨c0, c1, c2, c3, c4⟩, z2, z4⟩ := hrm.cells
  dsimp only at *
  have hs : s = ⟨1, 0, 0, 1⟩ := by rw [hC] at f2; cases f2; rfl
  subst hs
  dsimp only at f3 f4 f5
  rw [hC] at f6
  have hR := hrow.keep hrm.gr (by simp)
  have cc := hR pc f1
  rw [hC] at cc
  have HRM : Hid (RM w0 w M CB (.slice (some ⟨b, off, none⟩) n c) (.slice po m pc') sv ⟨pc, sp, st, cs⟩) := hrm
  have HO : Hid (∀ w, Calls Tryz.prog 81 #[.int .i64 2] w fun e w' => e = .returned (.tuple #[.int .i64 1, .int .i64 0, .int .i64 1]) ∧ w.grownBy w' none) := fun w => operands_some 2 _ w rfl
  clear hrm f2 hfit hR
  obtain ⟨i0, hi, hz0, hz1, hz2⟩ := info_parts Tryz.infoInt1
  have ob := hg (pc + 1)
  obtain ⟨o, ho⟩ : ∃ o : Nat, g (pc + 1) = o := ⟨(g (pc + 1)).toNat, by omega⟩
  rw [ho] at ob f6
  try rw [ho]
  have o17 : o ≤ 17 := by simp [knw] at f6; omega
  have o18 : (o : Int) < 18 := by omega
  have o19 : o < 18 := by omega
  have oW : IntKind.i64.wrap (o : Int) = (o : Int) := wrap_nat o (by omega)
  have bM : b ≠ M := by have := World.block_lt_of_cell? w0 _ (hrow pc (by omega)); have := HRM.out.hM; dsimp only at *; omega
  have e1 : ¬ c = pc + 1 := by omega
  go_enter Tryz.func51, Tryz.ntmps51
  go_wp2
  go_quiet (fail)
  go_wp2_with (go_at_call 81; refine (HO.out _).mono ?_; rintro e w1 ⟨rfl, hg1⟩; obtain ⟨⟨d0, d1, d2, d3, d4⟩, y2, y4⟩ := (HRM.out.keep (grown_undrewN hg1)).cells; dsimp only at d4; have lM := (HRM.out.keep (grown_undrewN hg1)).m.lt; have lC := (HRM.out.keep (grown_undrewN hg1)).cs.lt; have cO : w1.cell? ⟨b, off + (pc + 1), none⟩ = some (.int .u8 (o : Int)) := (by have := (hrow.keep (HRM.out.keep (grown_undrewN hg1)).gr (by simp)) (pc + 1) (by omega); rwa [ho] at this); have cX : w1.cell? ⟨CB, o, none⟩ = some (.int .i64 (cs o)) := (HRM.out.keep (grown_undrewN hg1)).cs.cell (j := o) (by omega); have n1 : (⟨M, 4, none⟩ : Addr) ≠ ⟨b, off + (pc + 1), none⟩ := (fun e => bM (congrArg Addr.block e).symm); have n2 : (⟨M, 4, none⟩ : Addr) ≠ ⟨CB, o, none⟩ := (fun e => HRM.out.ne (congrArg Addr.block e)); have HP : ∀ k, Hid (RM w0 ((w1.drewN k).setCell ⟨M, 4, none⟩ (.int .i64 ((pc : Int) + 1 + 1))) M CB (.slice (some ⟨b, off, none⟩) n c) (.slice po m pc') sv ⟨pc + 2, sp, st, cs⟩) := fun k => ((HRM.out.keep (grown_undrewN hg1)).keep (grown_drewN w1 k none)).setPc' (pc + 2) _ (by omega))
  go_quiet (fail)
  go_wp2
  go_region_law (refine step_pushR _ w0 rfl _ _ rfl (M := M) (CB := CB) (cv := .slice (some ⟨b, off, none⟩) n c) (pv := .slice po m pc') sv ⟨pc + 2, sp, st, cs⟩ rfl ?_ _ _ _ _ rfl (by first | exact heap_topd _ _ _ (by simp) | exact heap_top _ _ _ (by simp)) ?_ ?_; (repeat (first | exact (HP _).out | refine RM.drew ?_ | refine RM.allo ?_ _ | refine RM.drewN ?_ _)); (dsimp only; omega); intro g2 p2 w3 q1 q2 Q3)
  all_goals go_wp2
  all_goals go_ret2
  all_goals exact ⟨rfl, _, Q3⟩
set_option maxRecDepth 100000 in
set_option maxHeartbeats 2000000 in
theorem rstep_3 (w0 w : World) (M CB b off n c : Nat) (g : Nat → Int) (po : Option Addr) (m pc' : Nat) (p : Nat → Int) (sv : Value) (S : Mst) (h : Fst w0 w M CB b off n c g po m pc' p sv S) (hC : g S.pc = 3) :
    Calls Tryz.prog 51 #[.pointer (some ⟨M, 0, none⟩)] w fun e w' => e = .returned (.tuple #[.int .i64 0, .bool false]) ∧ ∃ sv', RM w0 w' M CB (.slice (some ⟨b, off, none⟩) n c) (.slice po m pc') sv' ⟨S.pc + 2, S.sp - 1, S.st, upd S.cs (g (S.pc + 1)).toNat (S.st (S.sp - 1))⟩ := by
  obtain ⟨pc, sp, st, cs⟩ := S
  obtain ⟨hn, hm, hc, hg, hp, hi, hfit, hrm, hrow, hsrc⟩ := h
  obtain ⟨f1, s, f2, f3, f4, f5, f6⟩ := fit_true hfit
  obtain ⟨i1, i2, i3, i4⟩ := hi
  obtain ⟨⟨c0, c1, c2, c3, c4⟩, z2, z4⟩ := hrm.cells
  dsimp only at *
  have hs : s = ⟨1, 0, 1, 0⟩ := by rw [hC] at f2; cases f2; rfl
  subst hs
  dsimp only at f3 f4 f5
  rw [hC] at f6
  have hR := hrow.keep hrm.gr (by simp)
  have cc := hR pc f1
  rw [hC] at cc
  have HRM : Hid (RM w0 w M CB (.slice (some ⟨b, off, none⟩) n c) (.slice po m pc') sv ⟨pc, sp, st, cs⟩) := hrm
  have HO : Hid (∀ w, Calls Tryz.prog 81 #[.int .i64 3] w fun e w' => e = .returned (.tuple #[.int .i64 1, .int .i64 1, .int .i64 0]) ∧ w.grownBy w' none) := fun w => operands_some 3 _ w rfl
  clear hrm f2 hfit hR
  obtain ⟨i0, hi, hz0, hz1, hz2⟩ := info_parts Tryz.infoInt1
  have ob := hg (pc + 1)
  obtain ⟨o, ho⟩ : ∃ o : Nat, g (pc + 1) = o := ⟨(g (pc + 1)).toNat, by omega⟩
  rw [ho] at ob f6
  try rw [ho]
  have o17 : o ≤ 17 := by simp [knw] at f6; omega
  have o18 : (o : Int) < 18 := by omega
  have o19 : o < 18 := by omega
  have oW : IntKind.i64.wrap (o : Int) = (o : Int) := wrap_nat o (by omega)
  have e1 : ¬ c = pc + 1 := by omega
  go_enter Tryz.func51, Tryz.ntmps51
  go_wp2
  go_quiet (fail)
  go_wp2_with (go_at_call 81; refine (HO.out _).mono ?_; rintro e w1 ⟨rfl, hg1⟩; obtain ⟨⟨d0, d1, d2, d3, d4⟩, y2, y4⟩ := (HRM.out.keep (grown_undrewN hg1)).cells; dsimp only at d4; have lM := (HRM.out.keep (grown_undrewN hg1)).m.lt; have lC := (HRM.out.keep (grown_undrewN hg1)).cs.lt; have HP : ∀ k, Hid (RM w0 ((w1.drewN k).setCell ⟨M, 4, none⟩ (.int .i64 ((pc : Int) + 1 + 1))) M CB (.slice (some ⟨b, off, none⟩) n c) (.slice po m pc') sv ⟨pc + 2, sp, st, cs⟩) := fun k => ((HRM.out.keep (grown_undrewN hg1)).keep (grown_drewN w1 k none)).setPc' (pc + 2) _ (by omega))
  go_quiet (fail)
  go_wp2_with (go_at_call 82; refine (rpop_any w0 _ M CB _ _ sv _ (HP _).out (by dsimp only; omega)).mono ?_; rintro e w4 ⟨rfl, sv1, HA⟩; dsimp only at HA; obtain ⟨⟨a0, a1, a2, a3, a4⟩, z5, z6⟩ := HA.cells; dsimp only at a4; have lA := HA.m.lt; have lB := HA.cs.lt; have cO : w4.cell? ⟨b, off + (pc + 1), none⟩ = some (.int .u8 (o : Int)) := (by have := (hrow.keep HA.gr (by simp)) (pc + 1) (by omega); rwa [ho] at this); have cX : w4.cell? ⟨CB, o, none⟩ = some (.int .i64 (cs o)) := HA.cs.cell (j := o) (by omega); have zX := HA.cs.frozen o)
  go_region
  all_goals go_wp2
  all_goals go_ret2
  all_goals exact ⟨rfl, _, (HA.setCs o (by omega) _).drew⟩
set_option maxRecDepth 100000 in
set_option maxHeartbeats 2000000 in
theorem rstep_9 (w0 w : World) (M CB b off n c : Nat) (g : Nat → Int) (po : Option Addr) (m pc' : Nat) (p : Nat → Int) (sv : Value) (S : Mst) (h : Fst w0 w M CB b off n c g po m pc' p sv S) (hC : g S.pc = 9) :
    Calls Tryz.prog 51 #[.pointer (some ⟨M, 0, none⟩)] w fun e w' => e = .returned (.tuple #[.int .i64 (S.st (S.sp - 1)), .bool true]) ∧ ∃ sv', RM w0 w' M CB (.slice (some ⟨b, off, none⟩) n c) (.slice po m pc') sv' ⟨S.pc + 1, S.sp - 1, S.st, S.cs⟩ := by
  obtain ⟨pc, sp, st, cs⟩ := S
  obtain ⟨hn, hm, hc, hg, hp, hi, hfit, hrm, hrow, hsrc⟩ := h
  obtain ⟨f1, s, f2, f3, f4, f5, f6⟩ := fit_true hfit
  obtain ⟨i1, i2, i3, i4⟩ := hi
  obtain ⟨⟨c0, c1, c2, c3, c4⟩, z2, z4⟩ := hrm.cells
  dsimp only at *
  have hs : s = ⟨0, 0, 1, 0⟩ := by rw [hC] at f2; cases f2; rfl
  subst hs
  dsimp only at f3 f4 f5
  rw [hC] at f6
  have hR := hrow.keep hrm.gr (by simp)
  have cc := hR pc f1
  rw [hC] at cc
  have HRM : Hid (RM w0 w M CB (.slice (some ⟨b, off, none⟩) n c) (.slice po m pc') sv ⟨pc, sp, st, cs⟩) := hrm
  have HO : Hid (∀ w, Calls Tryz.prog 81 #[.int .i64 9] w fun e w' => e = .returned (.tuple #[.int .i64 0, .int .i64 1, .int .i64 0]) ∧ w.grownBy w' none) := fun w => operands_some 9 _ w rfl
  clear hrm f2 hfit hR
  obtain ⟨i0, hi, hz0, hz1, hz2⟩ := info_parts Tryz.infoInt1
  by_cases e1 : c = pc + 1
  · subst e1
    go_enter Tryz.func51, Tryz.ntmps51
    go_wp2
    go_quiet (fail)
    go_wp2_with (go_at_call 81; refine (HO.out _).mono ?_; rintro e w1 ⟨rfl, hg1⟩; obtain ⟨⟨d0, d1, d2, d3, d4⟩, y2, y4⟩ := (HRM.out.keep (grown_undrewN hg1)).cells; dsimp only at d4; have lM := (HRM.out.keep (grown_undrewN hg1)).m.lt; have lC := (HRM.out.keep (grown_undrewN hg1)).cs.lt; have HP : ∀ k, Hid (RM w0 ((w1.drewN k).setCell ⟨M, 4, none⟩ (.int .i64 ((pc : Int) + 1))) M CB (.slice (some ⟨b, off, none⟩) n (pc + 1)) (.slice po m pc') sv ⟨pc + 1, sp, st, cs⟩) := fun k => ((HRM.out.keep (grown_undrewN hg1)).keep (grown_drewN w1 k none)).setPc' (pc + 1) _ (by omega))
    go_quiet (fail)
    go_wp2_with (go_at_call 82; refine (rpop_any w0 _ M CB _ _ sv _ (HP _).out (by dsimp only; omega)).mono ?_; rintro e w4 ⟨rfl, sv1, HA⟩; dsimp only at HA; obtain ⟨⟨a0, a1, a2, a3, a4⟩, z5, z6⟩ := HA.cells; dsimp only at a4; have lA := HA.m.lt; have lB := HA.cs.lt)
    go_ret2
    exact ⟨rfl, _, HA⟩
  · go_enter Tryz.func51, Tryz.ntmps51
    go_wp2
    go_quiet (fail)
    go_wp2_with (go_at_call 81; refine (HO.out _).mono ?_; rintro e w1 ⟨rfl, hg1⟩; obtain ⟨⟨d0, d1, d2, d3, d4⟩, y2, y4⟩ := (HRM.out.keep (grown_undrewN hg1)).cells; dsimp only at d4; have lM := (HRM.out.keep (grown_undrewN hg1)).m.lt; have lC := (HRM.out.keep (grown_undrewN hg1)).cs.lt; have HP : ∀ k, Hid (RM w0 ((w1.drewN k).setCell ⟨M, 4, none⟩ (.int .i64 ((pc : Int) + 1))) M CB (.slice (some ⟨b, off, none⟩) n c) (.slice po m pc') sv ⟨pc + 1, sp, st, cs⟩) := fun k => ((HRM.out.keep (grown_undrewN hg1)).keep (grown_drewN w1 k none)).setPc' (pc + 1) _ (by omega))
    go_quiet (fail)
    go_wp2_with (go_at_call 82; refine (rpop_any w0 _ M CB _ _ sv _ (HP _).out (by dsimp only; omega)).mono ?_; rintro e w4 ⟨rfl, sv1, HA⟩; dsimp only at HA; obtain ⟨⟨a0, a1, a2, a3, a4⟩, z5, z6⟩ := HA.cells; dsimp only at a4; have lA := HA.m.lt; have lB := HA.cs.lt)
    go_ret2
    exact ⟨rfl, _, HA⟩
end Go.Proofs.YthbcfepbkkbjiaaGreatDoor
