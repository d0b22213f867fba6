import Derived.Test.YthbcfepbkkbjiaaGreatDoorIE6
namespace Go.Proofs.YthbcfepbkkbjiaaGreatDoor
open Go.RowKit
set_option linter.unusedVariables false
set_option maxRecDepth 100000 in
set_option maxHeartbeats 2000000 in
theorem rstep_1 (w0 w : World) (M CB b off n c : Nat) (g : Nat → Int) (po : Option Addr) (m pc' : Nat) (p : Nat → Int) (sv : Value) (S : Mst) (h : Fst w0 w M CB b off n c g po m pc' p sv S) (hC : g S.pc = 1) :
    Calls Tryz.prog 51 #[.pointer (some ⟨M, 0, none⟩)] w fun e w' => e = .returned (.tuple #[.int .i64 0, .bool false]) ∧ ∃ sv', RM w0 w' M CB (.slice (some ⟨b, off, none⟩) n c) (.slice po m pc') sv' (S.push (be g (S.pc + 1) 4) 5) := by
  obtain ⟨pc, sp, st, cs⟩ := S
  obtain ⟨hn, hm, hc, hg, hp, hi, hfit, hrm, hrow, hsrc⟩ := h
  obtain ⟨f1, s, f2, f3, f4, f5, f6⟩ := fit_true hfit
  obtain ⟨i1, i2, i3, i4⟩ := hi
  obtain ⟨⟨c0, c1, c2, c3, c4⟩, z2, z4⟩ := hrm.cells
  dsimp only at *
  have hs : s = ⟨0, 4, 0, 1⟩ := by rw [hC] at f2; cases f2; rfl
  subst hs
  dsimp only at f3 f4 f5
  rw [hC] at f6
  have hR := hrow.keep hrm.gr (by simp)
  have cc := hR pc f1
  rw [hC] at cc
  have HRM : Hid (RM w0 w M CB (.slice (some ⟨b, off, none⟩) n c) (.slice po m pc') sv ⟨pc, sp, st, cs⟩) := hrm
  have HO : Hid (∀ w, Calls Tryz.prog 81 #[.int .i64 1] w fun e w' => e = .returned (.tuple #[.int .i64 4, .int .i64 0, .int .i64 1]) ∧ w.grownBy w' none) := fun w => operands_some 1 _ w rfl
  clear hrm f2 hfit hR
  obtain ⟨i0, hi, hz0, hz1, hz2⟩ := info_parts Tryz.infoInt1
  have e1 : ¬ c = pc + 1 := by omega
  go_enter Tryz.func51, Tryz.ntmps51
  go_wp2
  go_quiet (fail)
  go_wp2_with (go_at_call 81; refine (HO.out _).mono ?_; rintro e w1 ⟨rfl, hg1⟩; obtain ⟨⟨d0, d1, d2, d3, d4⟩, y2, y4⟩ := (HRM.out.keep (grown_undrewN hg1)).cells; dsimp only at d4; have lM := (HRM.out.keep (grown_undrewN hg1)).m.lt; have lC := (HRM.out.keep (grown_undrewN hg1)).cs.lt; have HP : ∀ k, Hid (RM w0 ((w1.drewN k).setCell ⟨M, 4, none⟩ (.int .i64 ((pc : Int) + 1 + 4))) M CB (.slice (some ⟨b, off, none⟩) n c) (.slice po m pc') sv ⟨pc + 5, sp, st, cs⟩) := fun k => ((HRM.out.keep (grown_undrewN hg1)).keep (grown_drewN w1 k none)).setPc' (pc + 5) _ (by omega))
  go_quiet (fail)
  go_wp2_with (first | (go_at_call 83; refine (rbytes_code w0 _ b off n _ g _ (pc + 1) 0 4 (HP _).out.gr hrow hg (by omega) (by omega) (by omega) hn).mono ?_; rintro e w2 ⟨rfl, hg2⟩; have HQ := (HP _).out.keep hg2; obtain ⟨⟨_, _, r2, _, r4⟩, r5, r6⟩ := HQ.cells) | (at_builtin; refine wpList_push _ w0 rfl _ _ 66 rfl 3 i0 (.int .i64 0) 8 Tryz.underlying66 hi hz0 hz1 hz2 rfl .i64 _ _ _ rfl (HQ.keep (World.grownBy_alloc _ _ none)).st (HQ.keep (World.grownBy_alloc _ _ none)).gr _ _ _ _ rfl (heap_top _ _ _ (by simp)) (by dsimp only; omega) (by decide) ?_; intro g2 p2 w3 o2 gr2 k2 u2; obtain ⟨⟨q1, q2⟩, Q3⟩ := RM.append (HQ.keep (World.grownBy_alloc _ _ none)) gr2 k2 o2 u2; clear k2 u2))
  go_ret2
  exact ⟨rfl, _, Q3⟩
set_option maxRecDepth 100000 in
set_option maxHeartbeats 2000000 in
theorem rstep_6 (w0 w : World) (M CB b off n c : Nat) (g : Nat → Int) (po : Option Addr) (m pc' : Nat) (p : Nat → Int) (sv : Value) (S : Mst) (h : Fst w0 w M CB b off n c g po m pc' p sv S) (hC : g S.pc = 6) :
    Calls Tryz.prog 51 #[.pointer (some ⟨M, 0, none⟩)] w fun e w' => e = .returned (.tuple #[.int .i64 0, .bool false]) ∧ ∃ sv', RM w0 w' M CB (.slice (some ⟨b, off, none⟩) n c) (.slice po m pc') sv' (S.push m 1) := by
  obtain ⟨pc, sp, st, cs⟩ := S
  obtain ⟨hn, hm, hc, hg, hp, hi, hfit, hrm, hrow, hsrc⟩ := h
  obtain ⟨f1, s, f2, f3, f4, f5, f6⟩ := fit_true hfit
  obtain ⟨i1, i2, i3, i4⟩ := hi
  obtain ⟨⟨c0, c1, c2, c3, c4⟩, z2, z4⟩ := hrm.cells
  dsimp only at *
  have hs : s = ⟨0, 0, 0, 1⟩ := by rw [hC] at f2; cases f2; rfl
  subst hs
  dsimp only at f3 f4 f5
  rw [hC] at f6
  have hR := hrow.keep hrm.gr (by simp)
  have cc := hR pc f1
  rw [hC] at cc
  have HRM : Hid (RM w0 w M CB (.slice (some ⟨b, off, none⟩) n c) (.slice po m pc') sv ⟨pc, sp, st, cs⟩) := hrm
  have HO : Hid (∀ w, Calls Tryz.prog 81 #[.int .i64 6] w fun e w' => e = .returned (.tuple #[.int .i64 0, .int .i64 0, .int .i64 1]) ∧ w.grownBy w' none) := fun w => operands_some 6 _ w rfl
  clear hrm f2 hfit hR
  obtain ⟨i0, hi, hz0, hz1, hz2⟩ := info_parts Tryz.infoInt1
  by_cases e1 : c = pc + 1
  · subst e1
    go_enter Tryz.func51, Tryz.ntmps51
    go_wp2
    go_quiet (fail)
    go_wp2_with (go_at_call 81; refine (HO.out _).mono ?_; rintro e w1 ⟨rfl, hg1⟩; obtain ⟨⟨d0, d1, d2, d3, d4⟩, y2, y4⟩ := (HRM.out.keep (grown_undrewN hg1)).cells; dsimp only at d4; have lM := (HRM.out.keep (grown_undrewN hg1)).m.lt; have lC := (HRM.out.keep (grown_undrewN hg1)).cs.lt; have HP : ∀ k, Hid (RM w0 ((w1.drewN k).setCell ⟨M, 4, none⟩ (.int .i64 ((pc : Int) + 1))) M CB (.slice (some ⟨b, off, none⟩) n (pc + 1)) (.slice po m pc') sv ⟨pc + 1, sp, st, cs⟩) := fun k => ((HRM.out.keep (grown_undrewN hg1)).keep (grown_drewN w1 k none)).setPc' (pc + 1) _ (by omega))
    go_quiet (fail)
    go_wp2
    go_region_law (refine step_pushR _ w0 rfl _ _ rfl (M := M) (CB := CB) (cv := .slice (some ⟨b, off, none⟩) n (pc + 1)) (pv := .slice po m pc') sv ⟨pc + 1, sp, st, cs⟩ rfl ?_ _ _ _ _ rfl (by first | exact heap_topd _ _ _ (by simp) | exact heap_top _ _ _ (by simp)) ?_ ?_; (repeat (first | exact (HP _).out | refine RM.drew ?_ | refine RM.allo ?_ _ | refine RM.drewN ?_ _)); (dsimp only; omega); intro g2 p2 w3 q1 q2 Q3)
    all_goals go_wp2
    all_goals go_ret2
    all_goals exact ⟨rfl, _, Q3⟩
  · go_enter Tryz.func51, Tryz.ntmps51
    go_wp2
    go_quiet (fail)
    go_wp2_with (go_at_call 81; refine (HO.out _).mono ?_; rintro e w1 ⟨rfl, hg1⟩; obtain ⟨⟨d0, d1, d2, d3, d4⟩, y2, y4⟩ := (HRM.out.keep (grown_undrewN hg1)).cells; dsimp only at d4; have lM := (HRM.out.keep (grown_undrewN hg1)).m.lt; have lC := (HRM.out.keep (grown_undrewN hg1)).cs.lt; have HP : ∀ k, Hid (RM w0 ((w1.drewN k).setCell ⟨M, 4, none⟩ (.int .i64 ((pc : Int) + 1))) M CB (.slice (some ⟨b, off, none⟩) n c) (.slice po m pc') sv ⟨pc + 1, sp, st, cs⟩) := fun k => ((HRM.out.keep (grown_undrewN hg1)).keep (grown_drewN w1 k none)).setPc' (pc + 1) _ (by omega))
    go_quiet (fail)
    go_wp2
    go_region_law (refine step_pushR _ w0 rfl _ _ rfl (M := M) (CB := CB) (cv := .slice (some ⟨b, off, none⟩) n c) (pv := .slice po m pc') sv ⟨pc + 1, sp, st, cs⟩ rfl ?_ _ _ _ _ rfl (by first | exact heap_topd _ _ _ (by simp) | exact heap_top _ _ _ (by simp)) ?_ ?_; (repeat (first | exact (HP _).out | refine RM.drew ?_ | refine RM.allo ?_ _ | refine RM.drewN ?_ _)); (dsimp only; omega); intro g2 p2 w3 q1 q2 Q3)
    all_goals go_wp2
    all_goals go_ret2
    all_goals exact ⟨rfl, _, Q3⟩
set_option maxRecDepth 100000 in
set_option maxHeartbeats 2000000 in
theorem rstep_7 (w0 w : World) (M CB b off n c : Nat) (g : Nat → Int) (po : Option Addr) (m pc' : Nat) (p : Nat → Int) (sv : Value) (S : Mst) (h : Fst w0 w M CB b off n c g po m pc' p sv S) (hC : g S.pc = 7) :
    Calls Tryz.prog 51 #[.pointer (some ⟨M, 0, none⟩)] w fun e w' => e = .returned (.tuple #[.int .i64 0, .bool false]) ∧ ∃ sv', RM w0 w' M CB (.slice (some ⟨b, off, none⟩) n c) (.slice po m pc') sv' ⟨S.pc + 3 + (be g (S.pc + 1) 2).toNat, S.sp, S.st, S.cs⟩ := by
  obtain ⟨pc, sp, st, cs⟩ := S
  obtain ⟨hn, hm, hc, hg, hp, hi, hfit, hrm, hrow, hsrc⟩ := h
  obtain ⟨f1, s, f2, f3, f4, f5, f6⟩ := fit_true hfit
  obtain ⟨i1, i2, i3, i4⟩ := hi
  obtain ⟨⟨c0, c1, c2, c3, c4⟩, z2, z4⟩ := hrm.cells
  dsimp only at *
  have hs : s = ⟨0, 2, 0, 0⟩ := by rw [hC] at f2; cases f2; rfl
  subst hs
  dsimp only at f3 f4 f5
  rw [hC] at f6
  have hR := hrow.keep hrm.gr (by simp)
  have cc := hR pc f1
  rw [hC] at cc
  have HRM : Hid (RM w0 w M CB (.slice (some ⟨b, off, none⟩) n c) (.slice po m pc') sv ⟨pc, sp, st, cs⟩) := hrm
  have HO : Hid (∀ w, Calls Tryz.prog 81 #[.int .i64 7] w fun e w' => e = .returned (.tuple #[.int .i64 2, .int .i64 0, .int .i64 0]) ∧ w.grownBy w' none) := fun w => operands_some 7 _ w rfl
  clear hrm f2 hfit hR
  obtain ⟨i0, hi, hz0, hz1, hz2⟩ := info_parts Tryz.infoInt1
  have hb := be_bd hg (pc + 1) 2 (by omega)
  have e1 : ¬ c = pc + 1 := by omega
  go_enter Tryz.func51, Tryz.ntmps51
  go_wp2
  go_quiet (fail)
  go_wp2_with (go_at_call 81; refine (HO.out _).mono ?_; rintro e w1 ⟨rfl, hg1⟩; obtain ⟨⟨d0, d1, d2, d3, d4⟩, y2, y4⟩ := (HRM.out.keep (grown_undrewN hg1)).cells; dsimp only at d4; have lM := (HRM.out.keep (grown_undrewN hg1)).m.lt; have lC := (HRM.out.keep (grown_undrewN hg1)).cs.lt; have HP : ∀ k, Hid (RM w0 ((w1.drewN k).setCell ⟨M, 4, none⟩ (.int .i64 ((pc : Int) + 1 + 2))) M CB (.slice (some ⟨b, off, none⟩) n c) (.slice po m pc') sv ⟨pc + 3, sp, st, cs⟩) := fun k => ((HRM.out.keep (grown_undrewN hg1)).keep (grown_drewN w1 k none)).setPc' (pc + 3) _ (by omega))
  go_quiet (fail)
  go_wp2_with (first | (go_at_call 83; refine (rbytes_code w0 _ b off n _ g _ (pc + 1) 0 2 (HP _).out.gr hrow hg (by omega) (by omega) (by omega) hn).mono ?_; rintro e w2 ⟨rfl, hg2⟩; have HQ := (HP _).out.keep hg2; obtain ⟨⟨_, _, r2, _, r4⟩, r5, r6⟩ := HQ.cells))
  go_ret2
  exact ⟨rfl, _, HQ.setPc' (pc + 3 + (be g (pc + 1) 2).toNat) _ (by omega)⟩
end Go.Proofs.YthbcfepbkkbjiaaGreatDoor
