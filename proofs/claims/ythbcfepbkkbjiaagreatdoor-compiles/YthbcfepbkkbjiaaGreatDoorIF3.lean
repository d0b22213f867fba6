import Derived.Test.YthbcfepbkkbjiaaGreatDoorIE6
namespace Go.Proofs.YthbcfepbkkbjiaaGreatDoor
open Go.RowKit
set_option linter.unusedVariables false
set_option maxRecDepth 100000 in
set_option maxHeartbeats 2000000 in
theorem rstep_8 (w0 w : World) (M CB b off n c : Nat) (g : Nat → Int) (po : Option Addr) (m pc' : Nat) (p : Nat → Int) (sv : Value) (S : Mst) (h : Fst w0 w M CB b off n c g po m pc' p sv S) (hC : g S.pc = 8) :
    Calls Tryz.prog 51 #[.pointer (some ⟨M, 0, none⟩)] w fun e w' => e = .returned (.tuple #[.int .i64 0, .bool false]) ∧ ∃ sv', RM w0 w' M CB (.slice (some ⟨b, off, none⟩) n c) (.slice po m pc') sv' ⟨S.pc + 4 + (if askv (g (S.pc + 1)) (S.st (S.sp - 1 - 1)) (S.st (S.sp - 1)) = true then (be g (S.pc + 2) 2).toNat else 0), S.sp - 1 - 1, S.st, S.cs⟩ := by
  obtain ⟨pc, sp, st, cs⟩ := S
  obtain ⟨hn, hm, hc, hg, hp, hi, hfit, hrm, hrow, hsrc⟩ := h
  obtain ⟨f1, s, f2, f3, f4, f5, f6⟩ := fit_true hfit
  obtain ⟨i1, i2, i3, i4⟩ := hi
  obtain ⟨⟨c0, c1, c2, c3, c4⟩, z2, z4⟩ := hrm.cells
  dsimp only at *
  have hs : s = ⟨1, 2, 2, 0⟩ := by rw [hC] at f2; cases f2; rfl
  subst hs
  dsimp only at f3 f4 f5
  rw [hC] at f6
  have hR := hrow.keep hrm.gr (by simp)
  have cc := hR pc f1
  rw [hC] at cc
  have HRM : Hid (RM w0 w M CB (.slice (some ⟨b, off, none⟩) n c) (.slice po m pc') sv ⟨pc, sp, st, cs⟩) := hrm
  have HO : Hid (∀ w, Calls Tryz.prog 81 #[.int .i64 8] w fun e w' => e = .returned (.tuple #[.int .i64 3, .int .i64 2, .int .i64 0]) ∧ w.grownBy w' none) := fun w => operands_some 8 _ w rfl
  clear hrm f2 hfit hR
  obtain ⟨i0, hi, hz0, hz1, hz2⟩ := info_parts Tryz.infoInt1
  have ob := hg (pc + 1)
  obtain ⟨o, ho⟩ : ∃ o : Nat, g (pc + 1) = o := ⟨(g (pc + 1)).toNat, by omega⟩
  rw [ho] at ob f6
  try rw [ho]
  have o17 : o ≤ 3 := by simp [knw] at f6; omega
  have o18 : (o : Int) < 4 := by omega
  have o19 : o < 4 := by omega
  have oW : IntKind.i64.wrap (o : Int) = (o : Int) := wrap_nat o (by omega)
  have ux : U32 (st (sp - 1 - 1)) := i3 _ (by omega)
  have uy : U32 (st (sp - 1)) := i3 _ (by omega)
  have hb := be_bd hg (pc + 1 + 1) 2 (by omega)
  have e1 : ¬ c = pc + 1 := by omega
  cases hq : askv o (st (sp - 1 - 1)) (st (sp - 1)) with
  | false =>
    have HQQ : Hid (askv o (st (sp - 1 - 1)) (st (sp - 1)) = false) := hq
    clear hq
    go_enter Tryz.func51, Tryz.ntmps51
    go_wp2
    go_quiet (fail)
    go_wp2_with (go_at_call 81; refine (HO.out _).mono ?_; rintro e w1 ⟨rfl, hg1⟩; obtain ⟨⟨d0, d1, d2, d3, d4⟩, y2, y4⟩ := (HRM.out.keep (grown_undrewN hg1)).cells; dsimp only at d4; have lM := (HRM.out.keep (grown_undrewN hg1)).m.lt; have lC := (HRM.out.keep (grown_undrewN hg1)).cs.lt; have HP : ∀ k, Hid (RM w0 ((w1.drewN k).setCell ⟨M, 4, none⟩ (.int .i64 ((pc : Int) + 1 + 3))) M CB (.slice (some ⟨b, off, none⟩) n c) (.slice po m pc') sv ⟨pc + 4, sp, st, cs⟩) := fun k => ((HRM.out.keep (grown_undrewN hg1)).keep (grown_drewN w1 k none)).setPc' (pc + 4) _ (by omega))
    go_quiet (fail)
    go_wp2_with (go_at_call 82; refine (rpop_any w0 _ M CB _ _ sv _ (HP _).out (by dsimp only; omega)).mono ?_; rintro e w4 ⟨rfl, sv1, HA⟩; dsimp only at HA; obtain ⟨⟨a0, a1, a2, a3, a4⟩, z5, z6⟩ := HA.cells; dsimp only at a4; have lA := HA.m.lt; have lB := HA.cs.lt; go_wp2_with (go_at_call 82; refine (rpop_any w0 _ M CB _ _ sv1 _ HA (by dsimp only; omega)).mono ?_; rintro e w5 ⟨rfl, sv2, HB⟩; dsimp only at HB; clear a0 a1 a2 a3 a4 z5 z6 lA lB; obtain ⟨⟨a0, a1, a2, a3, a4⟩, z5, z6⟩ := HB.cells; dsimp only at a4; have lA := HB.m.lt; have lB := HB.cs.lt; have cO : w5.cell? ⟨b, off + (pc + 1), none⟩ = some (.int .u8 (o : Int)) := (by have := (hrow.keep HB.gr (by simp)) (pc + 1) (by omega); rwa [ho] at this)))
    go_wp2_with (go_at_call 85; refine (asked_any o _ _ _ (by omega) ux uy).mono ?_; rw [HQQ.out]; rintro e w6 ⟨rfl, hg6⟩; have HQ := HB.keep hg6; obtain ⟨⟨_, _, r2, _, r4⟩, r5, r6⟩ := HQ.cells; dsimp only at r4)
    go_ret2
    exact ⟨rfl, _, HQ⟩
  | true =>
    have HQQ : Hid (askv o (st (sp - 1 - 1)) (st (sp - 1)) = true) := hq
    clear hq
    go_enter Tryz.func51, Tryz.ntmps51
    go_wp2
    go_quiet (fail)
    go_wp2_with (go_at_call 81; refine (HO.out _).mono ?_; rintro e w1 ⟨rfl, hg1⟩; obtain ⟨⟨d0, d1, d2, d3, d4⟩, y2, y4⟩ := (HRM.out.keep (grown_undrewN hg1)).cells; dsimp only at d4; have lM := (HRM.out.keep (grown_undrewN hg1)).m.lt; have lC := (HRM.out.keep (grown_undrewN hg1)).cs.lt; have HP : ∀ k, Hid (RM w0 ((w1.drewN k).setCell ⟨M, 4, none⟩ (.int .i64 ((pc : Int) + 1 + 3))) M CB (.slice (some ⟨b, off, none⟩) n c) (.slice po m pc') sv ⟨pc + 4, sp, st, cs⟩) := fun k => ((HRM.out.keep (grown_undrewN hg1)).keep (grown_drewN w1 k none)).setPc' (pc + 4) _ (by omega))
    go_quiet (fail)
    go_wp2_with (go_at_call 82; refine (rpop_any w0 _ M CB _ _ sv _ (HP _).out (by dsimp only; omega)).mono ?_; rintro e w4 ⟨rfl, sv1, HA⟩; dsimp only at HA; obtain ⟨⟨a0, a1, a2, a3, a4⟩, z5, z6⟩ := HA.cells; dsimp only at a4; have lA := HA.m.lt; have lB := HA.cs.lt; go_wp2_with (go_at_call 82; refine (rpop_any w0 _ M CB _ _ sv1 _ HA (by dsimp only; omega)).mono ?_; rintro e w5 ⟨rfl, sv2, HB⟩; dsimp only at HB; clear a0 a1 a2 a3 a4 z5 z6 lA lB; obtain ⟨⟨a0, a1, a2, a3, a4⟩, z5, z6⟩ := HB.cells; dsimp only at a4; have lA := HB.m.lt; have lB := HB.cs.lt; have cO : w5.cell? ⟨b, off + (pc + 1), none⟩ = some (.int .u8 (o : Int)) := (by have := (hrow.keep HB.gr (by simp)) (pc + 1) (by omega); rwa [ho] at this)))
    go_wp2_with (go_at_call 85; refine (asked_any o _ _ _ (by omega) ux uy).mono ?_; rw [HQQ.out]; rintro e w6 ⟨rfl, hg6⟩; have HQ := HB.keep hg6; obtain ⟨⟨_, _, r2, _, r4⟩, r5, r6⟩ := HQ.cells; dsimp only at r4; go_wp2_with (go_at_call 83; refine (rbytes_code w0 _ b off n _ g _ (pc + 1) 1 2 HQ.gr hrow hg (by omega) (by omega) (by omega) hn).mono ?_; rintro e w7 ⟨rfl, hg7⟩; have HR := HQ.keep hg7; clear r2 r4 r5 r6; obtain ⟨⟨_, _, r2, _, r4⟩, r5, r6⟩ := HR.cells; dsimp only at r4))
    go_ret2
    exact ⟨rfl, _, HR.setPc' (pc + 4 + (be g (pc + 1 + 1) 2).toNat) _ (by omega)⟩
end Go.Proofs.YthbcfepbkkbjiaaGreatDoor
