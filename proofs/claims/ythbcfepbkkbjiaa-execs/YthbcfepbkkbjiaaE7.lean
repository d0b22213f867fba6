/- The walk of the reference machine's fits, whole. -/
import Derived.Test.YthbcfepbkkbjiaaE6
namespace Go.Proofs.Ythbcfepbkkbjiaa
open Go.RowKit
set_option linter.unusedVariables false

set_option maxRecDepth 100000 in
set_option maxHeartbeats 2000000 in
theorem rfits_yes (w0 w : World) (M CB b off n c : Nat) (g : Nat → Int) (pv sv : Value) (S : Mst) (s : Shp) (hn : n ≤ 140737488355328) (h8 : S.sp ≤ 8) (h : RM w0 w M CB (.slice (some ⟨b, off, none⟩) n c) pv sv S) (hR : Row w .u8 b off n g) (hg : Oct g) (hpc : S.pc < n) (hc : shp (g S.pc) = some s)
    (hA : S.pc + 1 + s.wh + s.nb ≤ n) (hB : s.po ≤ S.sp) (hC : S.sp - s.po + s.pu ≤ 8) :
    Calls Try.prog 22 #[.pointer (some ⟨M, 0, none⟩)] w fun e w' => e = .returned (.bool (knw (g S.pc) (g (S.pc + 1)))) ∧ w.grownBy w' none := by
  obtain ⟨ao, cap, rfl⟩ := h.slice
  obtain ⟨⟨c0, c1, c2, c3, c4⟩, f2, f4⟩ := h.cells
  obtain ⟨cM, cO⟩ := h.facts hR
  have cc := hR S.pc hpc
  have hb := hg (S.pc + 1)
  obtain ⟨k4, p2, u1⟩ := shp_bd hc
  obtain ⟨k, hk⟩ : ∃ k, k = s.wh + s.nb := ⟨_, rfl⟩
  have HO : Hid (∀ w, Calls Try.prog 30 #[.int .i64 (g S.pc)] w fun e w' => e = .returned (.tuple #[.int .i64 k, .int .i64 s.po, .int .i64 s.pu]) ∧ w.grownBy w' none) := fun w => by rw [hk]; exact operands_some _ _ w hc
  have hcs : (g S.pc = 1 ∧ 0 < k) ∨ (g S.pc = 2 ∧ 0 < k) ∨ (g S.pc = 3 ∧ 0 < k) ∨ (g S.pc = 4 ∧ 0 < k) ∨ (g S.pc = 5 ∧ 0 < k) ∨ (g S.pc = 6 ∧ k = 0) ∨ (g S.pc = 7 ∧ 0 < k) ∨ (g S.pc = 8 ∧ 0 < k) ∨ (g S.pc = 9 ∧ k = 0) := by
    rw [hk]
    rcases shp_cases hc with ⟨h, rfl⟩ | ⟨h, rfl⟩ | ⟨h, rfl⟩ | ⟨h, rfl⟩ | ⟨h, rfl⟩ | ⟨h, rfl⟩ | ⟨h, rfl⟩ | ⟨h, rfl⟩ | ⟨h, rfl⟩ <;> simp [h]
  have hA' : S.pc + 1 + k ≤ n := by rw [hk, ← Nat.add_assoc]; exact hA
  rw [← hk] at k4
  clear h hR hc hk hg hA
  generalize g (S.pc + 1) = o at *
  generalize g S.pc = C at *
  generalize S.pc = pc at *
  generalize S.sp = sp at *
  generalize s.po = po at *
  generalize s.pu = pu at *
  have W1 : IntKind.i64.wrap ((pc : Int) + 1) = (pc : Int) + 1 := by rw [IntKind.wrap_i64]; omega
  have W2 : IntKind.i64.wrap ((pc : Int) + 1 + (k : Int)) = (pc : Int) + 1 + (k : Int) := by rw [IntKind.wrap_i64]; omega
  have t0 : decide ((k : Int) < 0) = false := by simp
  have tA : decide (n < pc + 1 + k) = false := by simp; omega
  have tA' : decide ((n : Int) < (pc : Int) + 1 + (k : Int)) = false := by simp; omega
  have tB : decide (sp < po) = false := by simp; omega
  have tB' : decide ((sp : Int) < (po : Int)) = false := by simp; omega
  have V1 : IntKind.i64.wrap ((sp : Int) - (po : Int)) = (sp : Int) - (po : Int) := by rw [IntKind.wrap_i64]; omega
  have V2 : IntKind.i64.wrap ((sp : Int) - (po : Int) + (pu : Int)) = (sp : Int) - (po : Int) + (pu : Int) := by rw [IntKind.wrap_i64]; omega
  have tC' : decide ((8 : Int) < (sp : Int) - (po : Int) + (pu : Int)) = false := by simp; omega
  have kn : ∀ o, knw 2 o = decide (o ≤ 17) ∧ knw 3 o = decide (o ≤ 17) ∧ knw 4 o = decide (o ≤ 9) ∧ knw 8 o = decide (o ≤ 3) := fun o => ⟨rfl, rfl, rfl, rfl⟩
  rcases hcs with ⟨rfl, hk0⟩ | ⟨rfl, hk0⟩ | ⟨rfl, hk0⟩ | ⟨rfl, hk0⟩ | ⟨rfl, hk0⟩ | ⟨rfl, hk0⟩ | ⟨rfl, hk0⟩ | ⟨rfl, hk0⟩ | ⟨rfl, hk0⟩
  · clear kn
    go_enter Try.func22, Try.ntmps22
    go_wp2
    go_quiet (fail)
    go_wp2
    go_quiet (fail)
    go_wp2_with (go_at_call 30; refine (HO.out _).mono ?_; rintro e w1 ⟨rfl, hg1⟩; obtain ⟨d0, d2, d4⟩ := cM _ _ hg1; have d5 := cO _ _ hg1 (by omega))
    go_quiet (fail)
    go_wp2
    go_quiet (fail)
    go_wp2
    go_ret
    exact ⟨rfl, grown_none (grown_undrewN hg1) (grown_drewN _ _ _)⟩
  · clear kn
    go_enter Try.func22, Try.ntmps22
    go_wp2
    go_quiet (fail)
    go_wp2
    go_quiet (fail)
    go_wp2_with (go_at_call 30; refine (HO.out _).mono ?_; rintro e w1 ⟨rfl, hg1⟩; obtain ⟨d0, d2, d4⟩ := cM _ _ hg1; have d5 := cO _ _ hg1 (by omega))
    go_quiet (fail)
    go_wp2
    go_quiet (fail)
    go_wp2
    go_ret
    exact ⟨rfl, grown_none (grown_undrewN hg1) (grown_drewN _ _ _)⟩
  · clear kn
    go_enter Try.func22, Try.ntmps22
    go_wp2
    go_quiet (fail)
    go_wp2
    go_quiet (fail)
    go_wp2_with (go_at_call 30; refine (HO.out _).mono ?_; rintro e w1 ⟨rfl, hg1⟩; obtain ⟨d0, d2, d4⟩ := cM _ _ hg1; have d5 := cO _ _ hg1 (by omega))
    go_quiet (fail)
    go_wp2
    go_quiet (fail)
    go_wp2
    go_ret
    exact ⟨rfl, grown_none (grown_undrewN hg1) (grown_drewN _ _ _)⟩
  · clear kn
    go_enter Try.func22, Try.ntmps22
    go_wp2
    go_quiet (fail)
    go_wp2
    go_quiet (fail)
    go_wp2_with (go_at_call 30; refine (HO.out _).mono ?_; rintro e w1 ⟨rfl, hg1⟩; obtain ⟨d0, d2, d4⟩ := cM _ _ hg1; have d5 := cO _ _ hg1 (by omega))
    go_quiet (fail)
    go_wp2
    go_quiet (fail)
    go_wp2
    go_ret
    exact ⟨rfl, grown_none (grown_undrewN hg1) (grown_drewN _ _ _)⟩
  · by_cases o1 : o = 1
    · subst o1
      clear kn
      go_enter Try.func22, Try.ntmps22
      go_wp2
      go_quiet (fail)
      go_wp2
      go_quiet (fail)
      go_wp2_with (go_at_call 30; refine (HO.out _).mono ?_; rintro e w1 ⟨rfl, hg1⟩; obtain ⟨d0, d2, d4⟩ := cM _ _ hg1; have d5 := cO _ _ hg1 (by omega))
      go_quiet (fail)
      go_wp2
      go_quiet (fail)
      go_wp2
      go_ret
      exact ⟨rfl, grown_none (grown_undrewN hg1) (grown_drewN _ _ _)⟩
    by_cases o2 : o = 2
    · subst o2
      clear kn
      go_enter Try.func22, Try.ntmps22
      go_wp2
      go_quiet (fail)
      go_wp2
      go_quiet (fail)
      go_wp2_with (go_at_call 30; refine (HO.out _).mono ?_; rintro e w1 ⟨rfl, hg1⟩; obtain ⟨d0, d2, d4⟩ := cM _ _ hg1; have d5 := cO _ _ hg1 (by omega))
      go_quiet (fail)
      go_wp2
      go_quiet (fail)
      go_wp2
      go_ret
      exact ⟨rfl, grown_none (grown_undrewN hg1) (grown_drewN _ _ _)⟩
    by_cases o4 : o = 4
    · subst o4
      clear kn
      go_enter Try.func22, Try.ntmps22
      go_wp2
      go_quiet (fail)
      go_wp2
      go_quiet (fail)
      go_wp2_with (go_at_call 30; refine (HO.out _).mono ?_; rintro e w1 ⟨rfl, hg1⟩; obtain ⟨d0, d2, d4⟩ := cM _ _ hg1; have d5 := cO _ _ hg1 (by omega))
      go_quiet (fail)
      go_wp2
      go_quiet (fail)
      go_wp2
      go_ret
      exact ⟨rfl, grown_none (grown_undrewN hg1) (grown_drewN _ _ _)⟩
    have q1 : (o == 1) = false := by simp [o1]
    have q2 : (o == 2) = false := by simp [o2]
    have q4 : (o == 4) = false := by simp [o4]
    have KN : knw 5 o = false := by simp [knw, o1, o2, o4]
    rw [KN]
    clear kn
    go_enter Try.func22, Try.ntmps22
    go_wp2
    go_quiet (fail)
    go_wp2
    go_quiet (fail)
    go_wp2_with (go_at_call 30; refine (HO.out _).mono ?_; rintro e w1 ⟨rfl, hg1⟩; obtain ⟨d0, d2, d4⟩ := cM _ _ hg1; have d5 := cO _ _ hg1 (by omega))
    go_quiet (fail)
    go_wp2
    go_quiet (fail)
    go_wp2
    go_ret
    exact ⟨rfl, grown_none (grown_undrewN hg1) (grown_drewN _ _ _)⟩
  · have tk : decide (0 < (k : Int)) = false := by simp; omega
    have tk' : decide (0 < k) = false := by simp; omega
    clear kn hk0 k4
    go_enter Try.func22, Try.ntmps22
    go_wp2
    go_quiet (fail)
    go_wp2
    go_quiet (fail)
    go_wp2_with (go_at_call 30; refine (HO.out _).mono ?_; rintro e w1 ⟨rfl, hg1⟩; obtain ⟨d0, d2, d4⟩ := cM _ _ hg1)
    go_quiet (fail)
    go_wp2
    go_ret
    exact ⟨rfl, grown_none (grown_undrewN hg1) (grown_drewN _ _ _)⟩
  · clear kn
    go_enter Try.func22, Try.ntmps22
    go_wp2
    go_quiet (fail)
    go_wp2
    go_quiet (fail)
    go_wp2_with (go_at_call 30; refine (HO.out _).mono ?_; rintro e w1 ⟨rfl, hg1⟩; obtain ⟨d0, d2, d4⟩ := cM _ _ hg1; have d5 := cO _ _ hg1 (by omega))
    go_quiet (fail)
    go_wp2
    go_quiet (fail)
    go_wp2
    go_ret
    exact ⟨rfl, grown_none (grown_undrewN hg1) (grown_drewN _ _ _)⟩
  · clear kn
    go_enter Try.func22, Try.ntmps22
    go_wp2
    go_quiet (fail)
    go_wp2
    go_quiet (fail)
    go_wp2_with (go_at_call 30; refine (HO.out _).mono ?_; rintro e w1 ⟨rfl, hg1⟩; obtain ⟨d0, d2, d4⟩ := cM _ _ hg1; have d5 := cO _ _ hg1 (by omega))
    go_quiet (fail)
    go_wp2
    go_quiet (fail)
    go_wp2
    go_ret
    exact ⟨rfl, grown_none (grown_undrewN hg1) (grown_drewN _ _ _)⟩
  · have tk : decide (0 < (k : Int)) = false := by simp; omega
    have tk' : decide (0 < k) = false := by simp; omega
    clear kn hk0 k4
    go_enter Try.func22, Try.ntmps22
    go_wp2
    go_quiet (fail)
    go_wp2
    go_quiet (fail)
    go_wp2_with (go_at_call 30; refine (HO.out _).mono ?_; rintro e w1 ⟨rfl, hg1⟩; obtain ⟨d0, d2, d4⟩ := cM _ _ hg1)
    go_quiet (fail)
    go_wp2
    go_ret
    exact ⟨rfl, grown_none (grown_undrewN hg1) (grown_drewN _ _ _)⟩

/-- may the next instruction be done? -/
theorem rfits_any (w0 w : World) (M CB : Nat) (co : Option Addr) (n c : Nat) (g : Nat → Int) (pv sv : Value) (S : Mst) (hn : n ≤ 140737488355328) (h8 : S.sp ≤ 8) (h : RM w0 w M CB (.slice co n c) pv sv S) (hs : Src w .u8 co n g) (hg : Oct g) :
    Calls Try.prog 22 #[.pointer (some ⟨M, 0, none⟩)] w fun e w' => e = .returned (.bool (fitB g n S)) ∧ w.grownBy w' none := by
  by_cases hpc : S.pc < n
  · obtain ⟨b, off, rfl, hR⟩ := hs (by omega)
    cases hc : shp (g S.pc) with
    | none => rw [fit_none hc]; exact rfits_none w0 w M CB b off n c g pv sv S h hg hR hpc hc
    | some s =>
      by_cases hno : ¬ S.pc + 1 + s.wh + s.nb ≤ n ∨ ¬ s.po ≤ S.sp ∨ ¬ S.sp - s.po + s.pu ≤ 8
      · have : fitB g n S = false := by
          rw [fit_some hpc hc]
          rcases hno with h | h | h <;> simp [h]
        rw [this]
        exact rfits_no w0 w M CB b off n c g pv sv S s hn h8 h hR hg hpc hc hno
      · simp only [not_or, Classical.not_not] at hno
        obtain ⟨hA, hB, hC⟩ := hno
        have : fitB g n S = knw (g S.pc) (g (S.pc + 1)) := by rw [fit_some hpc hc]; simp [hA, hB, hC]
        rw [this]
        exact rfits_yes w0 w M CB b off n c g pv sv S s hn h8 h hR hg hpc hc hA hB hC
  · rw [fit_end hpc]
    exact rfits_end w0 w M CB co n c pv sv S h hpc

end Go.Proofs.Ythbcfepbkkbjiaa
