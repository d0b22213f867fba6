import Derived.Test.YthbcfepbkkbjiaaGreatDoorJKQ
namespace Go.Proofs.YthbcfepbkkbjiaaGreatDoor
open Go.RowKit
set_option linter.unusedVariables false
set_option linter.unusedSimpArgs false
theorem Src.less {w : World} {k : IntKind} {ao : Option Addr} {n m : Nat} {g : Nat → Int} (h : Src w k ao n g) (hm : m ≤ n) : Src w k ao m g := fun h0 => by
  obtain ⟨b, off, e, hr⟩ := h (by omega)
  exact ⟨b, off, e, fun j hj => hr j (by omega)⟩
set_option maxRecDepth 100000 in
set_option maxHeartbeats 2000000 in
theorem law_typed (ao : Option Addr) (n c : Nat) (g : Nat → Int) (kind wanted : Int) (tb : TypeId) (pb : Value) (w : World) (hn : n ≤ maxLen) (hc : n ≤ c) (hg : Oct g) (hs : Src w .u8 ao n g) (hk : I64 kind) (hw : I64 wanted) (hL : Laid w tb pb) :
    Calls Tryz.prog 8 #[.slice ao n c, .int .i64 kind, .int .i64 wanted] w fun e w' => e = .returned (.bool true) ∧ w.grownBy w' none := by
  obtain ⟨m, hm⟩ : ∃ m, min n 2000 = m := ⟨_, rfl⟩
  have hm1 : m ≤ 2000 := by omega
  have hm2 : m ≤ n := by omega
  have hmc : m ≤ c := by omega
  have HS : Hid (Src w .u8 ao m g) := hs.less hm2
  have HL : Hid (Laid w tb pb) := hL
  have HG : Hid (Oct g) := hg
  clear hs hL hg
  go_enter Tryz.func8, Tryz.ntmps8
  go_wp2_with (first | (go_at_call 26; refine (kknown tb pb w HL.out).mono ?_; rintro e w1 ⟨rfl, hg1⟩) | (go_at_call 36; refine (kpacket ao n c _ hn hc).mono ?_; rintro e w2 ⟨rfl, rfl⟩; rw [hm]) | (go_at_call 30; refine (kpick _ _ _ (by assumption) ?_ ?_).mono ?_; omega; omega; rintro e w4 ⟨⟨rk, rfl, hrk⟩, rfl⟩; go_wp2_with (first | (go_at_call 30; refine (kpick _ _ _ (by assumption) ?_ ?_).mono ?_; omega; omega; rintro e w5 ⟨⟨r, rfl, hr⟩, rfl⟩) | (go_at_call 32; refine (kfilter4 _ _ _ _ _ _ _ _ _ _ _ _ _ _ _ _ _).mono ?_; rintro e w6 ⟨⟨fg, cap, rfl, hcap, hs6⟩, hg6⟩; have G6 := grown_trans hg1 hg6; clear hg1 hg6))))
  have hk0 : 0 ≤ (rk : Int) ∧ (rk : Int) < 65536 := ⟨by omega, hrk⟩
  have hn0 : 0 ≤ (r : Int) ∧ (r : Int) < 4294967296 := ⟨by omega, hr⟩
  have HV : Hid (Calls Tryz.prog 34 #[.slice (some ⟨fg, 0, none⟩) 32 cap, .slice ao m c] w6 fun e w' => e = .returned (.int .i64 (if 14 ≤ m ∧ be g 12 2 = (rk : Int) then (r : Int) else 0)) ∧ w6.grownBy w' none) := by
    refine (kverdict _ 4 cap (encs (tq rk r)) ao m c g tb pb w6 (by decide) (by decide) hcap hm1 hmc (encs_oct _) HG.out hs6 (HS.out.keep G6) (HL.out.keep G6) (tq_chk hk0 hn0)).mono ?_
    rintro e w7 ⟨rfl, hg7⟩
    rw [tq_run hk0 hn0]
    exact ⟨rfl, hg7⟩
  clear hs6 hk0 hn0
  by_cases hm14 : 14 ≤ m
  · obtain ⟨b, off, rfl, hR⟩ := (HS.out.keep G6) (by omega)
    have c12 : w6.cell? ⟨b, off + 12, none⟩ = some (.int .u8 (g 12)) := hR 12 (by omega)
    have c13 : w6.cell? ⟨b, off + 13, none⟩ = some (.int .u8 (g 13)) := hR 13 (by omega)
    have b12 := HG.out 12
    have b13 := HG.out 13
    have hbe : be g 12 2 = g 12 * 256 + g 13 := by simp [be]; omega
    have t14 : ¬ ((m : Int) < 14) := by omega
    have t12 : (12 : Int) < (m : Int) := by omega
    have t13 : (13 : Int) < (m : Int) := by omega
    generalize g 12 = g12 at *
    generalize g 13 = g13 at *
    have fe : IntKind.i64.wrap (IntKind.i64.wrap (IntKind.i64.wrap g12 * 256) + IntKind.i64.wrap g13) = g12 * 256 + g13 := by
      have fa : IntKind.i64.wrap g12 = g12 := by rw [IntKind.wrap_i64]; omega
      have fb : IntKind.i64.wrap g13 = g13 := by rw [IntKind.wrap_i64]; omega
      have fc : IntKind.i64.wrap (g12 * 256) = g12 * 256 := by rw [IntKind.wrap_i64]; omega
      rw [fa, fb, fc, IntKind.wrap_i64]; omega
    clear b12 b13
    by_cases he : g12 * 256 + g13 = (rk : Int)
    · rw [he] at fe
      have HV2 := HV.out
      rw [if_pos ⟨hm14, hbe.trans he⟩] at HV2
      have HV3 : Hid (Calls Tryz.prog 34 #[.slice (some ⟨fg, 0, none⟩) 32 cap, .slice (some ⟨b, off, none⟩) m c] w6 fun e w' => e = .returned (.int .i64 (r : Int)) ∧ w6.grownBy w' none) := HV2
      clear HV HV2 HS HL hR hbe
      go_wp2_with ((go_at_call 34; refine HV3.out.mono ?_; rintro e w7 ⟨rfl, hg7⟩; have d12 := hg7.cell c12 (by simp); have d13 := hg7.cell c13 (by simp); have G7 := grown_trans G6 hg7; clear c12 c13 hg7 G6 HV3))
      clear hn hc hk hw hm hm1 hm2 hmc hcap hr hrk HG
      go_quiet (fail)
      go_wp2
      go_ret
      exact ⟨rfl, grown_trans G7 (grown_drewN _ _ _)⟩
    · have fn : (g12 * 256 + g13 != (rk : Int)) = true := by simpa using he
      have HV2 := HV.out
      rw [if_neg (fun h => he (hbe.symm.trans h.2))] at HV2
      have HV3 : Hid (Calls Tryz.prog 34 #[.slice (some ⟨fg, 0, none⟩) 32 cap, .slice (some ⟨b, off, none⟩) m c] w6 fun e w' => e = .returned (.int .i64 0) ∧ w6.grownBy w' none) := HV2
      clear HV HV2 HS HL hR hbe
      go_wp2_with ((go_at_call 34; refine HV3.out.mono ?_; rintro e w7 ⟨rfl, hg7⟩; have d12 := hg7.cell c12 (by simp); have d13 := hg7.cell c13 (by simp); have G7 := grown_trans G6 hg7; clear c12 c13 hg7 G6 HV3))
      clear hn hc hk hw hm hm1 hm2 hmc hcap hr hrk HG
      go_quiet (fail)
      go_wp2
      go_ret
      exact ⟨rfl, grown_trans G7 (grown_drewN _ _ _)⟩
  · have HV2 := HV.out
    rw [if_neg (fun h => hm14 h.1)] at HV2
    have HV3 : Hid (Calls Tryz.prog 34 #[.slice (some ⟨fg, 0, none⟩) 32 cap, .slice ao m c] w6 fun e w' => e = .returned (.int .i64 0) ∧ w6.grownBy w' none) := HV2
    clear HV HV2 HS HL
    have t14 : (m : Int) < 14 := by omega
    go_wp2_with ((go_at_call 34; refine HV3.out.mono ?_; rintro e w7 ⟨rfl, hg7⟩; have G7 := grown_trans G6 hg7; clear hg7 G6 HV3))
    go_quiet (fail)
    go_wp2
    go_ret
    exact ⟨rfl, grown_trans G7 (grown_drewN _ _ _)⟩
end Go.Proofs.YthbcfepbkkbjiaaGreatDoor
