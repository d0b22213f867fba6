import Derived.Test.YthbcfepbkkbjiaaGreatDoorJKI
namespace Go.Proofs.YthbcfepbkkbjiaaGreatDoor
open Go.RowKit
set_option linter.unusedVariables false
set_option linter.unusedSimpArgs false
set_option maxRecDepth 100000 in
set_option maxHeartbeats 2000000 in
theorem law_walks (ao : Option Addr) (n c : Nat) (g : Nat → Int) (k x size cell : Int) (tb : TypeId) (pb : Value) (w : World) (hn : n ≤ maxLen) (hc : n ≤ c) (hg : Oct g) (hs : Src w .u8 ao n g) (hk : I64 k) (hx : I64 x) (hz : I64 size) (hce : I64 cell) (hL : Laid w tb pb) :
    Calls Tryz.prog 9 #[.slice ao n c, .int .i64 k, .int .i64 x, .int .i64 size, .int .i64 cell] w fun e w' => e = .returned (.bool true) ∧ w.grownBy w' none := by
  obtain ⟨m, hm⟩ : ∃ m, min n 2000 = m := ⟨_, rfl⟩
  have hm1 : m ≤ 2000 := by omega
  have hm2 : m ≤ n := by omega
  have hmc : m ≤ c := by omega
  have HS : Hid (Src w .u8 ao m g) := hs.less hm2
  have HL : Hid (Laid w tb pb) := hL
  have HG : Hid (Oct g) := hg
  have HZ : Hid (I64 size) := hz
  have HK : Hid (I64 k) := hk
  have HX : Hid (I64 x) := hx
  have HC : Hid (I64 cell) := hce
  clear hs hL hg hz hk hx hce
  go_enter Tryz.func9, Tryz.ntmps9
  go_wp2_with (first | (go_at_call 26; refine (kknown tb pb w HL.out).mono ?_; rintro e w1 ⟨rfl, hg1⟩) | (go_at_call 36; refine (kpacket ao n c _ hn hc).mono ?_; rintro e w2 ⟨rfl, rfl⟩; rw [hm]) | (go_at_call 30; refine (kpick _ _ _ HZ.out ?_ ?_).mono ?_; omega; omega; rintro e w4 ⟨⟨rs, rfl, hrs⟩, rfl⟩; clear HZ))
  obtain ⟨N4, hN4⟩ : ∃ N4 : Nat, 4 / 2 ^ rs = N4 := ⟨_, rfl⟩
  have eN : (4 : Int) / 2 ^ rs = (N4 : Int) := by rw [← hN4, Int.natCast_ediv, Int.natCast_pow]; rfl
  rw [eN]
  have hN : N4 ≤ 4 := by rw [← hN4]; exact Nat.div_le_self _ _
  have hrs' : rs < 3 := by omega
  have KA : Hid (kd (32 + 8 * (rs : Int)) = ⟨32 + 8 * (rs : Int), 1, (N4 : Int), false, 0, 1⟩) := by rw [← hN4]; exact kd_abs rs hrs'
  have KI : Hid (kd (64 + 8 * (rs : Int)) = ⟨64 + 8 * (rs : Int), 1, (N4 : Int), true, 0, 1⟩) := by rw [← hN4]; exact kd_ind rs hrs'
  have r0 : (0 : Int) ≤ (rs : Int) := by omega
  clear hN4 eN
  go_wp2_with (go_at_call 30; refine (kpick _ _ _ HK.out ?_ ?_).mono ?_; omega; omega; rintro e w5 ⟨⟨ra, rfl, hra⟩, rfl⟩; go_wp2_with (go_at_call 30; refine (kpick _ _ _ HX.out ?_ ?_).mono ?_; omega; omega; rintro e w6 ⟨⟨ri, rfl, hri⟩, rfl⟩; go_wp2_with (go_at_call 30; refine (kpick _ _ _ HC.out ?_ ?_).mono ?_; omega; omega; rintro e w7 ⟨⟨rc, rfl, hrc⟩, rfl⟩; go_wp2_with (go_at_call 32; refine (kfilter5 _ _ _ _ _ _ _ _ _ _ _ _ _ _ _ _ _ _ _ _ _).mono ?_; rintro e w8 ⟨⟨f1, cap1, rfl, hc1, hs1⟩, hg8⟩; have G8 := grown_trans hg1 hg8; clear hg1 hg8))))
  have ua : 0 ≤ (ra : Int) ∧ (ra : Int) < 4294967296 := ⟨by omega, hra⟩
  have ui : 0 ≤ (ri : Int) ∧ (ri : Int) < 4294967296 := ⟨by omega, hri⟩
  have uc : 0 ≤ (rc : Int) ∧ (rc : Int) < 16 := ⟨by omega, hrc⟩
  have uA : 0 ≤ 32 + 8 * (rs : Int) ∧ 32 + 8 * (rs : Int) < 65536 := ⟨by omega, by omega⟩
  have uI : 0 ≤ 64 + 8 * (rs : Int) ∧ 64 + 8 * (rs : Int) < 65536 := ⟨by omega, by omega⟩
  obtain ⟨V1, hV1⟩ : ∃ V, Hid (V = ldv g m ra N4) := ⟨_, rfl⟩
  obtain ⟨V2, hV2⟩ : ∃ V, Hid (V = ldv g m (ra + ri) N4) := ⟨_, rfl⟩
  have H1 : Hid (Ver f1 40 cap1 ao m c w8 V1) := ver_of (j := 5) (u := aq (32 + 8 * (rs : Int)) ra rc) (by decide) (by decide) rfl hc1 hm1 hmc HG.out hs1 HS.out HL.out G8 (aq_chk KA.out uA ua uc) (by rw [aq_run KA.out uA ua uc, hV1.out]; rfl)
  clear hs1
  go_wp2_with (go_at_call 34; refine H1.out.mono ?_; rintro e w9 ⟨rfl, hg9⟩; have G9 := grown_trans G8 hg9; clear hg9 G8 H1; go_wp2_with (go_at_call 32; refine (kfilter6 _ _ _ _ _ _ _ _ _ _ _ _ _ _ _ _ _ _ _ _ _ _ _ _ _).mono ?_; rintro e w10 ⟨⟨f2, cap2, rfl, hc2, hs2⟩, hg10⟩; have G10 := grown_trans G9 hg10; clear hg10 G9))
  have H2 : Hid (Ver f2 48 cap2 ao m c w10 V2) := ver_of (j := 6) (u := iq (64 + 8 * (rs : Int)) ri rc ra) (by decide) (by decide) rfl hc2 hm1 hmc HG.out hs2 HS.out HL.out G10 (iq_chk KI.out uI ui ua uc) (by rw [iq_run KI.out uI ui ua uc, hV2.out]; rfl)
  clear hs2
  go_wp2_with (go_at_call 34; refine H2.out.mono ?_; rintro e w11 ⟨rfl, hg11⟩; have G11 := grown_trans G10 hg11; clear hg11 G10 H2; go_wp2_with (go_at_call 32; refine (kfilter3 _ _ _ _ _ _ _ _ _ _ _ _ _).mono ?_; rintro e w12 ⟨⟨f3, cap3, rfl, hc3, hs3⟩, hg12⟩; have G12 := grown_trans G11 hg12; clear hg12 G11))
  have H3 : Hid (Ver f3 24 cap3 ao m c w12 m) := ver_of (j := 3) (u := lq) (by decide) (by decide) rfl hc3 hm1 hmc HG.out hs3 HS.out HL.out G12 lq_chk (lq_run g m)
  clear hs3
  go_wp2_with (go_at_call 34; refine H3.out.mono ?_; rintro e w13 ⟨rfl, hg13⟩; have G13 := grown_trans G12 hg13; clear hg13 G12 H3; go_wp2_with (go_at_call 32; refine (kfilter4 _ _ _ _ _ _ _ _ _ _ _ _ _ _ _ _ _).mono ?_; rintro e w14 ⟨⟨f4, cap4, rfl, hc4, hs4⟩, hg14⟩; have G14 := grown_trans G13 hg14; clear hg14 G13))
  have H4 : Hid (Ver f4 32 cap4 ao m c w14 (if ra < m then 1 + g ra % 16 * 4 else 0)) := ver_of (j := 4) (u := fq ra) (by decide) (by decide) rfl hc4 hm1 hmc HG.out hs4 HS.out HL.out G14 (fq_chk ua) (by rw [fq_run ua HG.out]; rfl)
  clear hs4 KA KI uA uI ua ui uc HK HX HC hc1 hc2 hc3 hc4
  have HLd : Hid (∀ w', w.grownBy w' none → Calls Tryz.prog 37 #[.slice ao m c, .int .i64 (ra : Int), .int .i64 (N4 : Int)] w' fun e w'' => e = .returned (.int .i64 V1) ∧ w'' = w') := fun w' hg' => by
    rw [hV1.out]; exact kloaded ao m c ra N4 g w' hm1 (by omega) hN HG.out (HS.out.keep hg')
  have HLi : Hid (∀ w', w.grownBy w' none → Calls Tryz.prog 37 #[.slice ao m c, .int .i64 ((ra : Int) + (ri : Int)), .int .i64 (N4 : Int)] w' fun e w'' => e = .returned (.int .i64 V2) ∧ w'' = w') := fun w' hg' => by
    rw [hV2.out]; exact kloaded ao m c (ra + ri) N4 g w' hm1 (by omega) hN HG.out (HS.out.keep hg')
  clear hV1 hV2
  by_cases hlt : ra < m
  · rw [if_pos hlt] at H4
    obtain ⟨b, off, rfl, hR⟩ := (HS.out.keep G14) (by omega)
    have ca : w14.cell? ⟨b, off + ra, none⟩ = some (.int .u8 (g ra)) := hR ra hlt
    have ba := HG.out ra
    clear hR
    generalize g ra = ga at *
    go_wp2_with (go_at_call 34; refine H4.out.mono ?_; rintro e w15 ⟨rfl, hg15⟩; have G15 := grown_trans G14 hg15; have da := hg15.cell ca (by simp); clear hg15 G14 H4 ca; go_wp2_with (go_at_call 37; refine (HLd.out _ G15).mono ?_; rintro e w16 ⟨rfl, rfl⟩; go_wp2_with (go_at_call 37; refine (HLi.out _ G15).mono ?_; rintro e w17 ⟨rfl, rfl⟩)))
    go_ret
    exact ⟨rfl, G15⟩
  · rw [if_neg hlt] at H4
    go_wp2_with (go_at_call 34; refine H4.out.mono ?_; rintro e w15 ⟨rfl, hg15⟩; have G15 := grown_trans G14 hg15; clear hg15 G14 H4; go_wp2_with (go_at_call 37; refine (HLd.out _ G15).mono ?_; rintro e w16 ⟨rfl, rfl⟩; go_wp2_with (go_at_call 37; refine (HLi.out _ G15).mono ?_; rintro e w17 ⟨rfl, rfl⟩)))
    go_ret
    exact ⟨rfl, G15⟩
end Go.Proofs.YthbcfepbkkbjiaaGreatDoor
