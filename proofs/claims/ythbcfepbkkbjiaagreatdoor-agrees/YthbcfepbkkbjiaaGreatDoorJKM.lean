import Derived.Test.YthbcfepbkkbjiaaGreatDoorJMA
import Derived.Test.YthbcfepbkkbjiaaGreatDoorJKG
namespace Go.Proofs.YthbcfepbkkbjiaaGreatDoor
open Go.RowKit
set_option linter.unusedVariables false
set_option linter.unusedSimpArgs false
theorem Chk.size {g : Nat → Int} {n : Nat} (h : Chk g n 0 0) : ∃ j, 1 ≤ j ∧ j ≤ 256 ∧ n = 8 * j := by
  rcases h with ⟨_, h, _⟩ | ⟨h, _⟩
  · omega
  · unfold badSize at h
    exact ⟨n / 8, by omega, by omega, by omega⟩
set_option maxRecDepth 100000 in
set_option maxHeartbeats 1000000 in
theorem kagrees_no (ao : Option Addr) (n c : Nat) (g : Nat → Int) (pv : Value) (tb : TypeId) (pb : Value) (w : World) (hn : n ≤ maxLen) (hc : n ≤ c) (hg : Oct g) (hs : Src w .u8 ao n g) (hl : Laid w tb pb) (hno : ¬ Chk g n 0 0) :
    Calls Tryz.prog 39 #[.slice ao n c, pv] w fun e w' => e = .returned (.bool true) ∧ w.grownBy w' none := by
  have HO : Hid (¬ Chk g n 0 0) := hno
  have HS : Hid (Src w .u8 ao n g) := hs
  have HL : Hid (Laid w tb pb) := hl
  clear hno hs hl
  go_enter Tryz.func39, Tryz.ntmps39
  go_wp2_with (first | (go_at_call 35; refine (check_any ao n c g tb pb w hn hc hg HS.out HL.out).mono ?_; rintro e w1 ⟨⟨E, k, rfl, hC⟩, hg1⟩) | (go_at_call 16; refine (gcompile_no ao n c g tb pb _ hn hc hg (HS.out.keep hg1) (HL.out.keep hg1) HO.out).mono ?_; rintro e w2 ⟨E', k', rfl, hE', hC', hg2⟩; obtain ⟨rfl, rfl⟩ := hC.one hC'; have t1 : (E != 0) = true := (by simpa using hE')))
  go_ret
  exact ⟨rfl, grown_trans hg1 hg2⟩
set_option maxRecDepth 100000 in
set_option maxHeartbeats 2000000 in
theorem kagrees_ok (b off j c : Nat) (g : Nat → Int) (po : Option Addr) (n pc : Nat) (A : Nat → Option Addr) (L C : Nat → Nat) (G : Nat → Nat → Int) (tb : TypeId) (pb : Value) (w : World) (h1 : 1 ≤ j) (hj : j ≤ 256) (hc : 8 * j ≤ c) (hg : Oct g) (hR : Row w .u8 b off (8 * j) g) (hn : n ≤ maxLen) (hM : Mat w po n A L C G) (hl : Laid w tb pb) (hok : Chk g (8 * j) 0 0) :
    Calls Tryz.prog 39 #[.slice (some ⟨b, off, none⟩) (8 * j : Nat) c, .slice po n pc] w fun e w' => e = .returned (.bool true) ∧ w.grownBy w' none := by
  have hG : Good (decs g) j := by
    have := (chk_good hg hok).2
    rwa [show 8 * j / 8 = j by omega] at this
  have hs : Src w .u8 (some ⟨b, off, none⟩) (8 * j) g := fun _ => ⟨b, off, rfl, hR⟩
  have HCk : Hid (Calls Tryz.prog 35 #[.slice (some ⟨b, off, none⟩) (8 * j : Nat) c] w fun e w' => e = .returned (.tuple #[.int .i64 0, .int .i64 0]) ∧ w.grownBy w' none) := by
    refine (check_any _ (8 * j) c g tb pb w (by unfold maxLen; omega) hc hg hs hl).mono ?_
    rintro e w1 ⟨⟨E, k, rfl, hC⟩, hg1⟩
    obtain ⟨rfl, rfl⟩ := hC.one hok
    exact ⟨rfl, hg1⟩
  have HCm : Hid (∀ w', w.grownBy w' none → Calls Tryz.prog 16 #[.slice (some ⟨b, off, none⟩) (8 * j : Nat) c] w' fun e w'' => ∃ B cap, e = .returned (.tuple #[.slice (some ⟨B, 0, none⟩) (start (decs g) j) cap, .int .i64 0]) ∧ (start (decs g) j ≤ cap ∧ Src w'' .u8 (some ⟨B, 0, none⟩) (start (decs g) j) (codeF (decs g) j)) ∧ w'.grownBy w'' none) := fun w' hg' => by
    refine (gcompile_ok b off j c g tb pb w' h1 hj hc hg (hR.keep hg' (by simp)) (hl.keep hg') hok).mono ?_
    rintro e w2 ⟨B, cap, rfl, ho, hg2⟩
    obtain ⟨_, _, hv, _, hcp⟩ := owns_form ho (start_pos _ h1)
    cases hv
    exact ⟨B, cap, rfl, ⟨hcp, vals_src ho (full_len _ _).symm⟩, hg2⟩
  have hsb := start_bd (decs g) j
  obtain ⟨R, hRR⟩ : ∃ R : (Nat → Int) → Nat → Int, ∀ p m, runF (decs g) p m 256 F0 = R p m := ⟨fun p m => runF (decs g) p m 256 F0, fun _ _ => rfl⟩
  have HRn : Hid (∀ (qo : Option Addr) (m qc : Nat) (p : Nat → Int) w', w.grownBy w' none → m ≤ 2000 → m ≤ qc → Oct p → Src w' .u8 qo m p → Calls Tryz.prog 13 #[.slice (some ⟨b, off, none⟩) (8 * j : Nat) c, .slice qo m qc] w' fun e w'' => e = .returned (.tuple #[.int .i64 (R p m), .int .i64 0]) ∧ w'.grownBy w'' none) := fun qo m qc p w' hg' hm hmc hp hq => by
    rw [← hRR]
    refine (grun_any _ (8 * j) c g qo m qc p tb pb w' (by unfold maxLen; omega) (by unfold maxLen; omega) hc hmc hg hp (hs.keep hg') hq (hl.keep hg')).mono ?_
    rintro e w2 ⟨⟨v, E, rfl, hE⟩, hg2⟩
    obtain ⟨rfl, rfl⟩ := hE.one (Or.inr ⟨hok, Or.inr ⟨hm, rfl, rfl⟩⟩)
    exact ⟨rfl, hg2⟩
  have HEx : Hid (∀ (B cap : Nat) (qo : Option Addr) (m qc : Nat) (p : Nat → Int) w', start (decs g) j ≤ cap → Src w' .u8 (some ⟨B, 0, none⟩) (start (decs g) j) (codeF (decs g) j) → m ≤ 2000 → m ≤ qc → Oct p → Src w' .u8 qo m p → Calls Tryz.prog 33 #[.slice (some ⟨B, 0, none⟩) (start (decs g) j) cap, .slice qo m qc] w' fun e w'' => (∃ cst : Nat, e = .returned (.tuple #[.int .i64 (R p m), .int .i64 cst, .int .i64 0]) ∧ cst ≤ 8 * j) ∧ w'.grownBy w'' none) := fun B cap qo m qc p w' hcp hs' hm hmc hp hq => by
    obtain ⟨cst, hcst, hex⟩ := code_exec hG hj hp hm
    rw [hRR] at hex
    have := gexec_all (some ⟨B, 0, none⟩) (start (decs g) j) cap (codeF (decs g) j) qo m qc p w' (by omega) hcp (by omega) hmc (codeF_oct hG) hp hs' hq
    unfold execV at this
    rw [if_pos hm, hex] at this
    exact this.mono fun e w'' ⟨he, hg''⟩ => ⟨⟨cst, he, hcst⟩, hg''⟩
  have HM : Hid (Mat w po n A L C G) := hM
  clear hs hR hM hl hok hG hRR
  unfold maxLen at hn
  generalize start (decs g) j = N at *
  generalize codeF (decs g) j = K at *
  go_enter Tryz.func39, Tryz.ntmps39
  go_wp2_with (first | (go_at_call 35; refine HCk.out.mono ?_; rintro e w1 ⟨rfl, hg1⟩) | (go_at_call 16; refine (HCm.out _ hg1).mono ?_; rintro e w2 ⟨B, cap, rfl, ⟨hcp, hsB⟩, hg2⟩; have G2 := grown_trans hg1 hg2; clear hg1 hg2))
  go_loopw [9] (fun i wr => ∃ k : Nat, k ≤ n ∧ i = .int .i64 k ∧ w2.grownBy wr none) (fun i _ => n - (intOf i).toNat)
  case atStart => exact ⟨0, Nat.zero_le _, rfl, grown_refl _ _⟩
  case round =>
    obtain ⟨k, hk, rfl, hgr⟩ := hrel
    by_cases hlt : k < n
    · have Gr := grown_trans G2 hgr
      obtain ⟨bb, bo, rfl, hcell, hLC, hCm, hO, hS⟩ := (HM.out.keep Gr).at hlt
      have t1 : (k : Int) < (n : Int) := by omega
      obtain ⟨m, hm⟩ : ∃ m, min (L k) 2000 = m := ⟨_, rfl⟩
      have hm1 : m ≤ 2000 := by omega
      have hm2 : m ≤ L k := by omega
      have hm3 : m ≤ C k := by omega
      have HSm : Hid (Src wr .u8 (A k) m (G k)) := hS.less hm2
      have HO : Hid (Oct (G k)) := hO
      have HB : Hid (Src wr .u8 (some ⟨B, 0, none⟩) N K) := hsB.keep hgr
      clear hS hO
      go_wp2_with (first | (go_at_call 36; refine (kpacket _ _ _ _ (Nat.le_trans hLC hCm) hLC).mono ?_; rintro e w3 ⟨rfl, rfl⟩; rw [hm]) | (go_at_call 13; refine (HRn.out _ m _ _ _ Gr hm1 hm3 HO.out HSm.out).mono ?_; rintro e w4 ⟨rfl, hg4⟩) | (go_at_call 33; refine (HEx.out B cap _ m _ _ _ hcp (HB.out.keep hg4) hm1 hm3 HO.out (HSm.out.keep hg4)).mono ?_; rintro e w5 ⟨⟨cst, rfl, hcst⟩, hg5⟩; have t5 : decide ((2 * (8 * (j : Int)) + 16) < (cst : Int)) = false := (by simp; omega)))
      go_roundw
      case rel => exact ⟨k + 1, by omega, by go_num, grown_trans (grown_trans hgr hg4) hg5⟩
      case measure => simp [intOf]; omega
    · have hke : k = n := by omega
      subst hke
      go_wp2
      go_ret
      exact ⟨rfl, grown_trans G2 hgr⟩
theorem kagrees (ao : Option Addr) (m c : Nat) (g : Nat → Int) (po : Option Addr) (n pc : Nat) (A : Nat → Option Addr) (L C : Nat → Nat) (G : Nat → Nat → Int) (tb : TypeId) (pb : Value) (w : World) (hm : m ≤ maxLen) (hc : m ≤ c) (hg : Oct g) (hs : Src w .u8 ao m g) (hn : n ≤ maxLen) (hM : Mat w po n A L C G) (hl : Laid w tb pb) :
    Calls Tryz.prog 39 #[.slice ao m c, .slice po n pc] w fun e w' => e = .returned (.bool true) ∧ w.grownBy w' none := by
  by_cases hok : Chk g m 0 0
  · obtain ⟨j, h1, h2, rfl⟩ := hok.size
    obtain ⟨b, off, rfl, hR⟩ := hs (by omega)
    exact kagrees_ok b off j c g po n pc A L C G tb pb w h1 h2 hc hg hR hn hM hl hok
  · exact kagrees_no ao m c g _ tb pb w hm hc hg hs hl hok
end Go.Proofs.YthbcfepbkkbjiaaGreatDoor
