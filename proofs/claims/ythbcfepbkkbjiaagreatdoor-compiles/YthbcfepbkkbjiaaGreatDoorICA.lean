import Derived.Test.YthbcfepbkkbjiaaGreatDoorIMA
import Derived.Test.YthbcfepbkkbjiaaGreatDoorIW8
import Derived.Test.YthbcfepbkkbjiaaGreatDoorIDP
namespace Go.Proofs.YthbcfepbkkbjiaaGreatDoor
open Go.RowKit
set_option linter.unusedVariables false
set_option linter.unusedSimpArgs false
theorem bytesBooks (w : World) : Books (w.alloc (.cells #[.slice none 0 0, .slice none 0 0] 36)) w.heap.size (fun k => k < w.heap.size) (w.alloc (.cells #[.slice none 0 0, .slice none 0 0] 36)).heap.size 0 := by
  refine ⟨none, none, 0, 0, fun _ => (none, 0, 0), fun _ => 0, (blk_new w _ _).congr fun j hj => ?_, by simp, Nat.lt_irrefl _, Or.inl ⟨rfl, rfl, rfl⟩, fun g h => (by cases h), Or.inl ⟨rfl, rfl, rfl⟩, fun g h => (by cases h), fun k h => by simp; omega, fun _ => (by show (0 : Int) ≤ 0 ∧ (0 : Int) ≤ 255; decide), fun i h => by omega⟩
  match j, hj with
  | 0, _ => rfl
  | 1, _ => rfl
theorem owns_blk {w : World} {base g n cap : Nat} {e : TypeId} {l : List Int} (h : w.ownsRow base e 1 (.slice (some ⟨g, 0, none⟩) n cap) n (vals l)) : Blk w g e cap n (ints .u8 fun j => l.getD j 0) ∧ cap ≤ maxLen ∧ base ≤ g := by
  have hl := h.1
  rw [Nat.mul_one, vals_len] at hl
  rcases h.2 with ⟨h2, _⟩ | ⟨g', cap', cur, hv, hb, hh, hn, hm, hs, ht⟩
  · cases h2
  · cases hv
    rw [Nat.mul_one] at hs ht
    refine ⟨⟨cur, hh, hs, hn, fun j hj => ?_⟩, hm, hb⟩
    have : (cur.toList.take n)[j]? = (vals l)[j]? := by rw [ht]
    rw [List.getElem?_take_of_lt hj] at this
    have hjl : j < l.length := by omega
    rw [Array.getElem?_toList] at this
    rw [this]
    simp [vals, ints, hjl]
theorem blk_src {w : World} {g n cap : Nat} {e : TypeId} {u : Nat → Int} (h : Blk w g e cap n (ints .u8 u)) : Src w .u8 (some ⟨g, 0, none⟩) n u := fun _ => ⟨g, 0, rfl, fun j hj => by
  rw [Nat.zero_add]
  exact h.cell hj⟩
theorem Chk.len {g : Nat → Int} {n : Nat} (h : Chk g n 0 0) : ∃ j, 1 ≤ j ∧ j ≤ 256 ∧ n = 8 * j := by
  rcases h with ⟨_, h, _⟩ | ⟨h, _⟩
  · omega
  · unfold badSize at h
    exact ⟨n / 8, by omega, by omega, by omega⟩
set_option maxRecDepth 100000 in
set_option maxHeartbeats 4000000 in
theorem law_compiles (lo : Option Addr) (ln lc : Nat) (fit : Bool) (q : Nat → Int) (po : Option Addr) (n pc : Nat) (A : Nat → Option Addr) (L C : Nat → Nat) (G : Nat → Nat → Int) (tb : TypeId) (pb : Value) (w : World) (hln : ln ≤ 4398046511000) (hl : SrcI w lo ln q) (hi64 : ∀ j, j < 4 * ln → I64 (q j)) (hn : n ≤ maxLen) (hM : Mat w po n A L C G) (hL : Laid w tb pb) :
    Calls Tryz.prog 4 #[.agg #[.slice lo ln lc, .bool fit], .slice po n pc] w fun e w' => e = .returned (.bool true) ∧ w.grownBy w' none := by
  have hmax : 140737488355328 ≤ maxLen := by unfold maxLen; omega
  have HM : Hid (Mat w po n A L C G) := hM
  have HL : Hid (Laid w tb pb) := hL
  clear hM hL
  obtain ⟨i0, hi, hz0, hz1, hz2⟩ := info_parts Tryz.infoByte
  go_enter Tryz.func4, Tryz.ntmps4
  go_wp2_with (first | (go_at_call 11; refine (filter_any lo ln lc fit q _ hln (hl.keep (World.grownBy_alloc w _ none)) hi64).mono ?_; rintro e w1 ⟨ao, m, c, g, rfl, hoct, hm, hs, hg1⟩; have G1 := grown_trans (World.grownBy_alloc w _ none) hg1) | (go_at_call 12; refine (bytes_any ao m c g _ (by omega) hs).mono ?_; rintro e w2 ⟨H, rfl, hH, hg2, hb2⟩; have G2 := grown_trans G1 hg2))
  have HB : Hid (Books (w2.alloc (.cells #[.slice none 0 0, .slice none 0 0] 36)) w2.heap.size (fun k => k < w2.heap.size) (w2.alloc (.cells #[.slice none 0 0, .slice none 0 0] 36)).heap.size 0) := bytesBooks w2
  have A3 := World.grownBy_alloc w2 (.cells #[.slice none 0 0, .slice none 0 0] 36) none
  obtain ⟨w3, hw3⟩ : ∃ w3, w2.alloc (.cells #[.slice none 0 0, .slice none 0 0] 36) = w3 := ⟨_, rfl⟩
  rw [hw3] at HB A3
  rw [hw3]
  have G3 := grown_trans G2 A3
  have hs3 := hs.keep (grown_trans hg2 A3)
  have hb3 := hb2.keep A3 (by simp)
  by_cases hok : Chk g m 0 0
  · obtain ⟨j, j1, j2, rfl⟩ := hok.len
    have hG : Good (decs g) j := by
      have := (chk_good hoct hok).2
      rwa [show 8 * j / 8 = j by omega] at this
    have HCm : Hid (∀ w', w2.grownBy w' none → Calls Tryz.prog 16 #[.slice (some ⟨H, 0, none⟩) (8 * j : Nat) (8 * j + 4)] w' fun e w'' => ∃ B cap, e = .returned (.tuple #[.slice (some ⟨B, 0, none⟩) (start (decs g) j) cap, .int .i64 0]) ∧ w''.ownsRow w'.heap.size 5 1 (.slice (some ⟨B, 0, none⟩) (start (decs g) j) cap) (start (decs g) j) (vals (full (decs g) j)) ∧ w'.grownBy w'' none) := fun w' hg' => by
      obtain ⟨b', off', e', hR⟩ := (src_pad' (hb2.keep hg' (by simp))) (by omega)
      cases e'
      exact gcompile_ok H 0 j (8 * j + 4) g tb pb w' j1 j2 (by omega) hoct hR (HL.out.keep (grown_trans G2 hg')) hok
    have hsb := start_bd (decs g) j
    have hN0 : 0 < start (decs g) j := start_pos _ j1
    have HX : Hid ((full (decs g) j).length = start (decs g) j) := full_len _ _
    obtain ⟨R, hRR⟩ : ∃ R : (Nat → Int) → Nat → Int, ∀ p m, runF (decs g) p m 256 F0 = R p m := ⟨fun p m => runF (decs g) p m 256 F0, fun _ _ => rfl⟩
    have HRn : Hid (∀ (qo : Option Addr) (m qc : Nat) (p : Nat → Int) w', w1.grownBy w' none → m ≤ 2000 → m ≤ qc → Oct p → Src w' .u8 qo m p → Calls Tryz.prog 14 #[.slice ao (8 * j : Nat) c, .slice qo m qc] w' fun e w'' => e = .returned (.tuple #[.int .i64 (R p m), .int .i64 0]) ∧ w'.grownBy w'' none) := fun qo m qc p w' hg' hm hmc hp hq => by
      rw [← hRR]
      refine (rrun_any ao (8 * j) c g qo m qc p w' (by omega) (by omega) hoct hp (hs.keep hg') hq).mono ?_
      rintro e w2 ⟨⟨v, E, rfl, hE⟩, hg2⟩
      obtain ⟨rfl, rfl⟩ := hE.one (Or.inr ⟨hok, Or.inr ⟨hm, rfl, rfl⟩⟩)
      exact ⟨rfl, hg2⟩
    have HEx : Hid (∀ (B cap : Nat) (qo : Option Addr) (m qc : Nat) (p : Nat → Int) w', start (decs g) j ≤ cap → Src w' .u8 (some ⟨B, 0, none⟩) (start (decs g) j) (codeF (decs g) j) → m ≤ 2000 → m ≤ qc → Oct p → Src w' .u8 qo m p → Calls Tryz.prog 19 #[.slice (some ⟨B, 0, none⟩) (start (decs g) j) cap, .slice qo m qc] w' fun e w'' => (∃ cst : Nat, e = .returned (.tuple #[.int .i64 (R p m), .int .i64 cst, .int .i64 0]) ∧ cst ≤ 8 * j) ∧ w'.grownBy w'' none) := fun B cap qo m qc p w' hcp hs' hm hmc hp hq => by
      obtain ⟨cst, hcst, hex⟩ := code_exec hG j2 hp hm
      rw [hRR] at hex
      have := rexec_all (some ⟨B, 0, none⟩) (start (decs g) j) cap (codeF (decs g) j) qo m qc p w' (by omega) hcp (by omega) (codeF_oct hG) hp hs' hq
      unfold execV at this
      rw [if_pos hm, hex] at this
      exact this.mono fun e w'' ⟨he, hg''⟩ => ⟨⟨cst, he, hcst⟩, hg''⟩
    have HK : Hid (∀ j', codeF (decs g) j j' = (full (decs g) j).getD j' 0) := fun _ => rfl
    have HO : Hid (Chk g (8 * j) 0 0) := hok
    clear hok hG hRR
    generalize start (decs g) j = N at *
    generalize full (decs g) j = X at *
    generalize codeF (decs g) j = K at *
    have e8 : ((8 * j : Nat) : Int) / 8 = (j : Int) := by omega
    go_wp2_with (first | (go_at_call 16; refine (HCm.out _ A3).mono ?_; rintro e w4 ⟨B, cap, rfl, ho4, hg4⟩) | (go_at_call 17; refine (rcheck_any ao (8 * j) c g _ (by omega) hoct (hs3.keep hg4)).mono ?_; rintro e w5 ⟨E', k', rfl, hC', hg5⟩; obtain ⟨rfl, rfl⟩ := hC'.one HO.out; obtain ⟨hB4, hcap4, hBs⟩ := owns_blk ho4; have hB5 := hB4.keep hg5 (by simp); have HN5 : Hid (∀ i u, (vals X)[i]? = some u → w5.cell? ((⟨B, 0, none⟩ : Addr).add i) = some u) := (row_news (by rw [HX.out]; intro i hi; rw [Nat.zero_add]; exact hB5.cell hi)); have hBl := hB4.lt) | (at_builtin; refine wpList_append_own_at _ rfl _ _ 25 rfl w5.heap.size 5 i0 (.int .u8 0) 1 1 Tryz.underlying25 hi hz0 hz1 hz2 rfl (by decide) (.slice none 0 0) 0 [] rfl ⟨rfl, Or.inl ⟨rfl, rfl⟩⟩ ⟨B, 0, none⟩ N cap (vals X) rfl (by rw [vals_len, HX.out, Nat.mul_one]) HN5.out (vals_one _) (by omega) (by omega) (Nat.le_refl _) ?_; intro v6 w6 ho6 hg6 _ _))
    rw [Nat.zero_add, List.nil_append] at ho6
    have hg6' : w5.grownBy w6 none := hg6
    clear hg6
    obtain ⟨B6, cap6, rfl, hB6s, hcp6⟩ := owns_form ho6 (by omega)
    obtain ⟨hB6, hcap6, _⟩ := owns_blk ho6
    have G36 : w3.grownBy w6 none := grown_trans (grown_trans hg4 hg5) hg6'
    have hB6' := hB5.keep hg6' (by simp)
    have z5 := hg5.size
    have z6 := hB6.lt
    have z3 := A3.size
    have zO : w2.heap.size < w3.heap.size := by rw [← hw3]; simp
    refine (take_mid HB.out G36 hBs hB6' hcap4 (by omega) (by omega)).mono ?_
    rintro e wk ⟨rfl, A', hA', hA1, hBk, hKk⟩
    have hKs := hKk.block
    have G2k : w2.grownBy wk none := ⟨hKk.os.trans (grown_trans A3 G36).os, hKk.tape.trans (grown_trans A3 G36).tape, hKk.output.trans (grown_trans A3 G36).output, Nat.le_trans (grown_trans A3 G36).size hKk.size, fun k hk hr => (hKk.block k (Or.inl hk) (Nat.lt_of_lt_of_le hk (grown_trans A3 G36).size)).trans ((grown_trans A3 G36).block k hk hr)⟩
    have hOk := hB6.same (hKk.block B6 (Or.inr ⟨by omega, z6, by omega⟩) z6)
    have HOwn : Hid (Src wk .u8 (some ⟨B6, 0, none⟩) N K) := by
      have := blk_src hOk
      rw [show (fun i => X.getD i 0) = K from funext fun i => (HK.out i).symm] at this
      exact this
    have HHk : Hid (Blk wk H 5 (8 * j + 4) (8 * j + 4) (ints .u8 (pad g (8 * j)))) := hb2.keep G2k (by simp)
    have HSk : Hid (Src wk .u8 ao (8 * j) g) := hs.keep (grown_trans hg2 G2k)
    have HBk : Hid (Books wk w2.heap.size A' wk.heap.size (0 + 1)) := hBk
    clear hB6' hB6 hOk hKs hKk hA1 hA' hBk hB5 hB4 ho4 ho6 HN5 hb3 hs3 hb2 hs HB
    have tN : ¬ ((48 * (j : Int) + 48) < (N : Int)) := by omega
    go_wp2_with (go_at_call 15; refine (kept_any H ao (8 * j) c (8 * j + 4) g _ _ (by omega) (by omega) HHk.out HSk.out).mono ?_; rintro e w7 ⟨rfl, hg7⟩; have Gk7 := hg7)
    unfold maxLen at hn
    go_loopw [15] (fun i wr => ∃ k : Nat, k ≤ n ∧ i = .int .i64 k ∧ wk.grownBy wr none) (fun i _ => n - (intOf i).toNat)
    case atStart => exact ⟨0, Nat.zero_le _, rfl, hg7⟩
    case round =>
      obtain ⟨k, hk, rfl, hgr⟩ := hrel
      by_cases hlt : k < n
      · have Gr := grown_trans G2k hgr
        obtain ⟨bb, bo, rfl, hcell, hLC, hCm, hO, hS⟩ := (HM.out.keep (grown_trans G2 Gr)).at hlt
        have t1 : (k : Int) < (n : Int) := by omega
        obtain ⟨m, hm⟩ : ∃ m, min (L k) 2000 = m := ⟨_, rfl⟩
        have hm1 : m ≤ 2000 := by omega
        have hm2 : m ≤ L k := by omega
        have hm3 : m ≤ C k := by omega
        have HSm : Hid (Src wr .u8 (A k) m (G k)) := fun h => by
          obtain ⟨b, off, e, hr⟩ := hS (by omega)
          exact ⟨b, off, e, fun i hi => hr i (by omega)⟩
        have HO' : Hid (Oct (G k)) := hO
        have HB' : Hid (Src wr .u8 (some ⟨B6, 0, none⟩) N K) := HOwn.out.keep hgr
        clear hS hO
        by_cases h2 : L k ≤ 2000
        · have t2 : ¬ ((2000 : Int) < (L k : Int)) := by omega
          obtain rfl : m = L k := by omega
          go_wp2_with (first | (go_at_call 19; refine (HEx.out B6 cap6 _ _ _ _ _ hcp6 HB'.out hm1 hm3 HO'.out HSm.out).mono ?_; rintro e w8 ⟨⟨cst, rfl, hcst⟩, hg8⟩; have t5 : ¬ ((16 * (j : Int) + 16) < (cst : Int)) := (by omega)) | (go_at_call 14; refine (HRn.out _ _ _ _ _ (grown_trans hg2 (grown_trans Gr hg8)) hm1 hm3 HO'.out (HSm.out.keep hg8)).mono ?_; rintro e w9 ⟨rfl, hg9⟩))
          go_roundw
          case rel => exact ⟨k + 1, by omega, by go_num, grown_trans (grown_trans hgr hg8) hg9⟩
          case measure => simp [intOf]; omega
        · have t2 : (2000 : Int) < (L k : Int) := by omega
          have t3 : (2000 : Int) ≤ (C k : Int) := by omega
          obtain rfl : m = 2000 := by omega
          go_wp2_with (first | (go_at_call 19; refine (HEx.out B6 cap6 _ _ _ _ _ hcp6 HB'.out hm1 hm3 HO'.out HSm.out).mono ?_; rintro e w8 ⟨⟨cst, rfl, hcst⟩, hg8⟩; have t5 : ¬ ((16 * (j : Int) + 16) < (cst : Int)) := (by omega)) | (go_at_call 14; refine (HRn.out _ _ _ _ _ (grown_trans hg2 (grown_trans Gr hg8)) hm1 hm3 HO'.out (HSm.out.keep hg8)).mono ?_; rintro e w9 ⟨rfl, hg9⟩))
          go_roundw
          case rel => exact ⟨k + 1, by omega, by go_num, grown_trans (grown_trans hgr hg8) hg9⟩
          case measure => simp [intOf]; omega
      · have hke : k = n := by omega
        subst hke
        have Gr := grown_trans G2k hgr
        have hBr := HBk.out.grow hgr hgr.size (A' := A') (fun k h => h) (fun k h => Or.inl h)
        have HOr := HOwn.out.keep hgr
        obtain ⟨wl, hwl⟩ : ∃ x, x = wr := ⟨_, rfl⟩
        subst hwl
        go_wp2_with (first | (go_at_call 16; refine (HCm.out _ Gr).mono ?_; rintro e w8 ⟨Bc, capc, rfl, hoc, hg8⟩; obtain ⟨hBc, _, _⟩ := owns_blk hoc; have hSc := blk_src hBc; rw [show (fun i => X.getD i 0) = K from funext fun i => (HK.out i).symm] at hSc) | (go_at_call 20; refine (same_any _ _ N _ _ K _ (by omega) hSc (HOr.keep hg8)).mono ?_; rintro e w9 ⟨rfl, hg9⟩; have hB9 := hBr.grow (grown_trans hg8 hg9) (grown_trans hg8 hg9).size (A' := A') (fun k h => h) (fun k h => Or.inl h)) | (go_at_call 21; refine (bkept_any _ A' _ (0 + 1) _ (by omega) hB9).mono ?_; rintro e w10 ⟨rfl, hg10⟩))
        go_ret
        exact ⟨rfl, grown_trans G2 (grown_trans (grown_trans (grown_trans Gr hg8) hg9) hg10)⟩
  · have HO : Hid (¬ Chk g m 0 0) := hok
    clear hok
    go_wp2_with (first | (go_at_call 16; refine (gcompile_no _ m (m + 4) g tb pb _ (by omega) (by omega) hoct (src_pad' hb3) (HL.out.keep G3) HO.out).mono ?_; rintro e w4 ⟨E, k, rfl, hE, hC, hg4⟩) | (go_at_call 17; refine (rcheck_any ao m c g _ (by omega) hoct (hs3.keep hg4)).mono ?_; rintro e w5 ⟨E', k', rfl, hC', hg5⟩; obtain ⟨rfl, rfl⟩ := hC.one hC'; have t1 : (E != 0) = true := (by simpa using hE)))
    go_ret
    exact ⟨rfl, grown_trans (grown_trans G3 hg4) hg5⟩
end Go.Proofs.YthbcfepbkkbjiaaGreatDoor
