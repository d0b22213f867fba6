/- The walk of package check's checkCells. -/
import Derived.Test.YthbcfepbkkbjiaaDoorZ7
namespace Go.Proofs.YthbcfepbkkbjiaaDoor
open Go.RowKit
set_option linter.unusedVariables false

theorem wm_W0 : wm W0 = fun D => if D = 0 then some (.int .u16 0) else none := by
  funext D
  unfold wm W0
  by_cases h : D = 0 <;> simp [h]

theorem cell_small {q : Nat → Int} {n k : Nat} (hq : Num q) (hok : wrong q n k = 0) (hk : (kd (q (4 * k))).kind = 3 ∨ (kd (q (4 * k))).kind = 6) : ∃ K : Nat, K < 16 ∧ q (4 * k + 3) = (K : Int) := by
  obtain ⟨_, _, _, a4, a5, _⟩ := cls_kind (q (4 * k))
  have z3 := hq (4 * k + 3)
  have := (wrong_cls q n k).2.2.2.1 (hk.imp a4.2 a5.2)
  rw [hok] at this
  by_cases h : 16 ≤ q (4 * k + 3)
  · rw [if_pos h] at this; omega
  · exact ⟨(q (4 * k + 3)).toNat, by omega, by omega⟩

theorem cell_at (K T : Nat) (w : World) (hK : K < 16) (hT : T = 2 ^ K) : Calls Tryd.prog 46 #[.int .i64 K] w fun e w' => e = .returned (.int .u16 (T : Int)) ∧ w' = w := by
  subst hT
  exact cell_any K w hK

theorem two_lt {K : Nat} (h : K < 16) : 2 ^ K < 65536 := by
  have := Nat.pow_lt_pow_right (show 1 < 2 by omega) h
  simpa using this

theorem IMap.no_cell {w : World} {b o : Nat} {f : Int → Option Value} {v : Value} (h : IMap w b f) (hc : w.cell? ⟨b, o, none⟩ = some v) : False := by
  obtain ⟨es, clock, h1, _⟩ := h
  simp [World.cell?, h1] at hc

theorem no_bad_yet (q : Nat → Int) : Hid (∀ j, j < 0 → ¬ bad q j) := fun j hj => by omega

set_option maxRecDepth 100000 in
set_option maxHeartbeats 2000000 in
theorem checkCells_any (R B n cap MB : Nat) (tb : TypeId) (pb : Value) (q : Nat → Int) (w : World) (hn : n ≤ 1000000) (hq : Num q) (hok : ∀ j, j < n → wrong q n j = 0) (h : RowS w R B n cap MB (.iface tb pb) q) (ht : Tab w) :
    Calls Tryd.prog 36 #[.pointer (some ⟨R, 0, none⟩)] w fun e w' => ErrS w w' e (∀ j, j < n → ¬ bad q j) (fun k c => k < n ∧ bad q k ∧ (∀ j, j < k → ¬ bad q j) ∧ c = 8) (.iface tb pb) ∧ w.grownBy w' none := by
  obtain ⟨r0, _, _⟩ := h.cells
  have hR : R < w.heap.size := (Array.getElem?_eq_some_iff.1 h.1).1
  have hmm := @run_makeMap Tryd.prog
  have h0 : IMap (w.alloc (.map #[] 0)) w.heap.size (fun _ => none) ∧ w.grownBy (w.alloc (.map #[] 0)) none := ⟨imap_new w, grown_alloc (grown_refl w none) (.map #[] 0)⟩
  go_enter Tryd.func36, Tryd.ntmps36
  go_wp2_with (refine wpList_put_own _ w rfl _ _ _ 114 rfl 3 112 Tryd.underlying114 Tryd.underlying3 w.heap.size _ _ _ _ rfl rfl rfl (by assumption) (Nat.le_refl _) ?_; clear h0; intro w0 h0; have r0' := h0.2.cell r0 (by simp))
  rw [← wm_W0] at h0
  clear r0 hmm
  go_loopw [17] (fun i wr => ∃ (k : Nat) (W : Int → Option Nat), k ≤ n ∧ i = .int .i64 k ∧ w.grownBy wr none ∧ IMap wr w.heap.size (wm W) ∧ Hid (Cov q k W) ∧ Hid (∀ j, j < k → ¬ bad q j)) (fun i _ => n - (intOf i).toNat)
  case atStart => exact ⟨0, W0, Nat.zero_le _, rfl, h0.2, h0.1, cov_zero q, no_bad_yet q⟩
  case round =>
    obtain ⟨k, W, hk, rfl, hgr, hm, hcov, hno⟩ := hrel
    clear r0' h0
    by_cases hlt : k < n
    · have hrow := h.keep hgr
      obtain ⟨c0, c1, c2, c3⟩ := hrow.2.1.insn hlt
      rw [Nat.zero_add] at c0 c1 c2 c3
      have hB : B < wr.heap.size := World.block_lt_of_cell? wr _ c3
      have hl : ∀ o, (Instr.lookup 114 (.map (some w.heap.size)) (.int .i64 k) true).run Tryd.prog (wr.alloc o) = .ok (.tuple #[(wm W k).getD (.int .u16 0), .bool (wm W k).isSome]) (wr.alloc o) := fun o =>
        (hm.keep (grown_alloc (grown_refl wr none) o) (by simp)).look (P := Tryd.prog) (t := 114) (k := 3) (e := 112) Tryd.underlying114 Tryd.underlying3 (Tryd.zeroCells _) k true
      have t1 : (k : Int) < (n : Int) := by omega
      have hokk := hok k hlt
      cases hW : W (k : Int) with
      | none =>
        have e0 : wm W k = none := by unfold wm; rw [hW]; rfl
        rw [e0] at hl
        have HC : Hid (Cov q (k + 1) W) := cov_skip hW hcov.out
        have HB : Hid (¬ bad q k) := fun b => by
          obtain ⟨K, k1, k2⟩ := cell_small hq hokk (Or.inl b.1)
          exact cov_skip_ok hW hcov.out (fun _ => ⟨k1, k2⟩) b
        clear hcov
        go_wp2
        go_roundw
        case rel => exact ⟨k + 1, W, by omega, by go_num, grown_alloc hgr _, hm.keep (grown_alloc (grown_refl wr none) _) (by simp), HC, fun j hj => by
          by_cases e : j = k
          · subst e; exact HB.out
          · exact hno.out j (by omega)⟩
        case measure => simp [intOf]; omega
      | some v =>
        have e0 : wm W k = some (.int .u16 (v : Int)) := by unfold wm; rw [hW]; rfl
        rw [e0] at hl
        obtain ⟨_, _, _, a4, a5, _⟩ := cls_kind (q (4 * k))
        have hv := hcov.out.1 _ _ hW
        by_cases hb : bad q k
        · obtain ⟨K, k1, k2⟩ := cell_small hq hokk (Or.inl hb.1)
          obtain ⟨T, hT⟩ : ∃ T, T = 2 ^ K := ⟨_, rfl⟩
          have hT16 : T < 65536 := by rw [hT]; exact Nat.pow_lt_pow_right (by omega) k1
          have t4 : (((kd (q (4 * k))).cls : Int) == 3) = true := by simp; have := a4.2 hb.1; omega
          have hz : v &&& T = 0 := by rw [hT]; exact (cov_read hW hcov.out hb.1 k1 k2).2 hb
          have hand := u16_and_nat v T hv hT16
          rw [hz] at hand
          rw [k2] at c3
          have HB : Hid (bad q k) := hb
          have HT : Hid (T = 2 ^ K) := hT
          clear hb hcov a4 a5 hT hz
          obtain ⟨wo, hwo⟩ : ∃ x, x = wr := ⟨_, rfl⟩
          subst hwo
          go_wp2_with (first | (go_at_call 44; refine (pkind_any R B n cap MB k _ q _ hlt hn (hrow.keep (grown_alloc (grown_refl _ none) _))).mono ?_; rintro e w1 ⟨rfl, hg1⟩; obtain ⟨x0, x1, x2, x3⟩ := box_four hg1 (by simp); have hz1 := alloc_lt hg1; have G1 := grown_trans (grown_alloc hgr _) hg1) | (go_at_call 46; refine (cell_at K T _ k1 HT.out).mono ?_; rintro e w2 ⟨rfl, rfl⟩) | (go_at_call 43; refine (fault_any R B n cap MB k 8 tb pb q _ (by omega) (h.keep G1) (ht.keep G1)).mono ?_; rintro e w3 ⟨F, rfl, hF, hlt3, hg3⟩))
          go_ret
          exact ⟨Or.inr ⟨F, k, 8, ⟨hlt, HB.out, hno.out, rfl⟩, rfl, hF, by have := G1.size; omega⟩, grown_trans G1 hg3⟩
        · have HN : Hid (∀ j, j < k + 1 → ¬ bad q j) := fun j hj => by
            by_cases e : j = k
            · subst e; exact hb
            · exact hno.out j (by omega)
          obtain ⟨v', HL, hc⟩ : ∃ v', Hid (Left q k v') ∧ ((∃ K T u : Nat, K < 16 ∧ Hid (T = 2 ^ K) ∧ q (4 * k + 3) = (K : Int) ∧ (((kd (q (4 * k))).cls : Int) == 3) = true ∧ bits .and .u16 (v : Int) (T : Int) = (u : Int) ∧ ((u : Int) == 0) = false ∧ v' = v) ∨
              (∃ K T : Nat, K < 16 ∧ Hid (T = 2 ^ K) ∧ q (4 * k + 3) = (K : Int) ∧ (((kd (q (4 * k))).cls : Int) == 3) = false ∧ (((kd (q (4 * k))).cls : Int) == 4) = true ∧ bits .or .u16 (v : Int) (T : Int) = (v' : Int)) ∨
              ((((kd (q (4 * k))).cls : Int) == 3) = false ∧ (((kd (q (4 * k))).cls : Int) == 4) = false ∧ v' = v)) := by
            by_cases k3 : (kd (q (4 * k))).kind = 3
            · obtain ⟨K, k1, k2⟩ := cell_small hq hokk (Or.inl k3)
              have hT16 : 2 ^ K < 65536 := two_lt k1
              refine ⟨v, left_same hW hcov.out (by omega), Or.inl ⟨K, 2 ^ K, v &&& 2 ^ K, k1, rfl, k2, by simp; have := a4.2 k3; omega, u16_and_nat v (2 ^ K) hv hT16, ?_, rfl⟩⟩
              have := fun e => hb ((cov_read hW hcov.out k3 k1 k2).1 e)
              rw [beq_eq_false_iff_ne]
              exact fun e => this (Int.ofNat.inj e)
            by_cases k6 : (kd (q (4 * k))).kind = 6
            · obtain ⟨K, k1, k2⟩ := cell_small hq hokk (Or.inr k6)
              have hT16 : 2 ^ K < 65536 := two_lt k1
              exact ⟨v ||| 2 ^ K, left_or hW hcov.out k6 k1 k2, Or.inr (Or.inl ⟨K, 2 ^ K, k1, rfl, k2, by simp; have := a5.2 k6; omega, by simp; have := a5.2 k6; omega, u16_or_nat v (2 ^ K) hv hT16⟩)⟩
            · exact ⟨v, left_same hW hcov.out k6, Or.inr (Or.inr ⟨by simp; intro e; exact k3 (a4.1 (by omega)), by simp; intro e; exact k6 (a5.1 (by omega)), rfl⟩)⟩
          have HL2 := nx_len q k
          have hv' : v' < 65536 := HL.out.1
          clear hb a4 a5 hno
          rcases hc with ⟨K, T, u, k1, HT, k2, t4, hand, hu, rfl⟩ | ⟨K, T, k1, HT, k2, t4, t5, hor⟩ | ⟨t4, t5, rfl⟩
          all_goals (try rw [k2] at c3)
          all_goals
            obtain ⟨wo, hwo⟩ : ∃ x, x = wr := ⟨_, rfl⟩
            subst hwo
            go_wp2_with (first | (go_at_call 44; refine (pkind_any R B n cap MB k _ q _ hlt hn (hrow.keep (grown_alloc (grown_refl _ none) _))).mono ?_; rintro e w1 ⟨rfl, hg1⟩; obtain ⟨x0, x1, x2, x3⟩ := box_four hg1 (by simp); have hz1 := alloc_lt hg1; have G1 := grown_trans (grown_alloc hgr _) hg1; have hm1 := hm.keep (grown_trans (grown_alloc (grown_refl _ none) _) hg1) (by simp)) | (go_at_call 46; refine (cell_at K T _ k1 HT.out).mono ?_; rintro e w2 ⟨rfl, rfl⟩) | (go_at_call 47; refine (pnext_any R B n cap MB k _ q _ hlt hn hq (h.keep G1)).mono ?_; rintro e w2 ⟨ao, cc, rfl, hs, hg2⟩; have hm2 := hm1.keep hg2 (by simp); have G2 := grown_trans G1 hg2))
            go_loopw [55] (fun i wr => ∃ (t : Nat) (Wt : Int → Option Nat), t ≤ (nx q k).length ∧ i = .int .i64 t ∧ w2.grownBy wr (some w.heap.size) ∧ w.grownBy wr none ∧ IMap wr w.heap.size (wm Wt) ∧ Hid (CovT q k v' t Wt)) (fun i _ => (nx q k).length - (intOf i).toNat)
            case atStart => exact ⟨0, W, Nat.zero_le _, rfl, grown_refl _ _, G2, hm2, covT_zero hcov.out⟩
            case round =>
              obtain ⟨t, Wt, htl, rfl, hgq, hgw, hmt, hct⟩ := hrel
              by_cases hlt2 : t < (nx q k).length
              · obtain ⟨Y, yoff, rfl, hRR⟩ := hs (by omega)
                obtain ⟨p, hp⟩ : ∃ p, p = (nx q k).getD t 0 := ⟨_, rfl⟩
                have hYne : Y ≠ w.heap.size := fun e => by
                  subst e
                  exact hm2.no_cell (hRR t hlt2)
                have cy : wr.cell? ⟨Y, yoff + t, none⟩ = some (.int .i64 p) := by rw [hp]; exact hgq.cell (hRR t hlt2) (by simpa using hYne)
                have HC : Hid (CovT q k v' (t + 1) (joined Wt p v')) := by rw [hp]; exact covT_succ hv' hct.out
                clear hRR hs hp c0 c1 c2 c3 x0 x1 x2 x3
                go_wp2_with (first | (go_at_call 48; refine (join_any w.heap.size p v' Wt _ hv' hct.out.1 hmt).mono ?_; rintro e w3 ⟨rfl, hm3, hg3⟩))
                go_roundw
                case rel => exact ⟨t + 1, joined Wt p v', by omega, by go_num, grown_trans hgq hg3, grown_new none hgw hg3 (Nat.le_refl _), hm3, HC⟩
                case measure => simp [intOf]; omega
              · have hte : t = (nx q k).length := by omega
                subst hte
                clear c0 c1 c2 c3 x0 x1 x2 x3
                go_wp2
                go_roundw
                case rel => exact ⟨k + 1, Wt, by omega, by go_num, hgw, hmt, covT_all HL.out hct.out, HN⟩
                case measure => simp [intOf]; omega
    · have hke : k = n := by omega
      subst hke
      go_wp2
      go_ret
      exact ⟨Or.inl ⟨hno.out, rfl⟩, hgr⟩

end Go.Proofs.YthbcfepbkkbjiaaDoor
