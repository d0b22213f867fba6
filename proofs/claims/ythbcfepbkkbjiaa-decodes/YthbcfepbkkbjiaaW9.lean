/- The walk of the law Decodes. -/
import Derived.Test.YthbcfepbkkbjiaaW8
namespace Go.Proofs.Ythbcfepbkkbjiaa
open Go.RowKit
attribute [local go_sem ↓] Go.wp_at_zero Go.wp_at_succ

theorem books_new (w : World) : Books (w.alloc (.cells #[.slice none 0 0, .slice none 0 0] 27)) w.heap.size (fun k => k < w.heap.size) (w.alloc (.cells #[.slice none 0 0, .slice none 0 0] 27)).heap.size 0 := by
  refine ⟨none, none, 0, 0, fun _ => (none, 0, 0), fun _ => 0, (blk_new w _ _).congr fun j hj => ?_, by simp, Nat.lt_irrefl _, Or.inl ⟨rfl, rfl, rfl⟩, fun g h => (by cases h), Or.inl ⟨rfl, rfl, rfl⟩, fun g h => (by cases h), fun k h => by simp; omega, fun _ => (by show (0 : Int) ≤ 0 ∧ (0 : Int) ≤ 255; decide), fun i h => by omega⟩
  match j, hj with
  | 0, _ => rfl
  | 1, _ => rfl

set_option maxRecDepth 100000 in
set_option maxHeartbeats 4000000 in
theorem decodes_any (bo : Option Addr) (bn bc : Nat) (lo : Option Addr) (ln lc : Nat) (g q : Nat → Int) (w : World) (hbn : bn ≤ 140737488351232) (hln : ln ≤ 4398046511000) (hg : Oct g) (hb : Src w .u8 bo bn g) (hl : SrcI w lo ln q) :
    Calls Try.prog 3 #[.slice bo bn bc, .slice lo ln lc] w fun e w' => e = .returned (.bool true) ∧ Below w.heap.size w w' := by
  obtain ⟨i0, hi, hz0, hz1, hz2⟩ := info_parts Try.infoInsn
  have hml : bn ≤ maxLen := by unfold maxLen; omega
  go_enter Try.func3, Try.ntmps3
  go_wp2
  go_loopw [6, 7] (fun v i wr => ∃ (t : Nat) (A : Nat → Prop), t ≤ 2 ∧ i = .int .i64 t ∧ (∀ k, k < w.heap.size → A k) ∧ Books wr w.heap.size A wr.heap.size t ∧ Kept (fun k => k < w.heap.size) w wr ∧ (t = 0 → v = .slice none 0 0) ∧ (t = 1 → Lists wr A v (-1))) (fun _ i _ => 2 - (intOf i).toNat)
  case atStart => exact ⟨0, fun k => k < w.heap.size, by omega, rfl, fun k h => h, books_new w, kept_of_grown (World.grownBy_alloc w _ none) (fun _ _ => by simp), fun _ => rfl, fun h => by omega⟩
  case round =>
    obtain ⟨t, A, ht, rfl, hA, hB, hK, hv0, hv1⟩ := hrel
    by_cases hlt : t < 2
    · obtain ⟨w0, hw0⟩ : ∃ x, x = wr := ⟨_, rfl⟩
      subst hw0
      have hGw : w.grownBy w0 none := ⟨hK.os, hK.tape, hK.output, hK.size, fun k hk _ => hK.block k hk hk⟩
      have hb0 := hb.keep hGw
      have hl0 := hl.keep hGw
      go_wp2_with (first | (go_at_call 5; refine (bytes_any _ _ _ g _ (by omega) hb0).mono ?_; rintro e wa ⟨H, rfl, hH, ga, hba⟩) | (go_at_call 6; refine (gdecode_all H bn (bn + 4) g _ _ hml (by omega) hg hba).mono ?_; rintro e wb ⟨xo, xc, rfl, hx, hxf, gb⟩) | (go_at_call 7; refine (rdecode_all _ _ _ g _ hml hg ((hb0.keep ga).keep gb)).mono ?_; rintro e wc ⟨yo, yc, rfl, hy, gc⟩))
      go_loopw [13, 14] (fun v i wr => v = .bool true ∧ ∃ k : Nat, k ≤ decN bn ∧ i = .int .i64 k ∧ wc.grownBy wr none) (fun _ i _ => decN bn - (intOf i).toNat)
      case atStart => exact ⟨rfl, 0, Nat.zero_le _, rfl, grown_refl _ _⟩
      case round =>
        obtain ⟨rfl, k, hk, rfl, gd⟩ := hrel
        have hdn := decN_le bn
        by_cases hkl : k < decN bn
        · rcases (hx.keep gc (Or.inl rfl)).keep gd (Or.inl rfl) with ⟨_, h0, _⟩ | ⟨X, rfl, hbx, _⟩
          · omega
          obtain ⟨Y, yoff, rfl, hR⟩ := (hy.keep gd) (by omega)
          obtain ⟨a0, a1, a2, a3⟩ := hbx.insn hkl
          obtain ⟨b0, b1, b2, b3⟩ := hR.insn hkl
          have t1 : (k : Int) < (decN bn : Int) := by omega
          clear hbx hR hx hy hb hl hb0 hl0 hba hB hK hv0 hv1 hA
          go_wp2
          go_quiet (fail)
          go_wp2
          go_roundw
          case rel => exact ⟨rfl, k + 1, by omega, by go_num, grown_none gd (grown_drewN _ _ _)⟩
          case measure => simp [intOf]; omega
        · have hke : k = decN bn := by omega
          obtain ⟨wd, hwd⟩ : ∃ x, x = wr := ⟨_, rfl⟩
          subst hwd
          have hxd := (hx.keep gc (Or.inl rfl)).keep gd (Or.inl rfl)
          have Gd : w0.grownBy wd none := grown_trans (grown_trans (grown_trans ga gb) gc) gd
          have hxf' : ∀ k, own? xo = some k → w0.heap.size ≤ k := fun k h => Nat.le_trans ga.size (hxf k h)
          have hxl := hxd.lt
          have hxH : own? xo ≠ some H := fun e => by have := hxf H e; have := hba.lt; omega
          clear hxf hx hy
          go_wp2_with (first | (go_at_call 8; refine (taken_any _ _ _ _ _ _ hdn hxd).mono ?_; rintro e we ⟨now, rfl, hnow, ge⟩; have Ge := grown_own Gd ge hxf'; have hHe := (((hba.keep gb (by simp)).keep gc (by simp)).keep gd (by simp)).keep ge (fun e => hxH e.symm)) | (at_make; refine wpList_make_blk _ rfl _ _ 23 rfl 34 i0 (.agg #[.int .i64 0, .int .i64 0, .int .i64 0, .int .i64 0]) 4 Try.underlying23 hi hz0 hz1 _ _ _ _ (ln + 4) rfl rfl (by omega) (by omega) (by rw [hz2]; omega) (by unfold maxLen; omega) (.int .i64 0) zero4 ?_; intro wf hbf gf; have Gf := grown_trans Ge gf; obtain ⟨wg, hrun, hbg0, gg⟩ := run_copy_blk (P := Try.prog) wf 23 23 3 34 34 4 Try.underlying23 Try.sizeInsn we.heap.size (ln + 4) (ln + 4) ((ln + 4) * 4) ((ln + 4) * 4) _ hbf lo ln lc (by omega) (by omega) (ints .i64 q) (fun _ _ => rfl) (srcI_cells (hl0.keep Gf)); have hbg := hbg0.congr (f' := ints .i64 (inq q ln)) (fun j _ => inq_patch q ln j); clear hbg0; have Gg := grown_new none Gf gg Ge.size) | (go_at_call 9; refine (gencode_in _ _ _ _ q _ _ (by omega) hbg).mono ?_; rintro e wh ⟨CB, rfl, hCB, gh, hbc⟩; have Gh := grown_trans Gg gh) | (go_at_call 10; refine (rencode_all _ _ _ q _ (by omega) (hl0.keep Gh)).mono ?_; rintro e wi ⟨dd, dc, rfl, hd, gi⟩; have Gi := grown_trans Gh gi; have hbci := hbc.keep gi (by simp)) | (go_at_call 11; refine (same_any _ _ _ _ _ (encs q) _ (by omega) (src_of_blk hbci (Nat.le_refl _)) hd).mono ?_; rintro e wj ⟨rfl, gj⟩; have Gj := grown_trans Gi gj; have hbcj := hbci.keep gj (by simp)))
          have Gej : we.grownBy wj none := grown_trans (grown_trans (grown_trans (grown_new none gf gg (Nat.le_refl _)) gh) gi) gj
          have hHj := hHe.keep Gej (by simp)
          have hINj := ((hbg.keep gh (by simp)).keep gi (by simp)).keep gj (by simp)
          have z1 := Ge.size
          have z2 := Gej.size
          have z3 : we.heap.size < wg.heap.size := hbg.lt
          have z4 := (grown_trans (grown_trans gh gi) gj).size
          have z5 := Gd.size
          have z6 := hHe.lt
          have z7 := ga.size
          have z8 := ge.size
          have hset : ∀ k, (own? xo = some k ∨ (wd.heap.size ≤ k ∧ k < we.heap.size)) → w0.heap.size ≤ k ∧ k < wj.heap.size ∧ k ≠ CB := by
            intro k hk
            rcases hk with h | h
            · have a1 := hxf' k h
              have a2 := hxl k h
              exact ⟨a1, by omega, by omega⟩
            · exact ⟨by omega, by omega, by omega⟩
          have hnj := hnow.keep (w' := wj) (A' := fun k => w0.heap.size ≤ k ∧ k < wj.heap.size ∧ k ≠ CB) hset (fun k _ hk => Gej.block k hk (by simp))
          refine (take_mid hB Gj (by omega) hbcj (by unfold maxLen; omega) (by omega) (by omega)).mono ?_
          rintro e wk ⟨rfl, A', hA', hA1, hBk, hKk⟩
          have hGk : w.grownBy wk none := ⟨hKk.os.trans (Gj.os.trans hGw.os), hKk.tape.trans (Gj.tape.trans hGw.tape), hKk.output.trans (Gj.output.trans hGw.output), Nat.le_trans hGw.size (Nat.le_trans Gj.size hKk.size), fun k hk hr => (hKk.block k (Or.inl (hA k hk)) (Nat.lt_of_lt_of_le hk (Nat.le_trans hGw.size Gj.size))).trans ((Gj.block k (Nat.lt_of_lt_of_le hk hGw.size) (by simp)).trans (hGw.block k hk hr))⟩
          have hbk := hb.keep hGk
          have hlk := hl.keep hGk
          have hHk := hHj.same (hKk.block H (Or.inr ⟨by omega, by omega, by omega⟩) hHj.lt)
          have hINk := hINj.same (hKk.block we.heap.size (Or.inr ⟨by omega, by omega, by omega⟩) hINj.lt)
          have hnk := hnj.keep (w' := wk) (A' := A') (fun k h => hA1 k h.1 h.2.1 h.2.2) (fun k hk hl => hKk.block k (Or.inr hk) hl)
          have hfk : t = 1 → Lists wk A' u6 (-1) := fun e => ((hv1 e).keep (w' := wj) (A' := A) (fun k h => h) (fun k _ hk => Gj.block k hk (by simp))).keep hA' (fun k hk hl => hKk.block k (Or.inl hk) hl)
          clear hnj hHj hINj hHe hbcj hbci hbc hbg hbf hrun hd hnow hB hv1 hxd hba hb0 hl0 Gej Gj Gi Gh Gg Gf Ge Gd ga gb gc gd ge gf gg gh gi gj hKk
          go_wp2_with (first | (go_at_call 13; refine (kept_any _ _ _ _ _ g _ _ (by omega) (by omega) hHk hbk).mono ?_; rintro e wl ⟨rfl, gl⟩) | fail)
          have hGl := grown_trans hGk gl
          go_loopw [21] (fun i wr => ∃ k : Nat, k ≤ ln + 4 ∧ i = .int .i64 k ∧ wl.grownBy wr none) (fun i _ => ln + 4 - (intOf i).toNat)
          case atStart => exact ⟨0, Nat.zero_le _, rfl, grown_refl _ _⟩
          case round =>
            obtain ⟨j, hj, rfl, gm⟩ := hrel
            by_cases hjl : j < ln + 4
            · obtain ⟨a0, a1, a2, a3⟩ := ((hINk.keep gl (by simp)).keep gm (by simp)).insn hjl
              by_cases hjn : j < ln
              · obtain ⟨Y, yoff, rfl, hR⟩ := ((hlk.keep gl).keep gm) (by omega)
                obtain ⟨b0, b1, b2, b3⟩ := hR.insn hjn
                have t1 : (j : Int) < (ln : Int) := by omega
                have t2 : (j : Int) < (ln : Int) + 4 := by omega
                have t3 : decide (ln ≤ j) = false := by simp; omega
                rw [show inq q ln (4 * j) = q (4 * j) from if_pos (by omega)] at a0
                rw [show inq q ln (4 * j + 1) = q (4 * j + 1) from if_pos (by omega)] at a1
                rw [show inq q ln (4 * j + 2) = q (4 * j + 2) from if_pos (by omega)] at a2
                rw [show inq q ln (4 * j + 3) = q (4 * j + 3) from if_pos (by omega)] at a3
                clear hR hlk hINk hHk hbk hb hl hnk hfk hBk hK
                go_wp2
                go_quiet (fail)
                go_wp2
                go_roundw
                case rel => exact ⟨j + 1, by omega, by go_num, grown_none gm (grown_drewN _ _ _)⟩
                case measure => simp [intOf]; omega
              · have t1 : decide (j < ln) = false := by simp; omega
                have t2 : (j : Int) < (ln : Int) + 4 := by omega
                have t3 : decide (ln ≤ j) = true := by simp; omega
                have t4 : ln ≤ j := by omega
                rw [show inq q ln (4 * j) = 0 from if_neg (by omega)] at a0
                rw [show inq q ln (4 * j + 1) = 0 from if_neg (by omega)] at a1
                rw [show inq q ln (4 * j + 2) = 0 from if_neg (by omega)] at a2
                rw [show inq q ln (4 * j + 3) = 0 from if_neg (by omega)] at a3
                clear hlk hINk hHk hbk hb hl hnk hfk hBk hK hjn
                go_wp2
                go_quiet (fail)
                go_wp2
                go_roundw
                case rel => exact ⟨j + 1, by omega, by go_num, grown_none gm (grown_drewN _ _ _)⟩
                case measure => simp [intOf]; omega
            · obtain ⟨wm, hwm⟩ : ∃ x, x = wr := ⟨_, rfl⟩
              subst hwm
              have Gkm := grown_trans gl gm
              have hBm := hBk.grow Gkm Gkm.size (A' := A') (fun k h => h) (fun k h => Or.inl h)
              go_wp2_with (first | (go_at_call 14; refine (bkept_any _ A' _ (t + 1) _ (by omega) hBm).mono ?_; rintro e wn ⟨rfl, gn⟩; have Gkn := grown_trans Gkm gn; have hnn := hnk.keep (w' := wn) (A' := A') (fun k h => h) (fun k _ hk => Gkn.block k hk (by simp)); have hfn : t = 1 → Lists wn A' u6 (-1) := fun e => (hfk e).keep (w' := wn) (A' := A') (fun k h => h) (fun k _ hk => Gkn.block k hk (by simp))) | fail)
              refine (read_lists A' now _ _ hnn).mono ?_
              rintro e wo ⟨rfl, rfl⟩
              go_wp2_with (fail)
              refine (read_first t A' _ _ hlt hv0 hfn).mono ?_
              rintro e wo ⟨rfl, rfl⟩
              go_wp2_with (fail)
              have hKw := kept_of_grown (A := fun k => k < w.heap.size) (grown_trans hGk Gkn) (fun _ _ => by simp)
              have hBn := hBm.grow gn gn.size (A' := A') (fun k h => h) (fun k h => Or.inl h)
              go_roundw
              case rel => exact ⟨t + 1, A', by omega, by go_num, fun k hk => hA' k (hA k hk), hBn, hKw, fun e => by omega, fun e => by
                have e0 : t = 0 := by omega
                subst e0
                exact hnn⟩
              case measure => simp [intOf]; omega
    · go_wp2
      go_ret
      exact ⟨rfl, hK.os, hK.tape, hK.output, hK.size, fun k hk => hK.block k hk hk⟩

end Go.Proofs.Ythbcfepbkkbjiaa
