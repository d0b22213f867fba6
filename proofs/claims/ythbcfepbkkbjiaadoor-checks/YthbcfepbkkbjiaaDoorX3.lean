/- The walk of the statements' filter: bytes of some filter. -/
import Derived.Test.YthbcfepbkkbjiaaDoorX2
namespace Go.Proofs.YthbcfepbkkbjiaaDoor
open Go.RowKit
attribute [local go_sem ↓] Go.wp_at_zero Go.wp_at_succ

def ins4 (f : Nat → Int) (L : Nat) (a b c d : Int) : Nat → Int := fun j => if j < L * 4 then f j else ([a, b, c, d] : List Int).getD (j - L * 4) 0

theorem ins4_fun (f : Nat → Int) (L : Nat) (a b c d : Int) (j : Nat) (hj : j < (L + 1) * 4) : (if j < L * 4 then ints .i64 f j else #[Value.int .i64 a, .int .i64 b, .int .i64 c, .int .i64 d].getD (j - L * 4) .nilFunc) = ints .i64 (ins4 f L a b c d) j := by
  unfold ints ins4
  by_cases h : j < L * 4
  · rw [if_pos h, if_pos h]
  · rw [if_neg h, if_neg h]
    obtain ⟨i, hi⟩ : ∃ i, j - L * 4 = i := ⟨_, rfl⟩
    rw [hi]
    have : i < 4 := by omega
    match i, this with
    | 0, _ => rfl
    | 1, _ => rfl
    | 2, _ => rfl
    | 3, _ => rfl

set_option maxRecDepth 100000 in
set_option maxHeartbeats 1000000 in
theorem filter_raw (lo : Option Addr) (ln lc : Nat) (q : Nat → Int) (w : World) (hln : ln ≤ 4398046511000) (hl : SrcI w lo ln q) :
    Calls Tryd.prog 5 #[.agg #[.slice lo ln lc, .bool false]] w fun e w' => ∃ (ao : Option Addr) (m c : Nat) (g : Nat → Int), e = .returned (.slice ao m c) ∧ Oct g ∧ m ≤ 8 * ln ∧ Src w' .u8 ao m g ∧ w.grownBy w' none := by
  go_enter Tryd.func5, Tryd.ntmps5
  go_wp2_with (go_at_call 13; refine (rencode_all _ _ _ q _ (by omega) (hl.keep (World.grownBy_alloc w _ none))).mono ?_; rintro e w1 ⟨d, dc, rfl, hd, hg1⟩)
  go_ret
  exact ⟨d, _, dc, encs q, rfl, encs_oct q, Nat.le_refl _, hd, grown_trans (grown_alloc (grown_refl w none) _) hg1⟩

theorem out_srcI {w : World} {base : Nat} {e : TypeId} {ao : Option Addr} {n cap : Nat} {f : Nat → Int} (h : Out w base e 4 (.slice ao n cap) n (ints .i64 f)) : SrcI w ao n f := fun hp => by
  obtain ⟨ao', cap', h1, h2⟩ := h
  cases h1
  rcases h2 with ⟨_, h0, _⟩ | ⟨B, rfl, _, hb, _⟩
  · omega
  · exact ⟨B, 0, rfl, fun j hj => by rw [Nat.zero_add]; exact hb.cell (by omega)⟩

theorem fit_at (a b c d nI : Int) (w : World) (ha : I64 a) (hb : I64 b) (hc : I64 c) (hd : I64 d) (hn : 1 ≤ nI) (hn2 : nI ≤ 200) :
    Calls Tryd.prog 14 #[.agg #[.int .i64 a, .int .i64 b, .int .i64 c, .int .i64 d], .int .i64 nI] w fun e w' => (∃ a b c d : Int, e = .returned (.agg #[.int .i64 a, .int .i64 b, .int .i64 c, .int .i64 d])) ∧ w.grownBy w' none := by
  obtain ⟨n, rfl⟩ := Int.eq_ofNat_of_zero_le (show 0 ≤ nI by omega)
  exact fit_any a b c d n w ha hb hc hd (by omega) (by omega)

set_option maxRecDepth 100000 in
set_option maxHeartbeats 4000000 in
theorem filter_fit (lo : Option Addr) (ln lc : Nat) (q : Nat → Int) (w : World) (hln : ln ≤ 4398046511000) (hl : SrcI w lo ln q) (hi64 : ∀ j, j < 4 * ln → I64 (q j)) :
    Calls Tryd.prog 5 #[.agg #[.slice lo ln lc, .bool true]] w fun e w' => ∃ (ao : Option Addr) (m c : Nat) (g : Nat → Int), e = .returned (.slice ao m c) ∧ Oct g ∧ m ≤ 1640 ∧ Src w' .u8 ao m g ∧ w.grownBy w' none := by
  obtain ⟨i0, hi, hz0, hz1, hz2⟩ := info_parts Tryd.infoInsn
  obtain ⟨W0, hW0⟩ : ∃ W0, W0 = w.alloc (.cells #[.slice lo ln lc, .bool true] 24) := ⟨_, rfl⟩
  have GW : w.grownBy W0 none := by rw [hW0]; exact World.grownBy_alloc w _ none
  have SW : W0.heap.size = w.heap.size + 1 := by rw [hW0]; simp
  have B0 : W0.cell? ⟨w.heap.size, 0, none⟩ = some (.slice lo ln lc) := by rw [hW0]; exact World.cell?_alloc_new _ _ _ _
  have HW : Hid (W0 = w.alloc (.cells #[.slice lo ln lc, .bool true] 24)) := hW0
  clear hW0
  go_enter Tryd.func5, Tryd.ntmps5
  go_wp2
  rw [← HW.out]
  go_loopw [3, 4] (fun v i wr => ∃ (k : Nat) (f : Nat → Int), k ≤ 4 ∧ i = .int .i64 k ∧ W0.grownBy wr none ∧ Out wr W0.heap.size 44 4 v k (ints .i64 f)) (fun _ i _ => 4 - (intOf i).toNat)
  case atStart => exact ⟨0, fun _ => 0, by omega, rfl, grown_refl _ _, out_nil _ _ _ _ _⟩
  case round =>
    obtain ⟨k, f, hk, rfl, hgr, ho⟩ := hrel
    by_cases hlt : k < 4
    · go_wp2_with (at_builtin; refine wpList_append_out _ W0 rfl (.tmp 18) (.tmp 21) 22 rfl 44 i0 _ 4 32 Tryd.underlying22 hi hz0 hz1 hz2 rfl (by decide) _ _ _ rfl (ho.alloc _) (grown_alloc hgr _) _ 1 1 _ _ rfl (heap_top _ _ _ (by simp)) rfl (by simp [Value.oneCell']) (by decide) (by unfold maxLen; omega) (by omega) ?_; intro g2 p2 w2 ho2 hg2 _)
      go_roundw
      case rel => exact ⟨k + 1, _, by omega, by go_num, hg2, ho2.congr fun j hj => ins4_fun f k _ _ _ _ j hj⟩
      case measure => simp [intOf]; omega
    · have hke : k = 4 := by omega
      subst hke
      have b0 := hgr.cell B0 (by simp)
      obtain ⟨wo, hwo⟩ : ∃ x, x = wr := ⟨_, rfl⟩
      subst hwo
      by_cases h200 : 200 < ln
      · have t1 : (200 : Int) < (ln : Int) := by omega
        go_wp2
        go_loopw [3, 6] (fun v i wr => ∃ (k : Nat) (f : Nat → Int), k ≤ 200 ∧ i = .int .i64 k ∧ W0.grownBy wr none ∧ Out wr W0.heap.size 44 4 v (4 + k) (ints .i64 f)) (fun _ i _ => 200 - (intOf i).toNat)
        case atStart => exact ⟨0, f, by omega, rfl, hgr, ho⟩
        case round =>
          clear hgr ho b0
          obtain ⟨k, f, hk, rfl, hgr, ho⟩ := hrel
          have b0 := hgr.cell B0 (by simp)
          by_cases hlt : k < 200
          · obtain ⟨Y, yoff, rfl, hR⟩ := (hl.keep (grown_trans GW hgr)) (by omega)
            obtain ⟨c0, c1, c2, c3⟩ := hR.insn (show k < ln by omega)
            have j0 := hi64 (4 * k) (by omega)
            have j1 := hi64 (4 * k + 1) (by omega)
            have j2 := hi64 (4 * k + 2) (by omega)
            have j3 := hi64 (4 * k + 3) (by omega)
            clear hR
            go_wp2_with (first | (go_at_call 14; refine (fit_at _ _ _ _ _ _ j0 j1 j2 j3 (by omega) (by omega)).mono ?_; rintro e w2 ⟨⟨fa, fb, fc, fd, rfl⟩, hg2⟩; have ho2 := (ho.keep hg2 (by simp)).alloc (.cells #[.int .i64 fa, .int .i64 fb, .int .i64 fc, .int .i64 fd] 44); have G2 := grown_alloc (grown_trans hgr hg2) (.cells #[.int .i64 fa, .int .i64 fb, .int .i64 fc, .int .i64 fd] 44)) | (at_builtin; refine wpList_append_out _ W0 rfl (.tmp 42) (.tmp 44) 22 rfl 44 i0 _ 4 32 Tryd.underlying22 hi hz0 hz1 hz2 rfl (by decide) _ _ _ rfl (ho2.alloc _) (grown_alloc G2 _) _ 1 1 _ _ rfl (heap_top _ _ _ (by simp)) rfl (by simp [Value.oneCell']) (by decide) (by unfold maxLen; omega) (by omega) ?_; intro g3 p3 w3 ho3 hg3 _))
            go_roundw
            case rel => exact ⟨_, _, _, _, _, _, _, _, _, _, _, _, _, _, _, _, _, _, _, _, _, ⟨k + 1, _, by omega, by go_num, hg3, ho3.congr fun j hj => ins4_fun f (4 + k) _ _ _ _ j hj⟩, rfl⟩
            case measure => simp [intOf]; omega
          · go_wp2_with (first | (at_builtin; refine wpList_append_out _ W0 rfl (.tmp 46) (.tmp 48) 22 rfl 44 i0 _ 4 32 Tryd.underlying22 hi hz0 hz1 hz2 rfl (by decide) _ _ _ rfl (ho.alloc _) (grown_alloc hgr _) _ 1 1 _ _ rfl (heap_top _ _ _ (by simp)) rfl (by simp [Value.oneCell']) (by decide) (by unfold maxLen; omega) (by omega) ?_; intro g3 p3 w3 ho3 hg3 _; have hS3 := out_srcI (ho3.congr fun j hj => ins4_fun f (4 + k) _ _ _ _ j hj)) | (go_at_call 13; refine (rencode_all _ _ _ _ _ (by omega) hS3).mono ?_; rintro e w4 ⟨dd, dc, rfl, hd, hg4⟩))
            go_ret
            exact ⟨dd, _, dc, _, rfl, encs_oct _, by omega, hd, grown_trans (grown_trans GW hg3) hg4⟩
      · have t1 : ¬ (200 : Int) < (ln : Int) := by omega
        go_wp2
        go_loopw [3, 6] (fun v i wr => ∃ (k : Nat) (f : Nat → Int), k ≤ ln ∧ i = .int .i64 k ∧ W0.grownBy wr none ∧ Out wr W0.heap.size 44 4 v (4 + k) (ints .i64 f)) (fun _ i _ => ln - (intOf i).toNat)
        case atStart => exact ⟨0, f, by omega, rfl, hgr, ho⟩
        case round =>
          clear hgr ho b0
          obtain ⟨k, f, hk, rfl, hgr, ho⟩ := hrel
          have b0 := hgr.cell B0 (by simp)
          by_cases hlt : k < ln
          · obtain ⟨Y, yoff, rfl, hR⟩ := (hl.keep (grown_trans GW hgr)) (by omega)
            obtain ⟨c0, c1, c2, c3⟩ := hR.insn (show k < ln by omega)
            have j0 := hi64 (4 * k) (by omega)
            have j1 := hi64 (4 * k + 1) (by omega)
            have j2 := hi64 (4 * k + 2) (by omega)
            have j3 := hi64 (4 * k + 3) (by omega)
            clear hR
            go_wp2_with (first | (go_at_call 14; refine (fit_at _ _ _ _ _ _ j0 j1 j2 j3 (by omega) (by omega)).mono ?_; rintro e w2 ⟨⟨fa, fb, fc, fd, rfl⟩, hg2⟩; have ho2 := (ho.keep hg2 (by simp)).alloc (.cells #[.int .i64 fa, .int .i64 fb, .int .i64 fc, .int .i64 fd] 44); have G2 := grown_alloc (grown_trans hgr hg2) (.cells #[.int .i64 fa, .int .i64 fb, .int .i64 fc, .int .i64 fd] 44)) | (at_builtin; refine wpList_append_out _ W0 rfl (.tmp 42) (.tmp 44) 22 rfl 44 i0 _ 4 32 Tryd.underlying22 hi hz0 hz1 hz2 rfl (by decide) _ _ _ rfl (ho2.alloc _) (grown_alloc G2 _) _ 1 1 _ _ rfl (heap_top _ _ _ (by simp)) rfl (by simp [Value.oneCell']) (by decide) (by unfold maxLen; omega) (by omega) ?_; intro g3 p3 w3 ho3 hg3 _))
            go_roundw
            case rel => exact ⟨k + 1, _, by omega, by go_num, hg3, ho3.congr fun j hj => ins4_fun f (4 + k) _ _ _ _ j hj⟩
            case measure => simp [intOf]; omega
          · go_wp2_with (first | (at_builtin; refine wpList_append_out _ W0 rfl (.tmp 46) (.tmp 48) 22 rfl 44 i0 _ 4 32 Tryd.underlying22 hi hz0 hz1 hz2 rfl (by decide) _ _ _ rfl (ho.alloc _) (grown_alloc hgr _) _ 1 1 _ _ rfl (heap_top _ _ _ (by simp)) rfl (by simp [Value.oneCell']) (by decide) (by unfold maxLen; omega) (by omega) ?_; intro g3 p3 w3 ho3 hg3 _; have hS3 := out_srcI (ho3.congr fun j hj => ins4_fun f (4 + k) _ _ _ _ j hj)) | (go_at_call 13; refine (rencode_all _ _ _ _ _ (by omega) hS3).mono ?_; rintro e w4 ⟨dd, dc, rfl, hd, hg4⟩))
            go_ret
            exact ⟨dd, _, dc, _, rfl, encs_oct _, by omega, hd, grown_trans (grown_trans GW hg3) hg4⟩

theorem filter_any (lo : Option Addr) (ln lc : Nat) (fit : Bool) (q : Nat → Int) (w : World) (hln : ln ≤ 4398046511000) (hl : SrcI w lo ln q) (hi64 : ∀ j, j < 4 * ln → I64 (q j)) :
    Calls Tryd.prog 5 #[.agg #[.slice lo ln lc, .bool fit]] w fun e w' => ∃ (ao : Option Addr) (m c : Nat) (g : Nat → Int), e = .returned (.slice ao m c) ∧ Oct g ∧ m ≤ 8 * ln + 1640 ∧ Src w' .u8 ao m g ∧ w.grownBy w' none := by
  cases fit with
  | false =>
    refine (filter_raw lo ln lc q w hln hl).mono ?_
    rintro e w' ⟨ao, m, c, g, h1, h2, h3, h4⟩
    exact ⟨ao, m, c, g, h1, h2, by omega, h4⟩
  | true =>
    refine (filter_fit lo ln lc q w hln hl hi64).mono ?_
    rintro e w' ⟨ao, m, c, g, h1, h2, h3, h4⟩
    exact ⟨ao, m, c, g, h1, h2, by omega, h4⟩

end Go.Proofs.YthbcfepbkkbjiaaDoor
