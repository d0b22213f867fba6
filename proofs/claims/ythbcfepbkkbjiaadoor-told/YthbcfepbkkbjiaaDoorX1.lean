/- The walks of the statements' filters: pick, Codes, fit. -/
import Derived.Test.YthbcfepbkkbjiaaDoorV4
import Derived.Test.YthbcfepbkkbjiaaDoorU
import Derived.Deep.RegionHeld3
import Derived.Deep.DrawnRows
namespace Go.Proofs.YthbcfepbkkbjiaaDoor
open Go.RowKit
attribute [local go_sem ↓] Go.wp_at_zero Go.wp_at_succ

/-- what an int can hold -/
def I64 (c : Int) : Prop := -9223372036854775808 ≤ c ∧ c ≤ 9223372036854775807

theorem ret_int' {k : IntKind} {a b : Int} (h : a = b) : Ending.returned (.int k a) = .returned (.int k b) := by rw [h]

theorem codes_fun (f : Nat → Int) (L k j : Nat) (hj : j < (L + 1) * 1) : (if j < L * 1 then ints .i64 f j else #[Value.int .i64 (k : Int)].getD (j - L * 1) .nilFunc) = ints .i64 (fun j => if j < L then f j else (k : Int)) j := by
  unfold ints
  by_cases h : j < L
  · rw [if_pos (by omega)]; simp [h]
  · rw [if_neg (by omega), show j - L * 1 = 0 by omega]; simp [h]

theorem pick_any (c n : Int) (w : World) (hc : I64 c) (hn : 1 ≤ n) (hn2 : n ≤ 4294967296) :
    Calls Tryd.prog 27 #[.int .i64 c, .int .i64 n] w fun e w' => (∃ r : Nat, e = .returned (.int .i64 (r : Int)) ∧ (r : Int) < n) ∧ w' = w := by
  obtain ⟨h1, h2⟩ := hc
  by_cases h0 : c < 0
  · go_enter Tryd.func27, Tryd.ntmps27
    go_wp2
    go_ret
    have a1 := Int.emod_nonneg (-(c + 1)) (show n ≠ 0 by omega)
    have a2 := Int.emod_lt_of_pos (-(c + 1)) (show 0 < n by omega)
    have a3 : -((c + 1).tmod n) = -(c + 1) % n := by rw [← Int.neg_tmod, Int.tmod_eq_emod_of_nonneg (by omega)]
    exact ⟨⟨(-(c + 1) % n).toNat, ret_int' (by omega), by omega⟩, rfl⟩
  · go_enter Tryd.func27, Tryd.ntmps27
    go_wp2
    go_ret
    have a1 := Int.emod_nonneg c (show n ≠ 0 by omega)
    have a2 := Int.emod_lt_of_pos c (show 0 < n by omega)
    exact ⟨⟨(c % n).toNat, ret_int' (by omega), by omega⟩, rfl⟩

theorem Tryd.infoInt : (Tryd.prog.info? 3).map (fun i => (i.zero, i.size, i.bytes)) = some (some (.int .i64 0), 1, 8) := by kernel_rfl

set_option maxRecDepth 100000 in
set_option maxHeartbeats 1000000 in
theorem codes_any (w : World) :
    Calls Tryd.prog 26 #[] w fun e w' => ∃ (ao : Option Addr) (L cc : Nat) (f : Nat → Int), e = .returned (.slice ao L cc) ∧ 1 ≤ L ∧ L ≤ 256 ∧ Src w' .i64 ao L f ∧ w.grownBy w' none := by
  obtain ⟨i0, hi, hz0, hz1, hz2⟩ := info_parts Tryd.infoInt
  go_enter Tryd.func26, Tryd.ntmps26
  go_wp2
  go_loopw [1, 2] (fun v i wr => ∃ (k L : Nat) (f : Nat → Int), k ≤ 256 ∧ i = .int .i64 k ∧ L ≤ k ∧ (0 < k → 1 ≤ L) ∧ w.grownBy wr none ∧ Out wr w.heap.size 3 1 v L (ints .i64 f)) (fun _ i _ => 256 - (intOf i).toNat)
  case atStart => exact ⟨0, 0, fun _ => 0, by omega, rfl, by omega, by omega, grown_refl _ _, out_nil _ _ _ _ _⟩
  case round =>
    obtain ⟨k, L, f, hk, rfl, hL, hL1, hgr, ho⟩ := hrel
    by_cases hlt : k < 256
    · cases hok : okk (k : Int) with
      | false =>
        have hk0 : 0 < k := by
          by_cases e : k = 0
          · subst e; cases hok
          · omega
        go_wp2_with (go_at_call 17; refine (kind_at _ _).mono ?_; rintro e w1 ⟨rfl, hg1⟩)
        go_roundw
        case rel => exact ⟨k + 1, L, f, by omega, by go_num, by omega, fun _ => hL1 hk0, grown_alloc (grown_trans hgr hg1) _, (ho.keep hg1 (by simp)).alloc _⟩
        case measure => simp [intOf]; omega
      | true =>
        go_wp2_with (first | (go_at_call 17; refine (kind_at _ _).mono ?_; rintro e w1 ⟨rfl, hg1⟩; have G1 := grown_alloc (grown_trans hgr hg1) (.cells #[.int .i64 (kd (k : Int)).code, .int .i64 (kd (k : Int)).kind, .int .i64 (kd (k : Int)).n, .bool (kd (k : Int)).x, .int .i64 (kd (k : Int)).o] 50); have ho1 := (ho.keep hg1 (by simp)).alloc (.cells #[.int .i64 (kd (k : Int)).code, .int .i64 (kd (k : Int)).kind, .int .i64 (kd (k : Int)).n, .bool (kd (k : Int)).x, .int .i64 (kd (k : Int)).o] 50)) | (at_builtin; refine wpList_append_out _ w rfl (.tmp 15) (.tmp 17) 71 rfl 3 i0 (.int .i64 0) 1 8 Tryd.underlying71 hi hz0 hz1 hz2 rfl (by decide) _ _ _ rfl (ho1.alloc _) (grown_alloc G1 _) _ 1 1 _ _ rfl (heap_top _ _ _ (by simp)) rfl (by simp [Value.oneCell']) (by decide) (by unfold maxLen; omega) (by omega) ?_; intro g2 p2 w2 ho2 hg2 _))
        go_roundw
        case rel => exact ⟨k + 1, L + 1, fun j => if j < L then f j else (k : Int), by omega, by go_num, by omega, fun _ => by omega, hg2, ho2.congr fun j hj => codes_fun f L k j hj⟩
        case measure => simp [intOf]; omega
    · have hke : k = 256 := by omega
      subst hke
      go_wp2
      go_ret
      obtain ⟨ao, cc, rfl, h2⟩ := ho
      refine ⟨ao, L, cc, f, rfl, hL1 (by omega), hL, fun hp => ?_, hgr⟩
      rcases h2 with ⟨_, h0, _⟩ | ⟨B, rfl, _, hb, _⟩
      · omega
      · exact ⟨B, 0, rfl, fun j hj => by rw [Nat.zero_add]; exact hb.cell (by omega)⟩

end Go.Proofs.YthbcfepbkkbjiaaDoor
