/- The walk of the reference's Check. -/
import Derived.Test.YthbcfepbkkbjiaaDoorV8
namespace Go.Proofs.YthbcfepbkkbjiaaDoor
open Go.RowKit

theorem rdecode_row (b off n c : Nat) (g : Nat → Int) (w : World) (hn : 1 ≤ n) (hn2 : n ≤ 256) (hg : Oct g) (h : Row w .u8 b off (8 * n) g) :
    Calls Tryd.prog 15 #[.slice (some ⟨b, off, none⟩) (8 * n) c] w fun e w' => ∃ B cap, e = .returned (.tuple #[.slice (some ⟨B, 0, none⟩) n cap, .int .i64 0]) ∧ w.grownBy w' none ∧ Row w' .i64 B 0 (4 * n) (decs g) := by
  refine (rdecode_good b off n c g w hn hn2 hg h).mono ?_
  rintro e w' ⟨v, rfl, hg1, ho⟩
  obtain ⟨yo, yc, rfl, ho⟩ := ho
  rcases ho with ⟨_, h0, _⟩ | ⟨B, rfl, _, hb, _⟩
  · omega
  · exact ⟨B, yc, rfl, hg1, fun j hj => by rw [Nat.zero_add]; exact hb.cell (by omega)⟩

set_option maxRecDepth 100000 in
set_option maxHeartbeats 2000000 in
theorem rcheck_good (b off n c : Nat) (g : Nat → Int) (w : World) (hn : 1 ≤ n) (hn2 : n ≤ 256) (hg : Oct g) (h : Row w .u8 b off (8 * n) g) :
    Calls Tryd.prog 8 #[.slice (some ⟨b, off, none⟩) (8 * n) c] w fun e w' => ∃ (E : Int) (p : Nat), e = .returned (.tuple #[.int .i64 E, .int .i64 p]) ∧ Spec (decs g) n E p ∧ w.grownBy w' none := by
  have hq := decs_num hg
  obtain ⟨q, hqe⟩ : ∃ q, q = decs g := ⟨_, rfl⟩
  rw [← hqe] at hq ⊢
  have HQ : Hid (q = decs g) := hqe
  clear hqe
  go_enter Tryd.func8, Tryd.ntmps8
  go_wp2_with (go_at_call 15; refine (rdecode_row _ _ _ _ g _ hn hn2 hg h).mono ?_; rintro e w1 ⟨B, cap, rfl, G1, hR⟩; rw [← HQ.out] at hR)
  clear h
  go_loopw [5, 6] (fun _ i wr => ∃ k : Nat, k ≤ n ∧ i = .int .i64 k ∧ w.grownBy wr none ∧ Row wr .i64 B 0 (4 * n) q ∧ Hid (∀ j, j < k → wrong q n j = 0)) (fun _ i _ => n - (intOf i).toNat)
  case atStart => exact ⟨0, by omega, rfl, G1, hR, fun j hj => by omega⟩
  case round =>
    clear hR G1
    obtain ⟨k, hk, rfl, hgr, hR, hno⟩ := hrel
    by_cases hlt : k < n
    · by_cases hw : wrong q n k = 0
      · have t1 : (wrong q n k != 0) = false := by simp [hw]
        have HW : Hid (wrong q n k = 0) := hw
        clear hw
        go_wp2_with (go_at_call 16; refine (wrong_any _ _ _ _ _ q _ hlt (by omega) hq hR).mono ?_; rintro e w2 ⟨rfl, hg2⟩)
        go_roundw
        case rel => exact ⟨k + 1, by omega, by go_num, grown_trans hgr hg2, hR.keep hg2 (by simp), fun j hj => by
          by_cases e : j = k
          · subst e; exact HW.out
          · exact hno.out j (by omega)⟩
        case measure => simp [intOf]; omega
      · have t1 : (wrong q n k != 0) = true := by simp [hw]
        have HW : Hid (wrong q n k ≠ 0) := hw
        clear hw
        go_wp2_with (go_at_call 16; refine (wrong_any _ _ _ _ _ q _ hlt (by omega) hq hR).mono ?_; rintro e w2 ⟨rfl, hg2⟩)
        go_ret2
        exact ⟨_, k, rfl, Or.inl ⟨hlt, HW.out, hno.out, rfl⟩, grown_trans hgr hg2⟩
    · have hke : k = n := by omega
      subst hke
      obtain ⟨wo, hwo⟩ : ∃ x, x = wr := ⟨_, rfl⟩
      subst hwo
      obtain ⟨c0, c1, c2, c3⟩ := hR.insn (show k - 1 < k by omega)
      rw [Nat.zero_add] at c0 c1 c2 c3
      have e1 : ((k - 1 : Nat) : Int) = (k : Int) - 1 := by omega
      by_cases hl : (kd (q (4 * (k - 1)))).kind = 12
      · have t1 : ((kd (q (4 * (k - 1)))).kind != 12) = false := by simp [hl]
        have HL : Hid ((kd (q (4 * (k - 1)))).kind = 12) := hl
        have hin : Hid (∀ i, i < k → ∀ t, t < (nx q i).length → 0 ≤ (nx q i).getD t 0 ∧ (nx q i).getD t 0 ≤ k) := nx_in hq hno.out
        clear hl
        go_wp2_with (go_at_call 17; refine (kind_at _ _).mono ?_; rintro e w2 ⟨rfl, hg2⟩)
        have G2 := grown_alloc (grown_trans hgr hg2) (.cells #[.int .i64 (kd (q (4 * (k - 1)))).code, .int .i64 (kd (q (4 * (k - 1)))).kind, .int .i64 (kd (q (4 * (k - 1)))).n, .bool (kd (q (4 * (k - 1)))).x, .int .i64 (kd (q (4 * (k - 1)))).o] 50)
        have R2 := (hR.keep hg2 (by simp)).alloc (.cells #[.int .i64 (kd (q (4 * (k - 1)))).code, .int .i64 (kd (q (4 * (k - 1)))).kind, .int .i64 (kd (q (4 * (k - 1)))).n, .bool (kd (q (4 * (k - 1)))).x, .int .i64 (kd (q (4 * (k - 1)))).o] 50)
        clear c0 c1 c2 c3 hR t1
        go_loopw [9] (fun i wr => ∃ j : Nat, j ≤ k ∧ i = .int .i64 j ∧ w.grownBy wr none ∧ Row wr .i64 B 0 (4 * k) q ∧ Hid (∀ i, i < j → ¬ bad q i)) (fun i _ => k - (intOf i).toNat)
        case atStart => exact ⟨0, by omega, rfl, G2, R2, fun i hi => by omega⟩
        case round =>
          clear G2 R2 hgr hg2
          obtain ⟨j, hj, rfl, hgr2, hR2, hnb⟩ := hrel
          by_cases hlt2 : j < k
          · obtain ⟨d0, d1, d2, d3⟩ := hR2.insn hlt2
            rw [Nat.zero_add] at d0 d1 d2 d3
            by_cases hk3 : (kd (q (4 * j))).kind = 3
            · have t3 : ((kd (q (4 * j))).kind == 3) = true := by simp [hk3]
              cases hth : there q (q (4 * j + 3)) j j with
              | false =>
                have HB : Hid (¬ bad q j) := fun hb => by rw [hb.2] at hth; cases hth
                clear hk3
                go_wp2_with (first | (go_at_call 17; refine (kind_at _ _).mono ?_; rintro e w3 ⟨rfl, hg3⟩; have c3' := hg3.cell d3 (by simp); have blt := World.block_lt_of_cell? w3 _ c3'; have G3 := grown_alloc (grown_trans hgr2 hg3) (.cells #[.int .i64 (kd (q (4 * j))).code, .int .i64 (kd (q (4 * j))).kind, .int .i64 (kd (q (4 * j))).n, .bool (kd (q (4 * j))).x, .int .i64 (kd (q (4 * j))).o] 50); have R3 := (hR2.keep hg3 (by simp)).alloc (.cells #[.int .i64 (kd (q (4 * j))).code, .int .i64 (kd (q (4 * j))).kind, .int .i64 (kd (q (4 * j))).n, .bool (kd (q (4 * j))).x, .int .i64 (kd (q (4 * j))).o] 50)) | (go_at_call 18; refine (unwritten_any _ _ _ _ _ _ q _ hlt2 (by omega) hq R3 hin.out).mono ?_; rintro e w4 ⟨rfl, hg4⟩))
                go_roundw
                case rel => exact ⟨j + 1, by omega, by go_num, grown_trans G3 hg4, R3.keep hg4 (by simp), fun i hi => by
                  by_cases e : i = j
                  · subst e; exact HB.out
                  · exact hnb.out i (by omega)⟩
                case measure => simp [intOf]; omega
              | true =>
                have HB : Hid (bad q j) := ⟨hk3, hth⟩
                clear hk3
                go_wp2_with (first | (go_at_call 17; refine (kind_at _ _).mono ?_; rintro e w3 ⟨rfl, hg3⟩; have c3' := hg3.cell d3 (by simp); have blt := World.block_lt_of_cell? w3 _ c3'; have G3 := grown_alloc (grown_trans hgr2 hg3) (.cells #[.int .i64 (kd (q (4 * j))).code, .int .i64 (kd (q (4 * j))).kind, .int .i64 (kd (q (4 * j))).n, .bool (kd (q (4 * j))).x, .int .i64 (kd (q (4 * j))).o] 50); have R3 := (hR2.keep hg3 (by simp)).alloc (.cells #[.int .i64 (kd (q (4 * j))).code, .int .i64 (kd (q (4 * j))).kind, .int .i64 (kd (q (4 * j))).n, .bool (kd (q (4 * j))).x, .int .i64 (kd (q (4 * j))).o] 50)) | (go_at_call 18; refine (unwritten_any _ _ _ _ _ _ q _ hlt2 (by omega) hq R3 hin.out).mono ?_; rintro e w4 ⟨rfl, hg4⟩))
                go_ret2
                exact ⟨8, j, rfl, Or.inr ⟨hno.out, Or.inr ⟨HL.out, Or.inl ⟨hlt2, HB.out, hnb.out, rfl⟩⟩⟩, grown_trans G3 hg4⟩
            · have t3 : ((kd (q (4 * j))).kind == 3) = false := by simp [hk3]
              have HB : Hid (¬ bad q j) := fun hb => hk3 hb.1
              clear hk3
              go_wp2_with (first | (go_at_call 17; refine (kind_at _ _).mono ?_; rintro e w3 ⟨rfl, hg3⟩; have c3' := hg3.cell d3 (by simp); have blt := World.block_lt_of_cell? w3 _ c3'; have G3 := grown_alloc (grown_trans hgr2 hg3) (.cells #[.int .i64 (kd (q (4 * j))).code, .int .i64 (kd (q (4 * j))).kind, .int .i64 (kd (q (4 * j))).n, .bool (kd (q (4 * j))).x, .int .i64 (kd (q (4 * j))).o] 50); have R3 := (hR2.keep hg3 (by simp)).alloc (.cells #[.int .i64 (kd (q (4 * j))).code, .int .i64 (kd (q (4 * j))).kind, .int .i64 (kd (q (4 * j))).n, .bool (kd (q (4 * j))).x, .int .i64 (kd (q (4 * j))).o] 50)) | fail)
              go_roundw
              case rel => exact ⟨j + 1, by omega, by go_num, G3, R3, fun i hi => by
                by_cases e : i = j
                · subst e; exact HB.out
                · exact hnb.out i (by omega)⟩
              case measure => simp [intOf]; omega
          · have hje : j = k := by omega
            subst hje
            go_wp2
            go_ret2
            exact ⟨0, 0, rfl, Or.inr ⟨hno.out, Or.inr ⟨HL.out, Or.inr ⟨hnb.out, rfl, rfl⟩⟩⟩, hgr2⟩
      · have t1 : ((kd (q (4 * (k - 1)))).kind != 12) = true := by simp [hl]
        have HL : Hid ((kd (q (4 * (k - 1)))).kind ≠ 12) := hl
        clear hl
        go_wp2_with (go_at_call 17; refine (kind_at _ _).mono ?_; rintro e w2 ⟨rfl, hg2⟩)
        go_ret2
        exact ⟨7, k - 1, by rw [e1]; rfl, Or.inr ⟨hno.out, Or.inl ⟨HL.out, rfl, rfl⟩⟩, grown_alloc (grown_trans hgr hg2) _⟩

theorem rcheck_bad (ao : Option Addr) (n c : Nat) (w : World) (hm : n ≤ maxLen) (hn : badSize n) :
    Calls Tryd.prog 8 #[.slice ao n c] w fun e w' => e = .returned (.tuple #[.int .i64 1, .int .i64 0]) ∧ w' = w := by
  go_enter Tryd.func8, Tryd.ntmps8
  go_wp2_with (go_at_call 15; refine (rdecode_bad _ _ _ _ hm hn).mono ?_; rintro e w1 ⟨rfl, rfl⟩)
  go_ret2
  exact ⟨rfl, rfl⟩

/-- Check, of all bytes. -/
theorem rcheck_any (ao : Option Addr) (n c : Nat) (g : Nat → Int) (w : World) (hm : n ≤ maxLen) (hg : Oct g) (h : Src w .u8 ao n g) :
    Calls Tryd.prog 8 #[.slice ao n c] w fun e w' => ∃ (E : Int) (p : Nat), e = .returned (.tuple #[.int .i64 E, .int .i64 p]) ∧ Chk g n E p ∧ w.grownBy w' none := by
  by_cases hbad : badSize n
  · refine (rcheck_bad ao n c w hm hbad).mono ?_
    rintro e w' ⟨rfl, rfl⟩
    exact ⟨1, 0, rfl, Or.inl ⟨hbad, rfl, rfl⟩, grown_refl _ _⟩
  · obtain ⟨m, hm8⟩ : ∃ m, n = 8 * m := ⟨n / 8, by unfold badSize at hbad; omega⟩
    subst hm8
    have hmm : 1 ≤ m ∧ m ≤ 256 := by unfold badSize at hbad; omega
    obtain ⟨b, off, rfl, hR⟩ := h (by omega)
    refine (rcheck_good b off m c g w hmm.1 hmm.2 hg hR).mono ?_
    rintro e w' ⟨E, p, rfl, hs, hg1⟩
    exact ⟨E, p, rfl, Or.inr ⟨hbad, by rw [show 8 * m / 8 = m by omega]; exact hs⟩, hg1⟩

end Go.Proofs.YthbcfepbkkbjiaaDoor
