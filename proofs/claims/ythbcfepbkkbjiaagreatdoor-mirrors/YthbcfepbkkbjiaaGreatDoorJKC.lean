import Derived.Test.YthbcfepbkkbjiaaGreatDoorJK
namespace Go.Proofs.YthbcfepbkkbjiaaGreatDoor
open Go.RowKit
set_option linter.unusedVariables false
set_option linter.unusedSimpArgs false
def Cell4 (w : World) (b o : Nat) (x0 x1 x2 x3 : Int) : Prop := w.cell? ⟨b, o, none⟩ = some (.int .i64 x0) ∧ w.cell? ⟨b, o + 1, none⟩ = some (.int .i64 x1) ∧ w.cell? ⟨b, o + 2, none⟩ = some (.int .i64 x2) ∧ w.cell? ⟨b, o + 3, none⟩ = some (.int .i64 x3)
theorem Cell4.keep {w w' : World} {b o : Nat} {x0 x1 x2 x3 : Int} {row : Option Nat} (h : Cell4 w b o x0 x1 x2 x3) (hg : w.grownBy w' row) (hr : some b ≠ row) : Cell4 w' b o x0 x1 x2 x3 :=
  ⟨hg.cell h.1 hr, hg.cell h.2.1 hr, hg.cell h.2.2.1 hr, hg.cell h.2.2.2 hr⟩
theorem ins4_room {u : Nat → Int} {k : Nat} {a b c d : Int} (h : ∀ i, i < k → Room u i) (ha : 0 ≤ a ∧ a < 65536) (hb : 0 ≤ b ∧ b < 256) (hc : 0 ≤ c ∧ c < 256) (hd : 0 ≤ d ∧ d < 4294967296) : ∀ i, i < k + 1 → Room (ins4 u k a b c d) i := fun i hi => by
  by_cases hk : i < k
  · have := h i hk
    unfold Room ins4 at *
    rw [if_pos (by omega), if_pos (by omega), if_pos (by omega), if_pos (by omega)]
    exact this
  · have : i = k := by omega
    subst this
    unfold Room ins4
    rw [if_neg (by omega), if_neg (by omega), if_neg (by omega), if_neg (by omega), show 4 * i - i * 4 = 0 by omega, show 4 * i + 1 - i * 4 = 1 by omega, show 4 * i + 2 - i * 4 = 2 by omega, show 4 * i + 3 - i * 4 = 3 by omega]
    exact ⟨ha, hb, hc, hd⟩
theorem out_row {w : World} {base : Nat} {e : TypeId} {ao : Option Addr} {n cap : Nat} {f : Nat → Int} (h : Out w base e 4 (.slice ao n cap) n (ints .i64 f)) (hn : 0 < n) : ∃ B, ao = some ⟨B, 0, none⟩ ∧ Row w .i64 B 0 (4 * n) f := by
  obtain ⟨ao', cap', hv, h2⟩ := h
  cases hv
  rcases h2 with ⟨_, h0, _⟩ | ⟨B, rfl, _, hb, _⟩
  · omega
  · exact ⟨B, rfl, fun j hj => by rw [Nat.zero_add]; exact hb.cell (by omega)⟩
theorem kturn (mo : Option Addr) (k mc : Nat) (u : Nat → Int) (w : World) (h1 : 1 ≤ k) (h2 : k ≤ 256) (B : Nat) (hB : Row w .i64 B 0 (4 * k) u) :
    Calls Tryz.prog 28 #[.slice (some ⟨B, 0, none⟩) k mc] w fun e w' => ∃ G, e = .returned (.slice (some ⟨G, 0, none⟩) (8 * k : Nat) (8 * k : Nat)) ∧ Src w' .u8 (some ⟨G, 0, none⟩) (8 * k) (encs u) ∧ w.grownBy w' none := by
  refine (gencode_any B 0 k mc u w (by omega) hB).mono ?_
  rintro e w' ⟨G, rfl, hG, hg1, hb⟩
  exact ⟨G, rfl, fun _ => ⟨G, 0, rfl, fun j hj => by rw [Nat.zero_add]; exact hb.cell hj⟩, hg1⟩
theorem kback (ao : Option Addr) (j c : Nat) (g : Nat → Int) (w : World) (h1 : 1 ≤ j) (h2 : j ≤ 256) (hc : 8 * j ≤ c) (hg : Oct g) (hs : Src w .u8 ao (8 * j) g) :
    Calls Tryz.prog 27 #[.slice ao (8 * j : Nat) c] w fun e w' => ∃ B, e = .returned (.tuple #[.slice (some ⟨B, 0, none⟩) j j, .int .i64 0]) ∧ Row w' .i64 B 0 (4 * j) (decs g) ∧ w.grownBy w' none := by
  obtain ⟨b, off, rfl, hR⟩ := hs (by omega)
  refine (gdecode_good b off j c g w h1 h2 hc hg hR).mono ?_
  rintro e w' ⟨B, rfl, hB, hg1, hb⟩
  exact ⟨B, rfl, fun j hj => by rw [Nat.zero_add]; exact hb.cell (by omega), hg1⟩
theorem kencode (B n : Nat) (q : Nat → Int) (w : World) (hn : n ≤ 1000) (hR : Row w .i64 B 0 (4 * n) q) (g : Nat → Int) (hq : ∀ j, encs q j = g j) :
    Calls Tryz.prog 28 #[.slice (some ⟨B, 0, none⟩) n n] w fun e w' => ∃ G, e = .returned (.slice (some ⟨G, 0, none⟩) (8 * n : Nat) (8 * n : Nat)) ∧ Src w' .u8 (some ⟨G, 0, none⟩) (8 * n) g ∧ w.grownBy w' none := by
  refine (gencode_any B 0 n n q w (by omega) hR).mono ?_
  rintro e w' ⟨G, rfl, hG, hg1, hb⟩
  refine ⟨G, rfl, fun _ => ⟨G, 0, rfl, fun j hj => ?_⟩, hg1⟩
  rw [Nat.zero_add, hb.cell hj]
  show some (Value.int .u8 (encs q j)) = _
  rw [hq]
set_option maxRecDepth 100000 in
set_option maxHeartbeats 8000000 in
theorem law_mirrors (ao : Option Addr) (n c : Nat) (g : Nat → Int) (lo : Option Addr) (ln lc : Nat) (q : Nat → Int) (tb : TypeId) (pb : Value) (w : World) (hn : n ≤ 140737488351232) (hc : n ≤ c) (hg : Oct g) (hs : Src w .u8 ao n g) (hln : ln ≤ 4398046511000) (hl : SrcI w lo ln q) (hi64 : ∀ j, j < 4 * ln → I64 (q j)) (hL : Laid w tb pb) :
    Calls Tryz.prog 6 #[.slice ao n c, .slice lo ln lc] w fun e w' => e = .returned (.bool true) ∧ w.grownBy w' none := by
  obtain ⟨j, hj⟩ : ∃ j, n / 8 = j := ⟨_, rfl⟩
  have hjI : (n : Int) / 8 = (j : Int) := by omega
  have hj8 : 8 * j ≤ n := by omega
  have HS : Hid (Src w .u8 ao n g) := hs
  by_cases h0 : j = 0
  · have hj0 : n / 8 = 0 := by omega
    have hjI0 : (n : Int) / 8 = 0 := by omega
    clear hs hj hjI hj8 h0
    go_enter Tryz.func6, Tryz.ntmps6
    go_wp2_with (first | (go_at_call 26; refine (kknown tb pb w hL).mono ?_; rintro e w1 ⟨rfl, hg1⟩) | (go_at_call 27; refine (gdecode_bad ao 0 c _ (by unfold maxLen; omega) (by unfold badSize; omega)).mono ?_; rintro e w2 ⟨rfl, rfl⟩) | (go_at_call 28; refine (kgencode_nil _).mono ?_; rintro e w3 ⟨⟨eo, ec, rfl⟩, hg3⟩; have G3 := grown_trans hg1 hg3))
    have GE := G3
    obtain ⟨i0, hi, hz0, hz1, hz2⟩ := info_parts Tryz.infoInsn
    go_loopw [11, 12] (fun mv i wr => ∃ (k : Nat) (u : Nat → Int), k ≤ ln ∧ k ≤ 256 ∧ i = .int .i64 k ∧ (∃ mo mc, mv = .slice mo k mc ∧ (k = 0 → mo = none ∧ mc = 0)) ∧ Out wr w.heap.size 63 4 mv k (ints .i64 u) ∧ (∀ i, i < k → Room u i) ∧ w.grownBy wr none) (fun _ i _ => 256 - (intOf i).toNat)
    case atStart => exact ⟨0, fun _ => 0, Nat.zero_le _, Nat.zero_le _, rfl, ⟨none, 0, rfl, fun _ => ⟨rfl, rfl⟩⟩, out_nil _ _ _ _ _, fun i hi => absurd hi (Nat.not_lt_zero _), GE⟩
    case round =>
      obtain ⟨k, u, hk, hk2, rfl, ⟨mo, mc, rfl, hmo⟩, ho, hu, hgr⟩ := hrel
      by_cases hlt : k < ln ∧ k < 256
      · obtain ⟨hlt1, hlt2⟩ := hlt
        obtain ⟨lb, loff, rfl, hR⟩ := (hl.keep hgr) (by omega)
        obtain ⟨l0, l1, l2, l3⟩ := hR.insn hlt1
        have j0 := hi64 (4 * k) (by omega)
        have j1 := hi64 (4 * k + 1) (by omega)
        have j2 := hi64 (4 * k + 2) (by omega)
        have j3 := hi64 (4 * k + 3) (by omega)
        have t1 : (k : Int) < (ln : Int) := by omega
        have t2 : (k : Int) < 256 := by omega
        have HU : Hid (∀ i, i < k → Room u i) := hu
        clear hR hu
        generalize q (4 * k) = q0 at *
        generalize q (4 * k + 1) = q1 at *
        generalize q (4 * k + 2) = q2 at *
        generalize q (4 * k + 3) = q3 at *
        have lbw : lb < w.heap.size := by
          obtain ⟨b', off', e', hR'⟩ := hl (by omega)
          cases e'
          exact World.block_lt_of_cell? w _ (hR'.insn hlt1).1
        have hnown : some lb ≠ (Value.slice mo k mc).ownBlock := fun e => by
          have := (ho.own lb e.symm).1
          omega
        have C0 : Cell4 wr lb (loff + k * 4) q0 q1 q2 q3 := ⟨l0, l1, l2, l3⟩
        have HS0 := C0.keep (grown_drew (grown_refl wr none)) (by simp)
        clear hl
        go_wp2
        go_region_held3 (fun w' => w'.cell? ⟨lb, loff + k * 4, none⟩ = some (.int .i64 q0) ∧ w'.cell? ⟨lb, loff + k * 4 + 1, none⟩ = some (.int .i64 q1) ∧ w'.cell? ⟨lb, loff + k * 4 + 2, none⟩ = some (.int .i64 q2) ∧ w'.cell? ⟨lb, loff + k * 4 + 3, none⟩ = some (.int .i64 q3))
          (first | exact HS0 | assumption | exact HS0.keep (World.grownBy_alloc _ _ none) (by simp) | exact C0.keep (grown_drew (World.grownBy_alloc _ _ none)) (by simp) | exact S6)
          ((first | (go_at_call 30; refine (kpick _ _ _ (by assumption) ?_ ?_).mono ?_; omega; omega; rintro e w5 ⟨⟨r, rfl, hr⟩, rfl⟩) | (refine step_append_out _ w (by rfl) (.tmp 64) (.tmp 90) 22 (by rfl) 63 i0 _ 4 32 Tryz.underlying22 hi hz0 hz1 hz2 (by rfl) (by decide) _ k _ (by rfl) (ho.alloc _).drew (grown_drew (grown_alloc hgr _)) _ 1 1 _ _ (by rfl) (heap_topd _ _ _ (by simp)) (by rfl) (by simp [Value.oneCell']) (by decide) (by unfold maxLen; omega) (by omega) ?_; intro g6 p6 w6 ho6 hg6 hx6; have S6 : Cell4 w6 lb (loff + k * 4) q0 q1 q2 q3 := (C0.keep (grown_drew (World.grownBy_alloc wr _ none)) (by simp)).keep hx6 hnown)))
        all_goals go_wp2
        all_goals go_roundw
        case rel => exact ⟨k + 1, ins4 u k _ _ _ _, by omega, by omega, by go_num, ⟨_, _, rfl, fun e => absurd e (by omega)⟩, ho6.congr fun j hj => ins4_fun u k _ _ _ _ j hj, ins4_room HU.out (by omega) (by omega) (by omega) (by omega), hg6⟩
        case measure => simp [intOf]; omega
      · have hke : ¬ ((k : Int) < (ln : Int)) ∨ ¬ ((k : Int) < 256) := by omega
        by_cases hk0 : k = 0
        · subst hk0
          obtain ⟨rfl, rfl⟩ := hmo rfl
          have hln0 : ln = 0 := by omega
          subst hln0
          go_wp2_with (first | (go_at_call 28; refine (kgencode_nil _).mono ?_; rintro e w7 ⟨⟨eo, ec, rfl⟩, hg7⟩) | (go_at_call 27; refine (gdecode_bad eo 0 ec _ (by unfold maxLen; omega) (by unfold badSize; omega)).mono ?_; rintro e w8 ⟨rfl, rfl⟩))
          go_ret
          exact ⟨rfl, grown_trans hgr hg7⟩
        · obtain ⟨gB, rfl, hBm⟩ := out_row ho (by omega)
          have HE2 : Hid (Calls Tryz.prog 28 #[.slice (some ⟨gB, 0, none⟩) k mc] wr fun e w' => ∃ G, e = .returned (.slice (some ⟨G, 0, none⟩) (8 * k : Nat) (8 * k : Nat)) ∧ Src w' .u8 (some ⟨G, 0, none⟩) (8 * k) (encs u) ∧ wr.grownBy w' none) := kturn none k mc u wr (by omega) hk2 gB hBm
          have HD2 : Hid (∀ (G : Nat) w', Src w' .u8 (some ⟨G, 0, none⟩) (8 * k) (encs u) → Calls Tryz.prog 27 #[.slice (some ⟨G, 0, none⟩) (8 * k : Nat) (8 * k : Nat)] w' fun e w'' => ∃ B, e = .returned (.tuple #[.slice (some ⟨B, 0, none⟩) k k, .int .i64 0]) ∧ Row w'' .i64 B 0 (4 * k) (decs (encs u)) ∧ w'.grownBy w'' none) := fun G w' h' => kback _ k _ (encs u) w' (by omega) hk2 (by omega) (encs_oct u) h'
          have HU : Hid (∀ i, i < k → Room u i) := hu
          have hkp : 0 < k := by omega
          have hkI : ¬ ((k : Int) = 0) := by omega
          clear hmo hu ho
          generalize 8 * k = k8 at HE2 HD2
          go_wp2_with (first | (go_at_call 28; refine HE2.out.mono ?_; rintro e w7 ⟨G7, rfl, hG7, hg7⟩; have G77 := grown_trans hgr hg7) | (go_at_call 27; refine (HD2.out _ _ hG7).mono ?_; rintro e w8 ⟨B8, rfl, hB8, hg8⟩; have G88 := grown_trans G77 hg8))
          all_goals
            have hBm8 := hBm.keep (grown_trans hg7 hg8) (by simp)
            clear HE2 HD2 hG7
            go_loopw [15] (fun i wz => ∃ k2 : Nat, k2 ≤ k ∧ i = .int .i64 k2 ∧ w8.grownBy wz none) (fun i _ => k - (intOf i).toNat)
            case atStart => exact ⟨0, Nat.zero_le _, rfl, grown_refl _ _⟩
            case round =>
              obtain ⟨k2, hk2', rfl, hgz⟩ := hrel
              by_cases hlz : k2 < k
              · obtain ⟨a0, a1, a2, a3⟩ := (hBm8.keep hgz (by simp)).insn hlz
                obtain ⟨b0, b1, b2, b3⟩ := (hB8.keep hgz (by simp)).insn hlz
                obtain ⟨e0, e1, e2, e3⟩ := decs_encs (HU.out k2 hlz)
                rw [e0] at b0
                rw [e1] at b1
                rw [e2] at b2
                rw [e3] at b3
                rw [Nat.zero_add] at a0 a1 a2 a3 b0 b1 b2 b3
                have t5 : (k2 : Int) < (k : Int) := by omega
                clear e0 e1 e2 e3
                generalize u (4 * k2) = u0 at *
                generalize u (4 * k2 + 1) = u1 at *
                generalize u (4 * k2 + 2) = u2 at *
                generalize u (4 * k2 + 3) = u3 at *
                go_wp2
                go_quiet (fail)
                go_wp2
                go_roundw
                case rel => exact ⟨k2 + 1, by omega, by go_num, grown_none hgz (grown_drewN _ _ _)⟩
                case measure => simp [intOf]; omega
              · go_wp2
                go_ret
                exact ⟨rfl, grown_trans G88 hgz⟩
  · by_cases h256 : j ≤ 256
    · have hsj : Src w .u8 ao (8 * j) g := fun _ => by
        obtain ⟨b, off, e, hR⟩ := hs (by omega)
        exact ⟨b, off, e, hR.head (by omega)⟩
      have HD : Hid (∀ w', w.grownBy w' none → Calls Tryz.prog 27 #[.slice ao (j * 8) c] w' fun e w'' => ∃ B, e = .returned (.tuple #[.slice (some ⟨B, 0, none⟩) j j, .int .i64 0]) ∧ Row w'' .i64 B 0 (4 * j) (decs g) ∧ w'.grownBy w'' none) := fun w' hg' => by rw [Nat.mul_comm j 8]; exact kback ao j c g w' (by omega) h256 (by omega) hg (hsj.keep hg')
      have HE : Hid (∀ (B : Nat) w', Row w' .i64 B 0 (4 * j) (decs g) → Calls Tryz.prog 28 #[.slice (some ⟨B, 0, none⟩) j j] w' fun e w'' => ∃ G, e = .returned (.slice (some ⟨G, 0, none⟩) (j * 8) (j * 8)) ∧ Src w'' .u8 (some ⟨G, 0, none⟩) (j * 8) g ∧ w'.grownBy w'' none) := fun B w' hR => by rw [Nat.mul_comm j 8]; exact kencode B j (decs g) w' (by omega) hR g (encs_decs hg)
      have HS2 : Hid (∀ (G : Nat) w', w.grownBy w' none → Src w' .u8 (some ⟨G, 0, none⟩) (j * 8) g → Calls Tryz.prog 29 #[.slice ao (j * 8) c, .slice (some ⟨G, 0, none⟩) (j * 8) (j * 8)] w' fun e w'' => e = .returned (.bool true) ∧ w'.grownBy w'' none) := fun G w' hg' h' => ksame _ _ _ _ _ g w' (by omega) (by rw [Nat.mul_comm j 8]; exact hsj.keep hg') h'
      clear hs hsj
      have hjp : 0 < j := by omega
      go_enter Tryz.func6, Tryz.ntmps6
      go_wp2_with (first | (go_at_call 26; refine (kknown tb pb w hL).mono ?_; rintro e w1 ⟨rfl, hg1⟩) | (go_at_call 27; refine (HD.out _ hg1).mono ?_; rintro e w2 ⟨B, rfl, hB, hg2⟩; have G2 := grown_trans hg1 hg2) | (go_at_call 28; refine (HE.out _ _ hB).mono ?_; rintro e w3 ⟨G, rfl, hG, hg3⟩; have G3 := grown_trans G2 hg3) | (go_at_call 29; refine (HS2.out _ _ G3 hG).mono ?_; rintro e w4 ⟨rfl, hg4⟩; have G4 := grown_trans G3 hg4))
      have GE := G4
      obtain ⟨i0, hi, hz0, hz1, hz2⟩ := info_parts Tryz.infoInsn
      go_loopw [11, 12] (fun mv i wr => ∃ (k : Nat) (u : Nat → Int), k ≤ ln ∧ k ≤ 256 ∧ i = .int .i64 k ∧ (∃ mo mc, mv = .slice mo k mc ∧ (k = 0 → mo = none ∧ mc = 0)) ∧ Out wr w.heap.size 63 4 mv k (ints .i64 u) ∧ (∀ i, i < k → Room u i) ∧ w.grownBy wr none) (fun _ i _ => 256 - (intOf i).toNat)
      case atStart => exact ⟨0, fun _ => 0, Nat.zero_le _, Nat.zero_le _, rfl, ⟨none, 0, rfl, fun _ => ⟨rfl, rfl⟩⟩, out_nil _ _ _ _ _, fun i hi => absurd hi (Nat.not_lt_zero _), GE⟩
      case round =>
        obtain ⟨k, u, hk, hk2, rfl, ⟨mo, mc, rfl, hmo⟩, ho, hu, hgr⟩ := hrel
        by_cases hlt : k < ln ∧ k < 256
        · obtain ⟨hlt1, hlt2⟩ := hlt
          obtain ⟨lb, loff, rfl, hR⟩ := (hl.keep hgr) (by omega)
          obtain ⟨l0, l1, l2, l3⟩ := hR.insn hlt1
          have j0 := hi64 (4 * k) (by omega)
          have j1 := hi64 (4 * k + 1) (by omega)
          have j2 := hi64 (4 * k + 2) (by omega)
          have j3 := hi64 (4 * k + 3) (by omega)
          have t1 : (k : Int) < (ln : Int) := by omega
          have t2 : (k : Int) < 256 := by omega
          have HU : Hid (∀ i, i < k → Room u i) := hu
          clear hR hu
          generalize q (4 * k) = q0 at *
          generalize q (4 * k + 1) = q1 at *
          generalize q (4 * k + 2) = q2 at *
          generalize q (4 * k + 3) = q3 at *
          have lbw : lb < w.heap.size := by
            obtain ⟨b', off', e', hR'⟩ := hl (by omega)
            cases e'
            exact World.block_lt_of_cell? w _ (hR'.insn hlt1).1
          have hnown : some lb ≠ (Value.slice mo k mc).ownBlock := fun e => by
            have := (ho.own lb e.symm).1
            omega
          have C0 : Cell4 wr lb (loff + k * 4) q0 q1 q2 q3 := ⟨l0, l1, l2, l3⟩
          have HS0 := C0.keep (grown_drew (grown_refl wr none)) (by simp)
          clear hl
          go_wp2
          go_region_held3 (fun w' => w'.cell? ⟨lb, loff + k * 4, none⟩ = some (.int .i64 q0) ∧ w'.cell? ⟨lb, loff + k * 4 + 1, none⟩ = some (.int .i64 q1) ∧ w'.cell? ⟨lb, loff + k * 4 + 2, none⟩ = some (.int .i64 q2) ∧ w'.cell? ⟨lb, loff + k * 4 + 3, none⟩ = some (.int .i64 q3))
            (first | exact HS0 | assumption | exact HS0.keep (World.grownBy_alloc _ _ none) (by simp) | exact C0.keep (grown_drew (World.grownBy_alloc _ _ none)) (by simp) | exact S6)
            ((first | (go_at_call 30; refine (kpick _ _ _ (by assumption) ?_ ?_).mono ?_; omega; omega; rintro e w5 ⟨⟨r, rfl, hr⟩, rfl⟩) | (refine step_append_out _ w (by rfl) (.tmp 64) (.tmp 90) 22 (by rfl) 63 i0 _ 4 32 Tryz.underlying22 hi hz0 hz1 hz2 (by rfl) (by decide) _ k _ (by rfl) (ho.alloc _).drew (grown_drew (grown_alloc hgr _)) _ 1 1 _ _ (by rfl) (heap_topd _ _ _ (by simp)) (by rfl) (by simp [Value.oneCell']) (by decide) (by unfold maxLen; omega) (by omega) ?_; intro g6 p6 w6 ho6 hg6 hx6; have S6 : Cell4 w6 lb (loff + k * 4) q0 q1 q2 q3 := (C0.keep (grown_drew (World.grownBy_alloc wr _ none)) (by simp)).keep hx6 hnown)))
          all_goals go_wp2
          all_goals go_roundw
          case rel => exact ⟨k + 1, ins4 u k _ _ _ _, by omega, by omega, by go_num, ⟨_, _, rfl, fun e => absurd e (by omega)⟩, ho6.congr fun j hj => ins4_fun u k _ _ _ _ j hj, ins4_room HU.out (by omega) (by omega) (by omega) (by omega), hg6⟩
          case measure => simp [intOf]; omega
        · have hke : ¬ ((k : Int) < (ln : Int)) ∨ ¬ ((k : Int) < 256) := by omega
          by_cases hk0 : k = 0
          · subst hk0
            obtain ⟨rfl, rfl⟩ := hmo rfl
            have hln0 : ln = 0 := by omega
            subst hln0
            go_wp2_with (first | (go_at_call 28; refine (kgencode_nil _).mono ?_; rintro e w7 ⟨⟨eo, ec, rfl⟩, hg7⟩) | (go_at_call 27; refine (gdecode_bad eo 0 ec _ (by unfold maxLen; omega) (by unfold badSize; omega)).mono ?_; rintro e w8 ⟨rfl, rfl⟩))
            go_ret
            exact ⟨rfl, grown_trans hgr hg7⟩
          · obtain ⟨gB, rfl, hBm⟩ := out_row ho (by omega)
            have HE2 : Hid (Calls Tryz.prog 28 #[.slice (some ⟨gB, 0, none⟩) k mc] wr fun e w' => ∃ G, e = .returned (.slice (some ⟨G, 0, none⟩) (8 * k : Nat) (8 * k : Nat)) ∧ Src w' .u8 (some ⟨G, 0, none⟩) (8 * k) (encs u) ∧ wr.grownBy w' none) := kturn none k mc u wr (by omega) hk2 gB hBm
            have HD2 : Hid (∀ (G : Nat) w', Src w' .u8 (some ⟨G, 0, none⟩) (8 * k) (encs u) → Calls Tryz.prog 27 #[.slice (some ⟨G, 0, none⟩) (8 * k : Nat) (8 * k : Nat)] w' fun e w'' => ∃ B, e = .returned (.tuple #[.slice (some ⟨B, 0, none⟩) k k, .int .i64 0]) ∧ Row w'' .i64 B 0 (4 * k) (decs (encs u)) ∧ w'.grownBy w'' none) := fun G w' h' => kback _ k _ (encs u) w' (by omega) hk2 (by omega) (encs_oct u) h'
            have HU : Hid (∀ i, i < k → Room u i) := hu
            have hkp : 0 < k := by omega
            have hkI : ¬ ((k : Int) = 0) := by omega
            clear hmo hu ho
            generalize 8 * k = k8 at HE2 HD2
            go_wp2_with (first | (go_at_call 28; refine HE2.out.mono ?_; rintro e w7 ⟨G7, rfl, hG7, hg7⟩; have G77 := grown_trans hgr hg7) | (go_at_call 27; refine (HD2.out _ _ hG7).mono ?_; rintro e w8 ⟨B8, rfl, hB8, hg8⟩; have G88 := grown_trans G77 hg8))
            all_goals
              have hBm8 := hBm.keep (grown_trans hg7 hg8) (by simp)
              clear HE2 HD2 hG7
              go_loopw [15] (fun i wz => ∃ k2 : Nat, k2 ≤ k ∧ i = .int .i64 k2 ∧ w8.grownBy wz none) (fun i _ => k - (intOf i).toNat)
              case atStart => exact ⟨0, Nat.zero_le _, rfl, grown_refl _ _⟩
              case round =>
                obtain ⟨k2, hk2', rfl, hgz⟩ := hrel
                by_cases hlz : k2 < k
                · obtain ⟨a0, a1, a2, a3⟩ := (hBm8.keep hgz (by simp)).insn hlz
                  obtain ⟨b0, b1, b2, b3⟩ := (hB8.keep hgz (by simp)).insn hlz
                  obtain ⟨e0, e1, e2, e3⟩ := decs_encs (HU.out k2 hlz)
                  rw [e0] at b0
                  rw [e1] at b1
                  rw [e2] at b2
                  rw [e3] at b3
                  rw [Nat.zero_add] at a0 a1 a2 a3 b0 b1 b2 b3
                  have t5 : (k2 : Int) < (k : Int) := by omega
                  clear e0 e1 e2 e3
                  generalize u (4 * k2) = u0 at *
                  generalize u (4 * k2 + 1) = u1 at *
                  generalize u (4 * k2 + 2) = u2 at *
                  generalize u (4 * k2 + 3) = u3 at *
                  go_wp2
                  go_quiet (fail)
                  go_wp2
                  go_roundw
                  case rel => exact ⟨k2 + 1, by omega, by go_num, grown_none hgz (grown_drewN _ _ _)⟩
                  case measure => simp [intOf]; omega
                · go_wp2
                  go_ret
                  exact ⟨rfl, grown_trans G88 hgz⟩
    · have hsj : Src w .u8 ao (8 * 256) g := fun _ => by
        obtain ⟨b, off, e, hR⟩ := hs (by omega)
        exact ⟨b, off, e, hR.head (by omega)⟩
      have HD : Hid (∀ w', w.grownBy w' none → Calls Tryz.prog 27 #[.slice ao 2048 c] w' fun e w'' => ∃ B, e = .returned (.tuple #[.slice (some ⟨B, 0, none⟩) 256 256, .int .i64 0]) ∧ Row w'' .i64 B 0 (4 * 256) (decs g) ∧ w'.grownBy w'' none) := fun w' hg' => kback ao 256 c g w' (by omega) (by omega) (by omega) hg (hsj.keep hg')
      have HE : Hid (∀ (B : Nat) w', Row w' .i64 B 0 (4 * 256) (decs g) → Calls Tryz.prog 28 #[.slice (some ⟨B, 0, none⟩) 256 256] w' fun e w'' => ∃ G, e = .returned (.slice (some ⟨G, 0, none⟩) 2048 2048) ∧ Src w'' .u8 (some ⟨G, 0, none⟩) 2048 g ∧ w'.grownBy w'' none) := fun B w' hR => kencode B 256 (decs g) w' (by omega) hR g (encs_decs hg)
      have HS2 : Hid (∀ (G : Nat) w', w.grownBy w' none → Src w' .u8 (some ⟨G, 0, none⟩) 2048 g → Calls Tryz.prog 29 #[.slice ao 2048 c, .slice (some ⟨G, 0, none⟩) 2048 2048] w' fun e w'' => e = .returned (.bool true) ∧ w'.grownBy w'' none) := fun G w' hg' h' => ksame _ _ _ _ _ g w' (by omega) (hsj.keep hg') h'
      clear hs hsj
      have hjp : 256 < j := by omega
      go_enter Tryz.func6, Tryz.ntmps6
      go_wp2_with (first | (go_at_call 26; refine (kknown tb pb w hL).mono ?_; rintro e w1 ⟨rfl, hg1⟩) | (go_at_call 27; refine (HD.out _ hg1).mono ?_; rintro e w2 ⟨B, rfl, hB, hg2⟩; have G2 := grown_trans hg1 hg2) | (go_at_call 28; refine (HE.out _ _ hB).mono ?_; rintro e w3 ⟨G, rfl, hG, hg3⟩; have G3 := grown_trans G2 hg3) | (go_at_call 29; refine (HS2.out _ _ G3 hG).mono ?_; rintro e w4 ⟨rfl, hg4⟩; have G4 := grown_trans G3 hg4))
      have GE := G4
      obtain ⟨i0, hi, hz0, hz1, hz2⟩ := info_parts Tryz.infoInsn
      go_loopw [11, 12] (fun mv i wr => ∃ (k : Nat) (u : Nat → Int), k ≤ ln ∧ k ≤ 256 ∧ i = .int .i64 k ∧ (∃ mo mc, mv = .slice mo k mc ∧ (k = 0 → mo = none ∧ mc = 0)) ∧ Out wr w.heap.size 63 4 mv k (ints .i64 u) ∧ (∀ i, i < k → Room u i) ∧ w.grownBy wr none) (fun _ i _ => 256 - (intOf i).toNat)
      case atStart => exact ⟨0, fun _ => 0, Nat.zero_le _, Nat.zero_le _, rfl, ⟨none, 0, rfl, fun _ => ⟨rfl, rfl⟩⟩, out_nil _ _ _ _ _, fun i hi => absurd hi (Nat.not_lt_zero _), GE⟩
      case round =>
        obtain ⟨k, u, hk, hk2, rfl, ⟨mo, mc, rfl, hmo⟩, ho, hu, hgr⟩ := hrel
        by_cases hlt : k < ln ∧ k < 256
        · obtain ⟨hlt1, hlt2⟩ := hlt
          obtain ⟨lb, loff, rfl, hR⟩ := (hl.keep hgr) (by omega)
          obtain ⟨l0, l1, l2, l3⟩ := hR.insn hlt1
          have j0 := hi64 (4 * k) (by omega)
          have j1 := hi64 (4 * k + 1) (by omega)
          have j2 := hi64 (4 * k + 2) (by omega)
          have j3 := hi64 (4 * k + 3) (by omega)
          have t1 : (k : Int) < (ln : Int) := by omega
          have t2 : (k : Int) < 256 := by omega
          have HU : Hid (∀ i, i < k → Room u i) := hu
          clear hR hu
          generalize q (4 * k) = q0 at *
          generalize q (4 * k + 1) = q1 at *
          generalize q (4 * k + 2) = q2 at *
          generalize q (4 * k + 3) = q3 at *
          have lbw : lb < w.heap.size := by
            obtain ⟨b', off', e', hR'⟩ := hl (by omega)
            cases e'
            exact World.block_lt_of_cell? w _ (hR'.insn hlt1).1
          have hnown : some lb ≠ (Value.slice mo k mc).ownBlock := fun e => by
            have := (ho.own lb e.symm).1
            omega
          have C0 : Cell4 wr lb (loff + k * 4) q0 q1 q2 q3 := ⟨l0, l1, l2, l3⟩
          have HS0 := C0.keep (grown_drew (grown_refl wr none)) (by simp)
          clear hl
          go_wp2
          go_region_held3 (fun w' => w'.cell? ⟨lb, loff + k * 4, none⟩ = some (.int .i64 q0) ∧ w'.cell? ⟨lb, loff + k * 4 + 1, none⟩ = some (.int .i64 q1) ∧ w'.cell? ⟨lb, loff + k * 4 + 2, none⟩ = some (.int .i64 q2) ∧ w'.cell? ⟨lb, loff + k * 4 + 3, none⟩ = some (.int .i64 q3))
            (first | exact HS0 | assumption | exact HS0.keep (World.grownBy_alloc _ _ none) (by simp) | exact C0.keep (grown_drew (World.grownBy_alloc _ _ none)) (by simp) | exact S6)
            ((first | (go_at_call 30; refine (kpick _ _ _ (by assumption) ?_ ?_).mono ?_; omega; omega; rintro e w5 ⟨⟨r, rfl, hr⟩, rfl⟩) | (refine step_append_out _ w (by rfl) (.tmp 64) (.tmp 90) 22 (by rfl) 63 i0 _ 4 32 Tryz.underlying22 hi hz0 hz1 hz2 (by rfl) (by decide) _ k _ (by rfl) (ho.alloc _).drew (grown_drew (grown_alloc hgr _)) _ 1 1 _ _ (by rfl) (heap_topd _ _ _ (by simp)) (by rfl) (by simp [Value.oneCell']) (by decide) (by unfold maxLen; omega) (by omega) ?_; intro g6 p6 w6 ho6 hg6 hx6; have S6 : Cell4 w6 lb (loff + k * 4) q0 q1 q2 q3 := (C0.keep (grown_drew (World.grownBy_alloc wr _ none)) (by simp)).keep hx6 hnown)))
          all_goals go_wp2
          all_goals go_roundw
          case rel => exact ⟨k + 1, ins4 u k _ _ _ _, by omega, by omega, by go_num, ⟨_, _, rfl, fun e => absurd e (by omega)⟩, ho6.congr fun j hj => ins4_fun u k _ _ _ _ j hj, ins4_room HU.out (by omega) (by omega) (by omega) (by omega), hg6⟩
          case measure => simp [intOf]; omega
        · have hke : ¬ ((k : Int) < (ln : Int)) ∨ ¬ ((k : Int) < 256) := by omega
          by_cases hk0 : k = 0
          · subst hk0
            obtain ⟨rfl, rfl⟩ := hmo rfl
            have hln0 : ln = 0 := by omega
            subst hln0
            go_wp2_with (first | (go_at_call 28; refine (kgencode_nil _).mono ?_; rintro e w7 ⟨⟨eo, ec, rfl⟩, hg7⟩) | (go_at_call 27; refine (gdecode_bad eo 0 ec _ (by unfold maxLen; omega) (by unfold badSize; omega)).mono ?_; rintro e w8 ⟨rfl, rfl⟩))
            go_ret
            exact ⟨rfl, grown_trans hgr hg7⟩
          · obtain ⟨gB, rfl, hBm⟩ := out_row ho (by omega)
            have HE2 : Hid (Calls Tryz.prog 28 #[.slice (some ⟨gB, 0, none⟩) k mc] wr fun e w' => ∃ G, e = .returned (.slice (some ⟨G, 0, none⟩) (8 * k : Nat) (8 * k : Nat)) ∧ Src w' .u8 (some ⟨G, 0, none⟩) (8 * k) (encs u) ∧ wr.grownBy w' none) := kturn none k mc u wr (by omega) hk2 gB hBm
            have HD2 : Hid (∀ (G : Nat) w', Src w' .u8 (some ⟨G, 0, none⟩) (8 * k) (encs u) → Calls Tryz.prog 27 #[.slice (some ⟨G, 0, none⟩) (8 * k : Nat) (8 * k : Nat)] w' fun e w'' => ∃ B, e = .returned (.tuple #[.slice (some ⟨B, 0, none⟩) k k, .int .i64 0]) ∧ Row w'' .i64 B 0 (4 * k) (decs (encs u)) ∧ w'.grownBy w'' none) := fun G w' h' => kback _ k _ (encs u) w' (by omega) hk2 (by omega) (encs_oct u) h'
            have HU : Hid (∀ i, i < k → Room u i) := hu
            have hkp : 0 < k := by omega
            have hkI : ¬ ((k : Int) = 0) := by omega
            clear hmo hu ho
            generalize 8 * k = k8 at HE2 HD2
            go_wp2_with (first | (go_at_call 28; refine HE2.out.mono ?_; rintro e w7 ⟨G7, rfl, hG7, hg7⟩; have G77 := grown_trans hgr hg7) | (go_at_call 27; refine (HD2.out _ _ hG7).mono ?_; rintro e w8 ⟨B8, rfl, hB8, hg8⟩; have G88 := grown_trans G77 hg8))
            all_goals
              have hBm8 := hBm.keep (grown_trans hg7 hg8) (by simp)
              clear HE2 HD2 hG7
              go_loopw [15] (fun i wz => ∃ k2 : Nat, k2 ≤ k ∧ i = .int .i64 k2 ∧ w8.grownBy wz none) (fun i _ => k - (intOf i).toNat)
              case atStart => exact ⟨0, Nat.zero_le _, rfl, grown_refl _ _⟩
              case round =>
                obtain ⟨k2, hk2', rfl, hgz⟩ := hrel
                by_cases hlz : k2 < k
                · obtain ⟨a0, a1, a2, a3⟩ := (hBm8.keep hgz (by simp)).insn hlz
                  obtain ⟨b0, b1, b2, b3⟩ := (hB8.keep hgz (by simp)).insn hlz
                  obtain ⟨e0, e1, e2, e3⟩ := decs_encs (HU.out k2 hlz)
                  rw [e0] at b0
                  rw [e1] at b1
                  rw [e2] at b2
                  rw [e3] at b3
                  rw [Nat.zero_add] at a0 a1 a2 a3 b0 b1 b2 b3
                  have t5 : (k2 : Int) < (k : Int) := by omega
                  clear e0 e1 e2 e3
                  generalize u (4 * k2) = u0 at *
                  generalize u (4 * k2 + 1) = u1 at *
                  generalize u (4 * k2 + 2) = u2 at *
                  generalize u (4 * k2 + 3) = u3 at *
                  go_wp2
                  go_quiet (fail)
                  go_wp2
                  go_roundw
                  case rel => exact ⟨k2 + 1, by omega, by go_num, grown_none hgz (grown_drewN _ _ _)⟩
                  case measure => simp [intOf]; omega
                · go_wp2
                  go_ret
                  exact ⟨rfl, grown_trans G88 hgz⟩
end Go.Proofs.YthbcfepbkkbjiaaGreatDoor
