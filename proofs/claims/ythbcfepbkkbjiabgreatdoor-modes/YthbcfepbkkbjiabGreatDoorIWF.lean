import Derived.Test.YthbcfepbkkbjiabGreatDoorIWE
import Derived.Test.YthbcfepbkkbjiabGreatDoorIKG
import Derived.Test.YthbcfepbkkbjiabGreatDoorIOM
namespace Go.Proofs.YthbcfepbkkbjiabGreatDoor
open Go.RowKit
set_option linter.unusedVariables false
set_option linter.unusedSimpArgs false
theorem Mat.own2 {w0 : World} {po : Option Addr} {n : Nat} {A : Nat → Option Addr} {L C : Nat → Nat} {G : Nat → Nat → Int} (h : Mat w0 po n A L C G) {r m : Nat} (hr : r < n) (hm : m ≤ L r) : 0 < m → ∀ k, own? (A r) = some k → k < w0.heap.size := fun h0 k hk => by
  obtain ⟨b, off, e, hR⟩ := (h.1 r hr).2.2.2 (by omega)
  rw [e] at hk
  cases hk
  exact World.block_lt_of_cell? w0 _ (hR 0 (by omega))
theorem held_src2 {w : World} {e : TypeId} {a : Option Addr} {l c : Nat} {g : Nat → Int} (h : Held w e 1 a l c (ints .u8 g)) : Src w .u8 a l g := fun h0 => by
  rcases h with ⟨_, h1, _⟩ | ⟨B, rfl, hb, _⟩
  · omega
  · exact ⟨B, 0, rfl, fun j hj => by rw [Nat.zero_add]; exact hb.cell (by omega)⟩
theorem offer_d (t : Ab) (p : Nat → Int) (m : Nat) : (t.offer p m).d ≤ t.d + 1 := by
  unfold Ab.offer
  split
  · omega
  · split
    · exact Nat.le_refl _
    · show t.d ≤ t.d + 1; omega
theorem mattach {w0 wr w' : World} {x y : Nat} {U V : Nat → Prop} {T : Nat → Ab} {a1 a2 a3 a4 : Addr} {tb : TypeId} {pb : Value} {fgb cap r1 r2 k : Nat} (hS : Sent w0 a1 a2 a3 a4) (hl : Laid w0 tb pb) (gr : w0.grownBy wr none) (h1 : NSt wr x U T) (h2 : NSt wr y V T) (h3 : ∀ k, U k → ¬ V k) (h4 : ∀ k, U k → w0.heap.size ≤ k) (h5 : ∀ k, V k → w0.heap.size ≤ k)
    (g' : wr.grownBy w' none) (hc : 48 ≤ cap) (hfb : wr.heap.size ≤ fgb) (hr1 : r1 < 4) (hr2 : r2 < 4) (hs : Src w' .u8 (some ⟨fgb, 0, none⟩) 48 (encs (mq r1 r2))) (hd : ∀ i, i < 8 → (T i).d = 0) :
    ∃ T1 : Nat → Ab, (∀ i, i < 8 → (T1 i).d = 0) ∧ (∀ c1, Calls Tryz.prog 9 #[.pointer (some ⟨x, 0, none⟩), .int .i64 ((k : Int) % 8), .slice (some ⟨fgb, 0, none⟩) 48 cap, .bool c1] w' fun e w2 => e = .returned (.int .i64 0) ∧
      ∀ c2, Calls Tryz.prog 9 #[.pointer (some ⟨y, 0, none⟩), .int .i64 ((k : Int) % 8), .slice (some ⟨fgb, 0, none⟩) 48 cap, .bool c2] w2 fun e w3 => e = .returned (.int .i64 0) ∧ TwoSt w0 w3 x y T1 T1) := by
  obtain ⟨q, hq⟩ : ∃ q : Nat, (k : Int) % 8 = (q : Int) := ⟨((k : Int) % 8).toNat, by omega⟩
  have hq8 : q < 8 := by omega
  have hok : Chk (encs (mq r1 r2)) 48 0 0 := mq_chk (by omega) (by omega)
  have hlt := World.block_lt_of_cell? w' _ ((fun h => by obtain ⟨b, off, e, hr⟩ := hs h; cases e; exact hr 0 (by omega)) (by omega : 0 < 48) : w'.cell? ⟨fgb, 0, none⟩ = some (.int .u8 (encs (mq r1 r2) 0)))
  have hA0 : AttR (q : Int) (encs (mq r1 r2)) 48 T 0 (updT T q ⟨48 / 8, decs (encs (mq r1 r2)), (T q).ws, (T q).d⟩) := Or.inr ⟨by omega, by omega, Or.inr ⟨rfl, hok, by rw [Int.toNat_natCast]⟩⟩
  refine ⟨updT T q ⟨48 / 8, decs (encs (mq r1 r2)), (T q).ws, (T q).d⟩, fun i hi => ?_, fun c1 => ?_⟩
  · by_cases e : i = q
    · subst e; rw [updT_at]; exact hd i hi
    · rw [updT_ne _ _ _ e]; exact hd i hi
  · rw [hq]
    refine (nattach (h1.keep g') ⟨hS, hl, grown_trans gr g', h4⟩ (q : Int) _ 48 cap _ c1 (by unfold maxLen; omega) hc (encs_oct _) hs).mono ?_
    rintro e w2 ⟨E, T', hA, rfl, hN, hF⟩
    obtain ⟨rfl, rfl⟩ := hA.one hA0
    refine ⟨rfl, fun c2 => ?_⟩
    have hs2 : Src w2 .u8 (some ⟨fgb, 0, none⟩) 48 (encs (mq r1 r2)) := hs.same fun z hz _ => by
      cases hz
      exact hF.same fgb hlt fun hu => by have := h1.1 _ hu; omega
    refine (nattach ((h2.keep g').frame hF fun k hv hu => h3 k hu hv) ⟨hS, hl, hF.grown (grown_trans gr g') h4, h5⟩ (q : Int) _ 48 cap _ c2 (by unfold maxLen; omega) hc (encs_oct _) hs2).mono ?_
    rintro e w3 ⟨E, T', hA', rfl, hN2, hF2⟩
    obtain ⟨rfl, rfl⟩ := hA'.one hA0
    exact ⟨rfl, two_both (grown_trans gr g') (h1.keep g') (h2.keep g') h3 h4 h5 hN (fun k hk => hk) hF hN2 (fun k hk => hk) hF2⟩
theorem mreceive {w0 wr : World} {x y : Nat} {T : Nat → Ab} {a1 a2 a3 a4 : Addr} {tb : TypeId} {pb : Value} (hS : Sent w0 a1 a2 a3 a4) (hl : Laid w0 tb pb) (h : TwoSt w0 wr x y T T) (s : Int) :
    Calls Tryz.prog 13 #[.pointer (some ⟨x, 0, none⟩), .int .i64 s] wr fun e w2 => ∃ E l a c, e = .returned (.tuple #[.slice a (l : Nat) c, .int .i64 E]) ∧
      Calls Tryz.prog 13 #[.pointer (some ⟨y, 0, none⟩), .int .i64 s] w2 fun e w3 => ∃ b c' g T', e = .returned (.tuple #[.slice b l c', .int .i64 E]) ∧ (l ≤ 2000 ∧ Src w3 .u8 a l g ∧ Src w3 .u8 b l g) ∧ TwoSt w0 w3 x y T' T' := by
  obtain ⟨gr, U, V, h1, h2, h3, h4, h5⟩ := h
  refine (nreceive h1 ⟨hS, hl, gr, h4⟩ s).mono ?_
  rintro e w2 ⟨E, l, g, T', a, c, hR, rfl, hH, _, hl2, hU, hN, hF⟩
  refine ⟨E, l, a, c, rfl, ?_⟩
  refine (nreceive (h2.frame hF fun k hv hu => h3 k hu hv) ⟨hS, hl, hF.grown gr h4, h5⟩ s).mono ?_
  rintro e w3 ⟨E', l', g2, T'', b, c', hR', rfl, hH', _, _, _, hN2, hF2⟩
  obtain ⟨rfl, rfl, rfl, rfl⟩ := hR'.one hR
  refine ⟨b, c', _, _, rfl, ⟨hl2, held_src2 (hH.same fun k hk => hF2.same k (hH.ltb hk) fun hv => h3 k (hU k hk) hv), held_src2 hH'⟩, two_both gr h1 h2 h3 h4 h5 hN (fun k hk => hk.1) hF hN2 (fun k hk => hk.1) hF2⟩
set_option maxRecDepth 100000 in
set_option maxHeartbeats 20000000 in
theorem law_modes (to : Option Addr) (tn tc : Nat) (tg : Nat → Int) (fo : Option Addr) (fn fc : Nat) (fg : Nat → Bool) (po : Option Addr) (n pc : Nat) (A : Nat → Option Addr) (L C : Nat → Nat) (G : Nat → Nat → Int) (a1 a2 a3 a4 : Addr) (tb : TypeId) (pb : Value) (w : World) (htn : tn ≤ maxLen) (htg : ∀ j, j < tn → I64 (tg j)) (hts : Src w .i64 to tn tg) (hfn : fn ≤ maxLen) (hfs : Flags w fo fn fg) (hn : n ≤ maxLen) (hM : Mat w po n A L C G) (hL : Laid w tb pb) (hS : Sent w a1 a2 a3 a4) :
    Calls Tryz.prog 3 #[.slice to tn tc, .slice fo fn fc, .slice po n pc] w fun e w' => e = .returned (.bool true) ∧ w.grownBy w' none := by
  have HL : Hid (Laid w tb pb) := hL
  have HM : Hid (Mat w po n A L C G) := hM
  have HS : Hid (Sent w a1 a2 a3 a4) := hS
  have HT : Hid (Src w .i64 to tn tg) := hts
  have HTG : Hid (∀ j, j < tn → I64 (tg j)) := htg
  have HFl : Hid (Flags w fo fn fg) := hfs
  clear hL hM hS hts htg hfs
  unfold maxLen at hn htn hfn
  go_enter Tryz.func3, Tryz.ntmps3
  go_wp2_with (first | (go_at_call 5; refine (kknown tb pb w HL.out).mono ?_; rintro e w1 ⟨rfl, hg1⟩) | (go_at_call 6; refine (nnew w1).mono ?_; rintro e w2 ⟨rfl, hN2, hg2⟩; go_wp2_with (go_at_call 6; refine (nnew w2).mono ?_; rintro e w3 ⟨rfl, hN3, hg3⟩)))
  have HL1 : Hid (Laid w1 tb pb) := HL.out.keep hg1
  have HS1 : Hid (Sent w1 a1 a2 a3 a4) := HS.out.keep hg1
  have HM1 : Hid (Mat w1 po n A L C G) := HM.out.keep hg1
  have HT1 : Hid (Src w1 .i64 to tn tg) := HT.out.keep hg1
  have HF1 : Hid (Flags w1 fo fn fg) := HFl.out.keep hg1
  have T3 : TwoSt w1 w3 w1.heap.size w2.heap.size (fun _ => so0.ab) (fun _ => so0.ab) := ⟨grown_trans hg2 hg3, _, _, hN2.keep hg3, hN3, fun k h1 h2 => by have := h1.2; have := h2.1; omega, fun k h => h.1, fun k h => Nat.le_trans hg2.size h.1⟩
  clear HL HS HM HT HFl hN2 hN3
  generalize hxe : w1.heap.size = x at T3 ⊢
  generalize hye : w2.heap.size = y at T3 ⊢
  clear hxe hye hg2 hg3
  go_loopw [10] (fun vi wr => ∃ (k : Nat) (T : Nat → Ab), k ≤ tn ∧ vi = .int .i64 k ∧ TwoSt w1 wr x y T T ∧ ∀ i, i < 8 → (T i).d = 0) (fun vi _ => tn - (intOf vi).toNat)
  case atStart => exact ⟨0, _, Nat.zero_le _, rfl, T3, fun _ _ => rfl⟩
  case round =>
    obtain ⟨k, T, hk, rfl, Tk, hd⟩ := hrel
    by_cases hlt : k < tn
    · obtain ⟨tb', toff, rfl, hTR⟩ := (HT1.out.keep Tk.1) (by omega)
      have ct : wr.cell? ⟨tb', toff + k, none⟩ = some (.int .i64 (tg k)) := hTR k hlt
      have t1 : (k : Int) < (tn : Int) := by omega
      clear hTR
      have hi64 := HTG.out k hlt
      obtain ⟨gr1, U, V, h1, h2, h3, h4, h5⟩ := Tk
      have H1 : Hid (NSt wr x U T) := h1
      have H2 : Hid (NSt wr y V T) := h2
      have H3 : Hid (∀ k, U k → ¬ V k) := h3
      have H4 : Hid (∀ k, U k → w1.heap.size ≤ k) := h4
      have H5 : Hid (∀ k, V k → w1.heap.size ≤ k) := h5
      have Hd : Hid (∀ i, i < 8 → (T i).d = 0) := hd
      have HFk : Hid (Flags wr fo fn fg) := HF1.out.keep gr1
      clear h1 h2 h3 h4 h5 hd
      go_wp2
      refine region_gen ?_
      intro a0 E0 E10 ES EA
      simp [Act.eval] at E0 E10 ES
      refine region_by (by kernel_rfl) (MI wr (.slice (some ⟨tb', toff, none⟩) tn tc) (.pointer (some ⟨tb', toff + k, none⟩)) k (tg k)) ?_ ?_ ?_ ?_
      · exact ⟨_, (mput_own _).symm, grown_drew (grown_refl _ _), fun i hi h => by simp [Array.getD, hi] at h⟩
      · exact ready_all (by kernel_rfl)
      · intro l a w' hl hI hall
        obtain ⟨v, rfl, g', hv⟩ := hI
        obtain ⟨fgb, cap, r1, r2, e18, hc48, hfb, hr1, hr2, hs48⟩ := hv 18 (by decide) (hall 18 (by decide))
        have ea := EA.out
        subst ea
        rw [mput_eq, e18]
        obtain ⟨T1, hd1, HAt⟩ := mattach (k := k) HS1.out HL1.out gr1 H1.out H2.out H3.out H4.out H5.out g' hc48 hfb hr1 hr2 hs48 Hd.out
        have HA1 : Hid (∀ c1, Calls Tryz.prog 9 #[.pointer (some ⟨x, 0, none⟩), .int .i64 ((k : Int) % 8), .slice (some ⟨fgb, 0, none⟩) 48 cap, .bool c1] w' fun e w2 => e = .returned (.int .i64 0) ∧
      ∀ c2, Calls Tryz.prog 9 #[.pointer (some ⟨y, 0, none⟩), .int .i64 ((k : Int) % 8), .slice (some ⟨fgb, 0, none⟩) 48 cap, .bool c2] w2 fun e w3 => e = .returned (.int .i64 0) ∧ TwoSt w1 w3 x y T1 T1) := HAt
        have Hd1 : Hid (∀ i, i < 8 → (T1 i).d = 0) := hd1
        clear HAt hd1 hs48 hv hc48 hfb hi64 E0 E10 ES hall hl
        generalize v 0 = q0
        generalize v 1 = q1
        generalize v 2 = q2
        generalize v 3 = q3
        generalize v 4 = q4
        generalize v 5 = q5
        generalize v 6 = q6
        generalize v 7 = q7
        generalize v 8 = q8
        generalize v 9 = q9
        generalize v 10 = q10
        generalize v 11 = q11
        generalize v 12 = q12
        generalize v 13 = q13
        generalize v 14 = q14
        generalize v 15 = q15
        generalize v 16 = q16
        generalize v 17 = q17
        by_cases hkf : k < fn
        · have tkf : (k : Int) < (fn : Int) := by omega
          obtain ⟨fb, foff, rfl, hFR⟩ := (HFk.out.keep g') (by omega)
          have cf : w'.cell? ⟨fb, foff + k, none⟩ = some (.bool (fg k)) := hFR k hkf
          clear hFR
          generalize fg k = fk at cf
          go_wp2_with (go_at_call 9; refine (HA1.out _).mono ?_; rintro e w2 ⟨rfl, hA2⟩; have HA2 : Hid (∀ c2, Calls Tryz.prog 9 #[.pointer (some ⟨y, 0, none⟩), .int .i64 ((k : Int) % 8), .slice (some ⟨fgb, 0, none⟩) 48 cap, .bool c2] w2 fun e w3 => e = .returned (.int .i64 0) ∧ TwoSt w1 w3 x y T1 T1) := hA2; clear hA2 HA1; go_wp2_with (go_at_call 9; refine (HA2.out _).mono ?_; rintro e w3 ⟨rfl, T3'⟩))
          go_roundw
          case rel => exact ⟨k + 1, T1, by omega, by go_num, T3', Hd1.out⟩
          case measure => simp [intOf]; omega
        · have tkf : ¬ ((k : Int) < (fn : Int)) := by omega
          go_wp2_with (go_at_call 9; refine (HA1.out _).mono ?_; rintro e w2 ⟨rfl, hA2⟩; have HA2 : Hid (∀ c2, Calls Tryz.prog 9 #[.pointer (some ⟨y, 0, none⟩), .int .i64 ((k : Int) % 8), .slice (some ⟨fgb, 0, none⟩) 48 cap, .bool c2] w2 fun e w3 => e = .returned (.int .i64 0) ∧ TwoSt w1 w3 x y T1 T1) := hA2; clear hA2 HA1; go_wp2_with (go_at_call 9; refine (HA2.out _).mono ?_; rintro e w3 ⟨rfl, T3'⟩))
          go_roundw
          case rel => exact ⟨k + 1, T1, by omega, by go_num, T3', Hd1.out⟩
          case measure => simp [intOf]; omega
      · intro l a w' hl hI i hi
        obtain ⟨v, rfl, g', hv⟩ := hI
        have hi19 : i < 19 := List.mem_range.1 (List.mem_filter.1 hi).1
        have hci : i = 0 ∨ i = 1 ∨ i = 2 ∨ i = 3 ∨ i = 4 ∨ i = 5 ∨ i = 6 ∨ i = 7 ∨ i = 8 ∨ i = 9 ∨ i = 10 ∨ i = 11 ∨ i = 12 ∨ i = 13 ∨ i = 14 ∨ i = 15 ∨ i = 16 ∨ i = 17 ∨ i = 18 := by omega
        rcases hci with rfl | rfl | rfl | rfl | rfl | rfl | rfl | rfl | rfl | rfl | rfl | rfl | rfl | rfl | rfl | rfl | rfl | rfl | rfl
        · refine wpOp_at rfl rfl ?_
          go_simp
          exact MI.step hl hi19 g' hv (World.grownBy_alloc w' _ none) (sl_new w' 48 0 0 0)
        · refine wpOp_at rfl rfl ?_
          go_simp
          exact MI.step hl hi19 g' hv (World.grownBy_alloc w' _ none) (sl_new w' 84 0 0 3)
        · refine wpOp_at rfl rfl ?_
          go_simp
          exact MI.step hl hi19 g' hv (grown_refl _ _) ((mput_get0 a0 v 0 (by decide)).trans E0)
        · refine wpOp_at rfl rfl ?_
          go_simp
          exact MI.step hl hi19 g' hv (grown_refl _ _) ((mput_get0 a0 v 10 (by decide)).trans E10)
        · refine wpOp_at rfl rfl ?_
          have y2 : v 2 = .slice (some ⟨tb', toff, none⟩) tn tc := hv 2 (by decide) (ready_at hi rfl ⟨2, .data⟩ (by simp) rfl)
          have y3 : v 3 = .int .i64 (k : Int) := hv 3 (by decide) (ready_at hi rfl ⟨3, .data⟩ (by simp) rfl)
          have Z2 : (mput a0 v).tmps[47]?.getD undef = v 2 := mput_get a0 v 2 (by decide) ES
          have Z3 : (mput a0 v).tmps[48]?.getD undef = v 3 := mput_get a0 v 3 (by decide) ES
          go_simp
          try rw [y2, y3]
          try go_simp
          exact MI.step hl hi19 g' hv (grown_refl _ _) rfl
        · refine wpOp_at rfl rfl ?_
          have y4 : v 4 = .pointer (some ⟨tb', toff + k, none⟩) := hv 4 (by decide) (ready_at hi rfl ⟨4, .data⟩ (by simp) rfl)
          have Z4 : (mput a0 v).tmps[49]?.getD undef = v 4 := mput_get a0 v 4 (by decide) ES
          have cc := g'.cell ct (by simp)
          go_simp
          try rw [y4]
          try go_simp
          exact MI.step hl hi19 g' hv (grown_refl _ _) rfl
        · refine wpOp_at rfl rfl ?_
          have y5 : v 5 = .int .i64 (tg k) := hv 5 (by decide) (ready_at hi rfl ⟨5, .data⟩ (by simp) rfl)
          have Z5 : (mput a0 v).tmps[50]?.getD undef = v 5 := mput_get a0 v 5 (by decide) ES
          go_simp
          try rw [y5]
          go_at_call 8
          refine (kpick _ _ _ hi64 (by omega) (by omega)).mono ?_
          rintro e w2 ⟨⟨r, rfl, hr⟩, rfl⟩
          go_simp
          exact MI.step hl hi19 g' hv (grown_refl _ _) ⟨r, by omega, rfl⟩
        · refine wpOp_at rfl rfl ?_
          have y6 := hv 6 (by decide) (ready_at hi rfl ⟨6, .data⟩ (by simp) rfl)
          have Z6 : (mput a0 v).tmps[51]?.getD undef = v 6 := mput_get a0 v 6 (by decide) ES
          obtain ⟨r, hr, er⟩ := y6
          go_simp
          try rw [er]
          try go_simp
          exact MI.step hl hi19 g' hv (World.grownBy_alloc w' _ none) ⟨r, hr, sl_new w' 21 0 2 (r : Int)⟩
        · refine wpOp_at rfl rfl ?_
          go_simp
          exact MI.step hl hi19 g' hv (World.grownBy_alloc w' _ none) (sl_new w' 128 0 0 0)
        · refine wpOp_at rfl rfl ?_
          go_simp
          exact MI.step hl hi19 g' hv (World.grownBy_alloc w' _ none) (sl_new w' 22 0 0 0)
        · refine wpOp_at rfl rfl ?_
          go_simp
          exact MI.step hl hi19 g' hv (grown_refl _ _) ((mput_get0 a0 v 0 (by decide)).trans E0)
        · refine wpOp_at rfl rfl ?_
          go_simp
          exact MI.step hl hi19 g' hv (grown_refl _ _) ((mput_get0 a0 v 10 (by decide)).trans E10)
        · refine wpOp_at rfl rfl ?_
          have y10 : v 10 = .slice (some ⟨tb', toff, none⟩) tn tc := hv 10 (by decide) (ready_at hi rfl ⟨10, .data⟩ (by simp) rfl)
          have y11 : v 11 = .int .i64 (k : Int) := hv 11 (by decide) (ready_at hi rfl ⟨11, .data⟩ (by simp) rfl)
          have Z10 : (mput a0 v).tmps[55]?.getD undef = v 10 := mput_get a0 v 10 (by decide) ES
          have Z11 : (mput a0 v).tmps[56]?.getD undef = v 11 := mput_get a0 v 11 (by decide) ES
          go_simp
          try rw [y10, y11]
          try go_simp
          exact MI.step hl hi19 g' hv (grown_refl _ _) rfl
        · refine wpOp_at rfl rfl ?_
          have y12 : v 12 = .pointer (some ⟨tb', toff + k, none⟩) := hv 12 (by decide) (ready_at hi rfl ⟨12, .data⟩ (by simp) rfl)
          have Z12 : (mput a0 v).tmps[57]?.getD undef = v 12 := mput_get a0 v 12 (by decide) ES
          have cc := g'.cell ct (by simp)
          go_simp
          try rw [y12]
          try go_simp
          exact MI.step hl hi19 g' hv (grown_refl _ _) rfl
        · refine wpOp_at rfl rfl ?_
          have y13 : v 13 = .int .i64 (tg k) := hv 13 (by decide) (ready_at hi rfl ⟨13, .data⟩ (by simp) rfl)
          have Z13 : (mput a0 v).tmps[58]?.getD undef = v 13 := mput_get a0 v 13 (by decide) ES
          go_simp
          try rw [y13]
          go_at_call 8
          refine (kpick _ _ _ hi64 (by omega) (by omega)).mono ?_
          rintro e w2 ⟨⟨r, rfl, hr⟩, rfl⟩
          go_simp
          exact MI.step hl hi19 g' hv (grown_refl _ _) ⟨r, by omega, rfl⟩
        · refine wpOp_at rfl rfl ?_
          have y14 := hv 14 (by decide) (ready_at hi rfl ⟨14, .data⟩ (by simp) rfl)
          have Z14 : (mput a0 v).tmps[59]?.getD undef = v 14 := mput_get a0 v 14 (by decide) ES
          obtain ⟨r, hr, er⟩ := y14
          go_simp
          try rw [er]
          try go_simp
          exact MI.step hl hi19 g' hv (World.grownBy_alloc w' _ none) ⟨r, hr, sl_new w' 6 0 0 (r : Int)⟩
        · refine wpOp_at rfl rfl ?_
          have y0 := hv 0 (by decide) (ready_at hi rfl ⟨0, .data⟩ (by simp) rfl)
          have Z0 : (mput a0 v).tmps[45]?.getD undef = v 0 := mput_get a0 v 0 (by decide) ES
          have y1 := hv 1 (by decide) (ready_at hi rfl ⟨1, .data⟩ (by simp) rfl)
          have Z1 : (mput a0 v).tmps[46]?.getD undef = v 1 := mput_get a0 v 1 (by decide) ES
          have y7 := hv 7 (by decide) (ready_at hi rfl ⟨7, .data⟩ (by simp) rfl)
          have Z7 : (mput a0 v).tmps[52]?.getD undef = v 7 := mput_get a0 v 7 (by decide) ES
          have y8 := hv 8 (by decide) (ready_at hi rfl ⟨8, .data⟩ (by simp) rfl)
          have Z8 : (mput a0 v).tmps[53]?.getD undef = v 8 := mput_get a0 v 8 (by decide) ES
          have y9 := hv 9 (by decide) (ready_at hi rfl ⟨9, .data⟩ (by simp) rfl)
          have Z9 : (mput a0 v).tmps[54]?.getD undef = v 9 := mput_get a0 v 9 (by decide) ES
          have y15 := hv 15 (by decide) (ready_at hi rfl ⟨15, .data⟩ (by simp) rfl)
          have Z15 : (mput a0 v).tmps[60]?.getD undef = v 15 := mput_get a0 v 15 (by decide) ES
          obtain ⟨r1, hr1, y7⟩ := y7
          obtain ⟨r2, hr2, y15⟩ := y15
          obtain ⟨B0, e0, _⟩ := id y0
          obtain ⟨B1, e1, _⟩ := id y1
          obtain ⟨B7, e7, _⟩ := id y7
          obtain ⟨B8, e8, _⟩ := id y8
          obtain ⟨B9, e9, _⟩ := id y9
          obtain ⟨B15, e15, _⟩ := id y15
          go_simp
          try rw [e0, e1, e7, e8, e9, e15]
          rw [e0] at y0
          rw [e1] at y1
          rw [e7] at y7
          rw [e8] at y8
          rw [e9] at y9
          rw [e15] at y15
          try go_simp
          exact MI.step hl hi19 g' hv (World.grownBy_alloc w' _ none) ⟨w'.heap.size, r1, r2, hr1, hr2, rfl, quads_new y0 y1 y7 y8 y9 y15⟩
        · refine wpOp_at rfl rfl ?_
          have y16 := hv 16 (by decide) (ready_at hi rfl ⟨16, .data⟩ (by simp) rfl)
          have Z16 : (mput a0 v).tmps[61]?.getD undef = v 16 := mput_get a0 v 16 (by decide) ES
          obtain ⟨B, r1, r2, hr1, hr2, eB, hQ⟩ := y16
          go_simp
          try rw [eB]
          go_at_call 7
          refine (kfilter B 6 6 _ w' (by decide) hQ).mono ?_
          rintro e w2 ⟨x, rfl, ho, hg⟩
          obtain ⟨fgb, cap, rfl, hbg, _⟩ := owns_form ho (by decide)
          obtain ⟨fgb', cap', e2, hc, hs⟩ := fls_src ho (by decide)
          cases e2
          go_simp
          exact MI.step hl hi19 g' hv hg ⟨fgb, cap, r1, r2, rfl, hc, Nat.le_trans g'.size hbg, hr1, hr2, hs⟩
        · refine wpOp_at rfl rfl ?_
          have y17 := hv 17 (by decide) (ready_at hi rfl ⟨17, .data⟩ (by simp) rfl)
          have Z17 : (mput a0 v).tmps[62]?.getD undef = v 17 := mput_get a0 v 17 (by decide) ES
          go_simp
          exact MI.step hl hi19 g' hv (grown_refl _ _) (show MFil _ _ _ from y17)
    · obtain rfl : k = tn := by omega
      obtain ⟨wl, hwl⟩ : ∃ z, z = wr := ⟨_, rfl⟩
      subst hwl
      go_wp2
      go_loopw [15] (fun vi wr => ∃ (j : Nat) (T : Nat → Ab), j ≤ n ∧ vi = .int .i64 j ∧ TwoSt w1 wr x y T T ∧ ∀ i, i < 8 → (T i).d ≤ j) (fun vi _ => n - (intOf vi).toNat)
      case atStart => exact ⟨0, T, Nat.zero_le _, rfl, Tk, fun i hi => by rw [hd i hi]; exact Nat.le_refl _⟩
      case round =>
        clear Tk hd
        obtain ⟨j, T', hj, rfl, Tj, hd⟩ := hrel
        by_cases hlt2 : j < n
        · obtain ⟨bb, bo, rfl, hcell, hLC, hCm, hO, hSr⟩ := (HM1.out.keep Tj.1).at hlt2
          have t1 : (j : Int) < (n : Int) := by omega
          have hm2 : min (L j) 2000 ≤ L j := by omega
          have HPk : Hid (Calls Tryz.prog 10 #[.slice (A j) (L j) (C j)] wr fun e w' => e = .returned (.slice (A j) (min (L j) 2000 : Nat) (C j)) ∧ w' = wr) := kpacket _ _ _ _ (Nat.le_trans hLC hCm) hLC
          have hown := HM1.out.own2 hlt2 hm2
          have HFx : Hid (Calls Tryz.prog 11 #[.pointer (some ⟨x, 0, none⟩), .slice (A j) (min (L j) 2000 : Nat) (C j)] wr fun e w2 => e = .returned (.int .i64 0) ∧ Calls Tryz.prog 11 #[.pointer (some ⟨y, 0, none⟩), .slice (A j) (min (L j) 2000 : Nat) (C j)] w2 fun e w3 => e = .returned (.int .i64 0) ∧ TwoSt w1 w3 x y (frmT T' (G j) (min (L j) 2000)) (frmT T' (G j) (min (L j) 2000))) := by
            have e0 : frmE (min (L j) 2000) = 0 := if_pos (by omega)
            refine (two_frame Tj HS1.out HL1.out (A j) (min (L j) 2000) (C j) (G j) (by unfold maxLen; omega) (by omega) hO (hSr.less hm2) hown (fun i hi => by have := hd i hi; omega)).mono ?_
            rintro e w2 ⟨rfl, T2⟩
            rw [e0]
            refine ⟨rfl, ?_⟩
            refine (two_frame T2.swap HS1.out HL1.out (A j) (min (L j) 2000) (C j) (G j) (by unfold maxLen; omega) (by omega) hO (((HM1.out.keep T2.1).1 j hlt2).2.2.2.less hm2) hown (fun i hi => by have := hd i hi; omega)).mono ?_
            rintro e w3 ⟨rfl, T3⟩
            rw [e0]
            exact ⟨rfl, T3.swap⟩
          have Hd2 : Hid (∀ i, i < 8 → (frmT T' (G j) (min (L j) 2000) i).d ≤ j + 1) := fun i hi => by
            have h1 := hd i hi
            have h2 := offer_d (T' i) (G j) (min (L j) 2000)
            have e : frmT T' (G j) (min (L j) 2000) i = (T' i).offer (G j) (min (L j) 2000) := if_pos (by omega)
            rw [e]
            omega
          clear hSr hO hCm hLC hd hown
          go_wp2_with (first | (go_at_call 10; refine HPk.out.mono ?_; rintro e w4 ⟨rfl, rfl⟩) | (go_at_call 11; refine HFx.out.mono ?_; rintro e w5 ⟨rfl, hF5⟩; have HF5 : Hid (Calls Tryz.prog 11 #[.pointer (some ⟨y, 0, none⟩), .slice (A j) (min (L j) 2000 : Nat) (C j)] w5 fun e w3 => e = .returned (.int .i64 0) ∧ TwoSt w1 w3 x y (frmT T' (G j) (min (L j) 2000)) (frmT T' (G j) (min (L j) 2000))) := hF5; clear hF5 HFx; go_wp2_with (go_at_call 11; refine HF5.out.mono ?_; rintro e w6 ⟨rfl, T6⟩)))
          go_roundw
          case rel => exact ⟨j + 1, _, by omega, by go_num, T6, Hd2.out⟩
          case measure => simp [intOf]; omega
        · obtain ⟨wm, hwm⟩ : ∃ z, z = wr := ⟨_, rfl⟩
          subst hwm
          go_wp2
          go_loopw [19] (fun vs wr => ∃ (s : Nat) (T : Nat → Ab), s ≤ 8 ∧ vs = .int .i64 s ∧ TwoSt w1 wr x y T T) (fun vs _ => 8 - (intOf vs).toNat)
          case atStart => exact ⟨0, T', Nat.zero_le _, rfl, Tj⟩
          case round =>
            clear Tj hd
            obtain ⟨s, Ts, hs8, rfl, Tj⟩ := hrel
            by_cases hlt3 : s < 8
            · have t8 : (s : Int) < 8 := by omega
              have HDx : Hid (Calls Tryz.prog 12 #[.pointer (some ⟨x, 0, none⟩), .int .i64 (s : Int)] wr fun e w2 => e = .returned (.int .i64 (drpV s Ts)) ∧ TwoSt w1 w2 x y Ts Ts) := two_dropped Tj HS1.out HL1.out s
              have HDy : Hid (∀ w2, TwoSt w1 w2 x y Ts Ts → Calls Tryz.prog 12 #[.pointer (some ⟨y, 0, none⟩), .int .i64 (s : Int)] w2 fun e w3 => e = .returned (.int .i64 (drpV s Ts)) ∧ TwoSt w1 w3 x y Ts Ts) := fun w2 T2 => (two_dropped T2.swap HS1.out HL1.out s).mono fun e w3 h => ⟨h.1, h.2.swap⟩
              clear Tj
              generalize drpV s Ts = dv at *
              go_wp2_with (go_at_call 12; refine HDx.out.mono ?_; rintro e w2 ⟨rfl, T2⟩; go_wp2_with (go_at_call 12; refine (HDy.out _ T2).mono ?_; rintro e w3 ⟨rfl, T3⟩))
              obtain ⟨wo, hwo⟩ : ∃ z, z = wr := ⟨_, rfl⟩
              subst hwo
              go_loopw [20] (fun vi wr => ∃ (i : Nat) (T : Nat → Ab), i ≤ 5 ∧ vi = .int .i64 i ∧ TwoSt w1 wr x y T T) (fun vi _ => 5 - (intOf vi).toNat)
              case atStart => exact ⟨0, Ts, Nat.zero_le _, rfl, T3⟩
              case round =>
                clear T3 HDx HDy
                obtain ⟨i, Ti, hi5, rfl, Tt⟩ := hrel
                by_cases hlt4 : i < 5
                · have t4 : (i : Int) ≤ 4 := by omega
                  have HRx : Hid (Calls Tryz.prog 13 #[.pointer (some ⟨x, 0, none⟩), .int .i64 (s : Int)] wr fun e w2 => ∃ E l a c, e = .returned (.tuple #[.slice a (l : Nat) c, .int .i64 E]) ∧
      Calls Tryz.prog 13 #[.pointer (some ⟨y, 0, none⟩), .int .i64 (s : Int)] w2 fun e w3 => ∃ b c' g T', e = .returned (.tuple #[.slice b l c', .int .i64 E]) ∧ (l ≤ 2000 ∧ Src w3 .u8 a l g ∧ Src w3 .u8 b l g) ∧ TwoSt w1 w3 x y T' T') := mreceive HS1.out HL1.out Tt s
                  clear Tt
                  go_wp2_with (go_at_call 13; refine HRx.out.mono ?_; rintro e w4 ⟨E, l, ra, rc, rfl, hR4⟩; have HR4 : Hid (Calls Tryz.prog 13 #[.pointer (some ⟨y, 0, none⟩), .int .i64 (s : Int)] w4 fun e w3 => ∃ b c' g T', e = .returned (.tuple #[.slice b l c', .int .i64 E]) ∧ (l ≤ 2000 ∧ Src w3 .u8 ra l g ∧ Src w3 .u8 b l g) ∧ TwoSt w1 w3 x y T' T') := hR4; clear hR4 HRx; go_wp2_with (first | (go_at_call 13; refine HR4.out.mono ?_; rintro e w5 ⟨rb, rc', rg, T5, rfl, ⟨hl5, hs1, hs2⟩, T5'⟩; have HS5 : Hid (Calls Tryz.prog 14 #[.slice ra l rc, .slice rb l rc'] w5 fun e w' => e = .returned (.bool true) ∧ w5.grownBy w' none) := ksame _ _ l _ _ _ _ (by omega) hs1 hs2; clear hs1 hs2 HR4) | (go_at_call 14; refine HS5.out.mono ?_; rintro e w6 ⟨rfl, hg6⟩)))
                  go_roundw
                  case rel => exact ⟨i + 1, T5, by omega, by go_num, T5'.keep hg6⟩
                  case measure => simp [intOf]; omega
                · obtain rfl : i = 5 := by omega
                  go_wp2
                  go_roundw
                  case rel => exact ⟨s + 1, Ti, by omega, by go_num, Tt⟩
                  case measure => simp [intOf]; omega
            · obtain rfl : s = 8 := by omega
              go_wp2
              go_ret
              exact ⟨rfl, grown_trans hg1 Tj.1⟩
end Go.Proofs.YthbcfepbkkbjiabGreatDoor
