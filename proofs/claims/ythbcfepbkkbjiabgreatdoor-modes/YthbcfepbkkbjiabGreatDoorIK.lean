import Derived.Test.YthbcfepbkkbjiabGreatDoorIRO
import Derived.Test.YthbcfepbkkbjiabGreatDoorIB3
import Derived.Test.YthbcfepbkkbjiabGreatDoorIC
namespace Go.Proofs.YthbcfepbkkbjiabGreatDoor
open Go.RowKit
set_option linter.unusedVariables false
set_option linter.unusedSimpArgs false
set_option maxRecDepth 100000 in
set_option maxHeartbeats 1000000 in
theorem kinsn (c a b k : Int) (w : World) :
    Calls Tryz.prog 15 #[.int .i64 c, .int .i64 a, .int .i64 b, .int .i64 k] w fun e w' => e = .returned (.slice (some ⟨w.heap.size, 0, none⟩) 8 8) ∧ w.grownBy w' none ∧ Blk w' w.heap.size 5 8 8 (ints .u8 (enc8 c a b k)) := by
  go_enter Tryz.func15, Tryz.ntmps15
  go_wp2
  go_ret
  refine ⟨rfl, World.grownBy_alloc _ _ none, (blk_new w _ _).congr fun j hj => ?_⟩
  match j, hj with
  | 0, _ => show Value.int .u8 (c % 256) = Value.int .u8 (c / 2 ^ 0 % 256); simp
  | 1, _ => rfl
  | 2, _ => rfl
  | 3, _ => rfl
  | 4, _ => show Value.int .u8 (k % 256) = Value.int .u8 (k / 2 ^ 0 % 256); simp
  | 5, _ => rfl
  | 6, _ => rfl
  | 7, _ => rfl
theorem zero_oct : Oct (fun _ => (0 : Int)) := fun _ => ⟨Int.le_refl 0, (by decide : (0 : Int) ≤ 255)⟩
theorem enc8_oct (c a b k : Int) : Oct (enc8 c a b k) := fun j => enc8_bd _ _ _ _ _
def kg1 : Nat → Int := enc8 6 0 0 65535
def kg2 : Nat → Int := enc8 5 0 0 0
def kcode : Nat → Int := fun j => [1, 0, 0, 0, 7, 9].getD j 0
theorem kcode_oct : Oct kcode := fun j => by
  match j with
  | 0 => decide
  | 1 => decide
  | 2 => decide
  | 3 => decide
  | 4 => decide
  | 5 => decide
  | j + 6 => show 0 ≤ (0 : Int) ∧ (0 : Int) ≤ 255; decide
set_option maxRecDepth 10000 in
theorem krun1 (p : Nat → Int) : RunS kg1 8 p 0 65535 0 := by
  have q0 : decs kg1 0 = 6 := by decide
  have q3 : decs kg1 3 = 65535 := by decide
  have hk : kd (decs kg1 0) = ⟨6, 12, 0, false, 0, 11⟩ := by rw [q0]; rfl
  have hw : wrong (decs kg1) 1 0 = 0 := by decide
  refine Or.inr ⟨Or.inr ⟨by unfold badSize; omega, Or.inr ⟨fun j hj => ?_, Or.inr ⟨by show (kd (decs kg1 0)).kind = 12; rw [hk], Or.inr ⟨fun j hj hb => ?_, rfl, rfl⟩⟩⟩⟩, Or.inr ⟨by omega, rfl, ?_⟩⟩
  · have : j = 0 := by omega
    subst this; exact hw
  · have : j = 0 := by omega
    subst this
    have h1 : (kd (decs kg1 0)).kind = 3 := hb.1
    rw [hk] at h1
    exact absurd h1 (by decide)
  · show 65535 = runF (decs kg1) p 0 (255 + 1) F0
    rw [runF_succ]
    have e : flt (decs kg1) p 0 F0 = ⟨F0, 65535, true⟩ := by
      simp only [flt, F0, Nat.mul_zero, Nat.zero_add, hk, q3, Int.reduceEq, if_true, if_false, Bool.false_eq_true]
    rw [e]
    rfl
set_option maxRecDepth 10000 in
theorem krun2 (p : Nat → Int) : RunS kg2 8 p 0 0 6 :=
  Or.inl ⟨by decide, rfl, 0, Or.inr ⟨by unfold badSize; omega, Or.inl ⟨by decide, by decide, fun j hj => absurd hj (by omega), by decide⟩⟩⟩
theorem kexec (p : Nat → Int) : execV kcode 6 p 0 = (7, 2, 0) := by
  unfold execV
  rw [if_pos (by omega)]
  have A1 : At kcode 0 (pW 7) := fun r hr => by
    match r, hr with
    | 0, _ => rfl
    | 1, _ => rfl
    | 2, _ => rfl
    | 3, _ => rfl
    | 4, _ => rfl
  have A2 : At kcode (0 + 5) [9] := fun r hr => by
    match r, hr with
    | 0, _ => rfl
  have E1 := ex_W (g := kcode) (N := 6) (p := p) (m := 0) (sp := 0) (st := fun _ => 0) (cs := fun _ => 0) A1 ⟨by decide, by decide⟩ (by omega) (by omega)
  have E2 := ex_S (g := kcode) (N := 6) (p := p) (m := 0) (sp := 0) (st := upd (fun _ => 0) 0 7) (cs := fun _ => 0) A2 (by omega) (by omega)
  have := (E1.fin E2) 65534 0
  exact this
set_option maxRecDepth 100000 in
set_option maxHeartbeats 1000000 in
theorem kknown (tb : TypeId) (pb : Value) (w : World) (hl : Laid w tb pb) :
    Calls Tryz.prog 5 #[] w fun e w' => e = .returned (.bool true) ∧ w.grownBy w' none := by
  have HR1 : Hid (∀ (H : Nat) (w' : World), Blk w' H 5 8 8 (ints .u8 (enc8 6 0 0 65535)) → Laid w' tb pb → Calls Tryz.prog 17 #[.slice (some ⟨H, 0, none⟩) 8 8, .slice none 0 0] w' fun e w'' => e = .returned (.tuple #[.int .i64 65535, .int .i64 0]) ∧ w'.grownBy w'' none) := fun H w' hb hl => by
    refine (grun_any _ 8 8 kg1 none 0 0 (fun _ => 0) tb pb w' (by unfold maxLen; omega) (by unfold maxLen; omega) (by omega) (by omega) (enc8_oct _ _ _ _) zero_oct (src_of_blk hb (Nat.le_refl _)) (fun h => absurd h (by decide)) hl).mono ?_
    rintro e w2 ⟨⟨v, E, rfl, hE⟩, hg⟩
    obtain ⟨rfl, rfl⟩ := hE.one (krun1 _)
    exact ⟨rfl, hg⟩
  have HR2 : Hid (∀ (H : Nat) (w' : World), Blk w' H 5 8 8 (ints .u8 (enc8 5 0 0 0)) → Laid w' tb pb → Calls Tryz.prog 17 #[.slice (some ⟨H, 0, none⟩) 8 8, .slice none 0 0] w' fun e w'' => e = .returned (.tuple #[.int .i64 0, .int .i64 6]) ∧ w'.grownBy w'' none) := fun H w' hb hl => by
    refine (grun_any _ 8 8 kg2 none 0 0 (fun _ => 0) tb pb w' (by unfold maxLen; omega) (by unfold maxLen; omega) (by omega) (by omega) (enc8_oct _ _ _ _) zero_oct (src_of_blk hb (Nat.le_refl _)) (fun h => absurd h (by decide)) hl).mono ?_
    rintro e w2 ⟨⟨v, E, rfl, hE⟩, hg⟩
    obtain ⟨rfl, rfl⟩ := hE.one (krun2 _)
    exact ⟨rfl, hg⟩
  have HX : Hid (∀ (w' : World), Calls Tryz.prog 18 #[.slice (some ⟨w'.heap.size, 0, none⟩) 6 6, .slice none 0 0] (w'.alloc (.cells #[.int .u8 1, .int .u8 0, .int .u8 0, .int .u8 0, .int .u8 7, .int .u8 9] 5)) fun e w'' => e = .returned (.tuple #[.int .i64 7, .int .i64 2, .int .i64 0]) ∧ (w'.alloc (.cells #[.int .u8 1, .int .u8 0, .int .u8 0, .int .u8 0, .int .u8 7, .int .u8 9] 5)).grownBy w'' none) := fun w' => by
    have hs : Src (w'.alloc (.cells #[.int .u8 1, .int .u8 0, .int .u8 0, .int .u8 0, .int .u8 7, .int .u8 9] 5)) .u8 (some ⟨w'.heap.size, 0, none⟩) 6 kcode := fun _ => ⟨w'.heap.size, 0, rfl, fun j hj => by
      rw [Nat.zero_add, World.cell?_alloc_new]
      match j, hj with
      | 0, _ => rfl
      | 1, _ => rfl
      | 2, _ => rfl
      | 3, _ => rfl
      | 4, _ => rfl
      | 5, _ => rfl⟩
    have := gexec_all (some ⟨w'.heap.size, 0, none⟩) 6 6 kcode none 0 0 (fun _ => 0) (w'.alloc (.cells #[.int .u8 1, .int .u8 0, .int .u8 0, .int .u8 0, .int .u8 7, .int .u8 9] 5)) (by omega) (by omega) (by omega) (by omega) kcode_oct zero_oct hs (fun h => absurd h (by decide))
    rw [kexec] at this
    exact this
  go_enter Tryz.func5, Tryz.ntmps5
  go_wp2_with (go_at_call 15; refine (kinsn 6 0 0 65535 _).mono ?_; rintro e w1 ⟨rfl, hg1, hb1⟩; go_wp2_with (go_at_call 17; refine (HR1.out _ _ hb1 (hl.keep hg1)).mono ?_; rintro e w2 ⟨rfl, hg2⟩; have G2 := grown_trans hg1 hg2; go_wp2_with (go_at_call 18; refine (HX.out w2).mono ?_; rintro e w3 ⟨rfl, hg3⟩; have G3 := grown_trans (grown_alloc G2 _) hg3; go_wp2_with (go_at_call 15; refine (kinsn 5 0 0 0 _).mono ?_; rintro e w4 ⟨rfl, hg4, hb4⟩; have G4 := grown_trans G3 hg4; go_wp2_with (go_at_call 17; refine (HR2.out _ _ hb4 (hl.keep G4)).mono ?_; rintro e w5 ⟨rfl, hg5⟩)))))
  go_ret
  exact ⟨rfl, grown_trans G4 hg5⟩
end Go.Proofs.YthbcfepbkkbjiabGreatDoor
namespace Go.Proofs.YthbcfepbkkbjiabGreatDoor
open Go.RowKit
set_option linter.unusedVariables false
set_option linter.unusedSimpArgs false
theorem kpick (c n : Int) (w : World) (hc : I64 c) (hn : 1 ≤ n) (hn2 : n ≤ 4294967296) :
    Calls Tryz.prog 8 #[.int .i64 c, .int .i64 n] w fun e w' => (∃ r : Nat, e = .returned (.int .i64 (r : Int)) ∧ (r : Int) < n) ∧ w' = w := by
  obtain ⟨h1, h2⟩ := hc
  by_cases h0 : c < 0
  · go_enter Tryz.func8, Tryz.ntmps8
    go_wp2
    go_ret
    have a1 := Int.emod_nonneg (-(c + 1)) (show n ≠ 0 by omega)
    have a2 := Int.emod_lt_of_pos (-(c + 1)) (show 0 < n by omega)
    have a3 : -((c + 1).tmod n) = -(c + 1) % n := by rw [← Int.neg_tmod, Int.tmod_eq_emod_of_nonneg (by omega)]
    exact ⟨⟨(-(c + 1) % n).toNat, ret_int' (by omega), by omega⟩, rfl⟩
  · go_enter Tryz.func8, Tryz.ntmps8
    go_wp2
    go_ret
    have a1 := Int.emod_nonneg c (show n ≠ 0 by omega)
    have a2 := Int.emod_lt_of_pos c (show 0 < n by omega)
    exact ⟨⟨(c % n).toNat, ret_int' (by omega), by omega⟩, rfl⟩
set_option maxRecDepth 100000 in
set_option maxHeartbeats 1000000 in
theorem ksame (ao bo : Option Addr) (n c d : Nat) (g : Nat → Int) (w : World) (hn : n ≤ 140737488355328) (h : Src w .u8 ao n g) (h' : Src w .u8 bo n g) :
    Calls Tryz.prog 14 #[.slice ao n c, .slice bo n d] w fun e w' => e = .returned (.bool true) ∧ w.grownBy w' none := by
  go_enter Tryz.func14, Tryz.ntmps14
  go_wp2
  go_loopw [5] (fun i wr => ∃ k : Nat, k ≤ n ∧ i = .int .i64 k ∧ w.grownBy wr none) (fun i _ => n - (intOf i).toNat)
  case atStart => exact ⟨0, Nat.zero_le _, rfl, grown_refl _ _⟩
  case round =>
    obtain ⟨k, hk, rfl, hgr⟩ := hrel
    by_cases hlt : k < n
    · obtain ⟨b, off, rfl, hR⟩ := (h.keep hgr) (by omega)
      obtain ⟨b', off', rfl, hR'⟩ := (h'.keep hgr) (by omega)
      have c1 : wr.cell? ⟨b, off + k, none⟩ = some (.int .u8 (g k)) := hR k hlt
      have c2 : wr.cell? ⟨b', off' + k, none⟩ = some (.int .u8 (g k)) := hR' k hlt
      have t1 : (k : Int) < (n : Int) := by omega
      clear h h' hR hR'
      go_wp2
      go_quiet (fail)
      go_wp2
      go_roundw
      case rel => exact ⟨k + 1, by omega, by go_num, grown_none hgr (grown_drewN _ _ _)⟩
      case measure => simp [intOf]; omega
    · go_wp2
      go_ret
      exact ⟨rfl, hgr⟩
def Room (q : Nat → Int) (k : Nat) : Prop := (0 ≤ q (4 * k) ∧ q (4 * k) < 65536) ∧ (0 ≤ q (4 * k + 1) ∧ q (4 * k + 1) < 256) ∧ (0 ≤ q (4 * k + 2) ∧ q (4 * k + 2) < 256) ∧ (0 ≤ q (4 * k + 3) ∧ q (4 * k + 3) < 4294967296)
theorem decs_encs {q : Nat → Int} {k : Nat} (h : Room q k) : decs (encs q) (4 * k) = q (4 * k) ∧ decs (encs q) (4 * k + 1) = q (4 * k + 1) ∧ decs (encs q) (4 * k + 2) = q (4 * k + 2) ∧ decs (encs q) (4 * k + 3) = q (4 * k + 3) := by
  obtain ⟨h0, h1, h2, h3⟩ := h
  obtain ⟨d0, d1, d2, d3⟩ := decs_at (encs q) k
  have e : ∀ i, i < 8 → encs q (8 * k + i) = enc8 (q (4 * k)) (q (4 * k + 1)) (q (4 * k + 2)) (q (4 * k + 3)) i := fun i hi => encs_at q k i hi
  rw [d0, d1, d2, d3]
  unfold num2 num4
  have e0 := e 0 (by decide)
  rw [Nat.add_zero] at e0
  rw [e0, e 1 (by decide), e 2 (by decide), e 3 (by decide), e 4 (by decide), show 8 * k + 4 + 1 = 8 * k + 5 by omega, show 8 * k + 4 + 2 = 8 * k + 6 by omega, show 8 * k + 4 + 3 = 8 * k + 7 by omega, e 5 (by decide), e 6 (by decide), e 7 (by decide)]
  generalize q (4 * k) = a at *
  generalize q (4 * k + 1) = b at *
  generalize q (4 * k + 2) = c at *
  generalize q (4 * k + 3) = d at *
  refine ⟨?_, ?_, ?_, ?_⟩
  · show a / 2 ^ 0 % 256 + a / 256 % 256 * 256 = a
    omega
  · show b % 256 = b
    omega
  · show c % 256 = c
    omega
  · show d / 2 ^ 0 % 256 + d / 256 % 256 * 256 + d / 65536 % 256 * 65536 + d / 16777216 % 256 * 16777216 = d
    omega
end Go.Proofs.YthbcfepbkkbjiabGreatDoor
