/- gauge.checked, gauge.Run, the law Runs. -/
import Derived.Test.YtgmimakoliifdaaGreatDoorRO
import Derived.Test.YtgmimakoliifdaaGreatDoorY3
import Derived.Test.YtgmimakoliifdaaGreatDoorX3
namespace Go.Proofs.YtgmimakoliifdaaGreatDoor
open Go.RowKit
set_option linter.unusedVariables false
set_option linter.unusedSimpArgs false

theorem pdecode_row (b off n c : Nat) (g : Nat → Int) (w : World) (h1 : 1 ≤ n) (hn : n ≤ 256) (hc : 8 * n ≤ c) (hg : Oct g) (hR : Row w .u8 b off (8 * n) g) :
    Calls Tryz.prog 47 #[.slice (some ⟨b, off, none⟩) (8 * n : Nat) c] w fun e w' => ∃ B, e = .returned (.tuple #[.slice (some ⟨B, 0, none⟩) n n, .int .i64 0]) ∧ Row w' .i64 B 0 (4 * n) (decs g) ∧ w.grownBy w' none := by
  refine (decode_good b off n c g w h1 hn hc hg hR).mono ?_
  rintro e w' ⟨B, rfl, hB, hg1, hb⟩
  exact ⟨B, rfl, fun j hj => by rw [Nat.zero_add]; exact hb.cell (by omega), hg1⟩

set_option maxRecDepth 100000 in
set_option maxHeartbeats 1000000 in
theorem checked_ok (b off j c : Nat) (g : Nat → Int) (tb : TypeId) (pb : Value) (w : World) (h1 : 1 ≤ j) (hj : j ≤ 256) (hc : 8 * j ≤ c) (hg : Oct g) (hR : Row w .u8 b off (8 * j) g) (hl : Laid w tb pb) (hok : Chk g (8 * j) 0 0) :
    Calls Tryz.prog 37 #[.slice (some ⟨b, off, none⟩) (8 * j : Nat) c] w fun e w' => ∃ B, e = .returned (.tuple #[.slice (some ⟨B, 0, none⟩) j j, .int .i64 0]) ∧ Row w' .i64 B 0 (4 * j) (decs g) ∧ w.grownBy w' none := by
  have HO : Hid (Chk g (8 * j) 0 0) := hok
  have HS : Src w .u8 (some ⟨b, off, none⟩) (8 * j) g := fun _ => ⟨b, off, rfl, hR⟩
  clear hok
  go_enter Tryz.func37, Tryz.ntmps37
  go_wp2_with (first | (go_at_call 30; refine (check_any _ (8 * j) c g tb pb w (by unfold maxLen; omega) hc hg HS hl).mono ?_; rintro e w1 ⟨⟨E, k, rfl, hC⟩, hg1⟩; obtain ⟨rfl, rfl⟩ := hC.one HO.out) | (go_at_call 47; refine (pdecode_row b off j c g w1 h1 hj hc hg (hR.keep hg1 (by simp))).mono ?_; rintro e w2 ⟨B, rfl, hB, hg2⟩))
  go_ret2
  exact ⟨B, rfl, hB, grown_trans hg1 hg2⟩

set_option maxRecDepth 100000 in
set_option maxHeartbeats 1000000 in
theorem checked_no (ao : Option Addr) (n c : Nat) (g : Nat → Int) (tb : TypeId) (pb : Value) (w : World) (hm : n ≤ maxLen) (hc : n ≤ c) (hg : Oct g) (h : Src w .u8 ao n g) (hl : Laid w tb pb) (hno : ¬ Chk g n 0 0) :
    Calls Tryz.prog 37 #[.slice ao n c] w fun e w' => ∃ E k, e = .returned (.tuple #[.slice none 0 0, .int .i64 E]) ∧ E ≠ 0 ∧ Chk g n E k ∧ w.grownBy w' none := by
  have HO : Hid (¬ Chk g n 0 0) := hno
  clear hno
  go_enter Tryz.func37, Tryz.ntmps37
  go_wp2_with (go_at_call 30; refine (check_any ao n c g tb pb w hm hc hg h hl).mono ?_; rintro e w1 ⟨⟨E, k, rfl, hC⟩, hg1⟩; have hE : E ≠ 0 := chk_ne hC HO.out; have hE' : (E != 0) = true := (by simp [hE]))
  go_ret2
  exact ⟨E, k, rfl, hE, hC, hg1⟩

theorem ite_u32 {c : Prop} [Decidable c] {a b : Int} (h1 : U32 a) (h2 : U32 b) : U32 (if c then a else b) := by split <;> assumption

theorem runF_u32 {q : Nat → Int} {n : Nat} {p : Nat → Int} {m : Nat} (h : Good q n) (hp : Oct p) (hm : m ≤ 2000) : ∀ (f : Nat) (S : Flt), FInv n S → U32 (runF q p m f S)
  | 0, S, _ => u32_zero
  | f + 1, S, hI => by
    show U32 (if (flt q p m S).done = true then (flt q p m S).v else runF q p m f (flt q p m S).S)
    cases hd : (flt q p m S).done with
    | true =>
      rw [if_pos rfl]
      have u3 := num_u32 h.num (4 * S.pc + 3)
      simp only [flt, apply_ite Fres.v, ite_self]
      repeat' (refine ite_u32 ?_ ?_)
      all_goals first | exact u32_zero | exact hI.a | exact u3
    | false =>
      rw [if_neg (by simp)]
      exact runF_u32 h hp hm f _ (flt_inv h hp hm hI hd).1

set_option maxRecDepth 100000 in
set_option maxHeartbeats 1000000 in
theorem grun_any (ao : Option Addr) (n c : Nat) (g : Nat → Int) (po : Option Addr) (m pc : Nat) (p : Nat → Int) (tb : TypeId) (pb : Value) (w : World) (hn : n ≤ maxLen) (hm : m ≤ maxLen) (hc : n ≤ c) (hmc : m ≤ pc) (hg : Oct g) (hp : Oct p) (hs : Src w .u8 ao n g) (hq : Src w .u8 po m p) (hl : Laid w tb pb) :
    Calls Tryz.prog 12 #[.slice ao n c, .slice po m pc] w fun e w' => (∃ v E, e = .returned (.tuple #[.int .i64 v, .int .i64 E]) ∧ RunS g n p m v E) ∧ w.grownBy w' none := by
  unfold maxLen at hm
  by_cases hok : Chk g n 0 0
  · obtain ⟨hb, hG⟩ := chk_good hg hok
    obtain ⟨j, hj⟩ : ∃ j, n = 8 * j := ⟨n / 8, by unfold badSize at hb; omega⟩
    have hjj : 1 ≤ j ∧ j ≤ 256 := by unfold badSize at hb; omega
    rw [show n / 8 = j by omega] at hG
    have HO : Hid (Chk g n 0 0) := hok
    obtain ⟨b, off, rfl, hR⟩ := hs (by omega)
    clear hok hb
    subst hj
    by_cases h2 : m ≤ 2000
    · have u := runF_u32 hG hp h2 256 F0 (finv0 hjj.1)
      have HF : Hid (∀ (B : Nat) w', Row w' .i64 B 0 (4 * j) (decs g) → Src w' .u8 po m p → Calls Tryz.prog 38 #[.slice (some ⟨B, 0, none⟩) j j, .slice po m pc] w' fun e w'' => e = .returned (.int .u32 (runF (decs g) p m 256 F0)) ∧ w'.grownBy w'' none) := fun B w' h3 h4 => pfilter B 0 j j (decs g) po m pc p w' hjj.2 h2 hmc hp h3 h4 hG
      have HS : Hid (RunS g (8 * j) p m (runF (decs g) p m 256 F0) 0) := Or.inr ⟨HO.out, Or.inr ⟨h2, rfl, rfl⟩⟩
      generalize runF (decs g) p m 256 F0 = R at *
      obtain ⟨u0, u1⟩ := u
      have uW : IntKind.i64.wrap R = R := by rw [IntKind.wrap_i64]; omega
      go_enter Tryz.func12, Tryz.ntmps12
      go_wp2_with (first | (go_at_call 37; refine (checked_ok b off j _ g tb pb w hjj.1 hjj.2 hc hg hR hl HO.out).mono ?_; rintro e w1 ⟨B, rfl, hB, hg1⟩) | (go_at_call 38; refine (HF.out B w1 hB (hq.keep hg1)).mono ?_; rintro e w2 ⟨rfl, hg2⟩))
      go_ret2
      exact ⟨⟨_, _, rfl, HS.out⟩, grown_trans hg1 hg2⟩
    · go_enter Tryz.func12, Tryz.ntmps12
      go_wp2_with (go_at_call 37; refine (checked_ok b off j _ g tb pb w hjj.1 hjj.2 hc hg hR hl HO.out).mono ?_; rintro e w1 ⟨B, rfl, hB, hg1⟩)
      go_ret2
      exact ⟨⟨_, _, rfl, Or.inr ⟨HO.out, Or.inl ⟨by omega, rfl, rfl⟩⟩⟩, hg1⟩
  · have HO : Hid (¬ Chk g n 0 0) := hok
    clear hok
    go_enter Tryz.func12, Tryz.ntmps12
    go_wp2_with (go_at_call 37; refine (checked_no ao n c g tb pb w hn hc hg hs hl HO.out).mono ?_; rintro e w1 ⟨E, k, rfl, hE, hC, hg1⟩; have hE' : (E != 0) = true := (by simp [hE]))
    go_ret2
    exact ⟨⟨_, _, rfl, Or.inl ⟨hE, rfl, k, hC⟩⟩, hg1⟩

theorem src_pad' {w : World} {H : Nat} {e : TypeId} {N n : Nat} {g : Nat → Int} (h : Blk w H e N (n + 4) (ints .u8 (pad g n))) : Src w .u8 (some ⟨H, 0, none⟩) n g :=
  fun _ => ⟨H, 0, rfl, fun j hj => by
    rw [Nat.zero_add, h.cell (by omega)]
    show some (Value.int .u8 (pad g n j)) = _
    rw [show pad g n j = g j from if_pos hj]⟩

set_option maxRecDepth 100000 in
set_option maxHeartbeats 1000000 in
theorem law_runs (lo : Option Addr) (ln lc : Nat) (fit : Bool) (q : Nat → Int) (po : Option Addr) (pn pc : Nat) (p : Nat → Int) (tb : TypeId) (pb : Value) (w : World) (hln : ln ≤ 4398046511000) (hl : SrcI w lo ln q) (hi64 : ∀ j, j < 4 * ln → I64 (q j)) (hpn : pn ≤ 140737488351232) (hp : Oct p) (hq : Src w .u8 po pn p) (hL : Laid w tb pb) :
    Calls Tryz.prog 3 #[.agg #[.slice lo ln lc, .bool fit], .slice po pn pc] w fun e w' => e = .returned (.bool true) ∧ w.grownBy w' none := by
  have hmax : 140737488355328 ≤ maxLen := by unfold maxLen; omega
  go_enter Tryz.func3, Tryz.ntmps3
  go_wp2_with (go_at_call 10; refine (filter_any lo ln lc fit q _ hln (hl.keep (World.grownBy_alloc w _ none)) hi64).mono ?_; rintro e w1 ⟨ao, m, c, g, rfl, hoct, hm, hs, hg1⟩; have G1 := grown_trans (World.grownBy_alloc w _ none) hg1; go_wp2_with (go_at_call 11; refine (bytes_any ao m c g _ (by omega) hs).mono ?_; rintro e w2 ⟨H, rfl, hH, hg2, hb2⟩; have G2 := grown_trans G1 hg2; go_wp2_with (go_at_call 11; refine (bytes_any po pn pc p _ (by omega) (hq.keep G2)).mono ?_; rintro e w3 ⟨P, rfl, hP, hg3, hb3⟩; have G3 := grown_trans G2 hg3; go_wp2_with (first
    | (go_at_call 12; refine (grun_any _ m _ g _ pn _ p tb pb _ (by omega) (by omega) (by omega) (by omega) hoct hp (src_pad' (hb2.keep hg3 (by simp))) (src_pad' hb3) (hL.keep G3)).mono ?_; rintro e w4 ⟨⟨v, E, rfl, hE⟩, hg4⟩; have G4 := grown_trans G3 hg4)
    | (go_at_call 13; refine (rrun_any ao m c g po pn pc p _ (by omega) (by omega) hoct hp (hs.keep (grown_trans (grown_trans hg2 hg3) hg4)) (hq.keep G4)).mono ?_; rintro e w5 ⟨⟨v', E', rfl, hE'⟩, hg5⟩; obtain ⟨rfl, rfl⟩ := hE.one hE'; have G5 := grown_trans G4 hg5; go_wp2_with (go_at_call 14; refine (kept_any H ao m c (m + 4) g _ _ (by omega) (by omega) (hb2.keep (grown_trans (grown_trans hg3 hg4) hg5) (by simp)) (hs.keep (grown_trans (grown_trans (grown_trans hg2 hg3) hg4) hg5))).mono ?_; rintro e w6 ⟨rfl, hg6⟩; go_wp2_with (go_at_call 14; refine (kept_any P po pn pc (pn + 4) p _ _ (by omega) (by omega) (hb3.keep (grown_trans (grown_trans hg4 hg5) hg6) (by simp)) (hq.keep (grown_trans G5 hg6))).mono ?_; rintro e w7 ⟨rfl, hg7⟩)))))))
  go_ret
  exact ⟨rfl, grown_trans (grown_trans G5 hg6) hg7⟩

end Go.Proofs.YtgmimakoliifdaaGreatDoor
