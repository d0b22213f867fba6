import Derived.Test.YthbcfepbkkbjiabGreatDoorJWA
import Derived.Test.YthbcfepbkkbjiabGreatDoorJKD
import Derived.Test.YthbcfepbkkbjiabGreatDoorJOM
import Derived.Test.YthbcfepbkkbjiabGreatDoorJKG
namespace Go.Proofs.YthbcfepbkkbjiabGreatDoor
open Go.RowKit
set_option linter.unusedVariables false
set_option linter.unusedSimpArgs false
def YSt (w0 w : World) (b : Nat) (T : Nat → Ab) : Prop := w0.grownBy w none ∧ NSt w b (fun k => w0.heap.size ≤ k ∧ k < w.heap.size) T
theorem YSt.keep {w0 w w' : World} {b : Nat} {T : Nat → Ab} (h : YSt w0 w b T) (hg : w.grownBy w' none) : YSt w0 w' b T :=
  ⟨grown_trans h.1 hg, (h.2.keep hg).more (fun k hk => ⟨hk.1, Nat.lt_of_lt_of_le hk.2 hg.size⟩) (fun k hk => hk.2)⟩
theorem yst_of {w0 w w1 w' : World} {b : Nat} {T' : Nat → Ab} (g : w0.grownBy w none) (hg : w.grownBy w1 none) (hN : NSt w' b (Gr (fun k => w0.heap.size ≤ k ∧ k < w.heap.size) w1 w') T') (hF : Fr (fun k => w0.heap.size ≤ k ∧ k < w.heap.size) w1 w') : YSt w0 w' b T' := by
  have z1 := g.size
  have z2 := hg.size
  have z3 := hF.size
  exact ⟨hF.grown (grown_trans g hg) (fun k hk => hk.1), hN.more (fun k hk => by
    rcases hk with h | h
    · exact ⟨h.1, by omega⟩
    · exact ⟨by omega, h.2⟩) (fun k hk => hk.2)⟩
section
variable {w0 w w1 : World} {b : Nat} {T : Nat → Ab} {a1 a2 a3 a4 : Addr} {tb : TypeId} {pb : Value}
theorem yattach (h : YSt w0 w b T) (hS : Sent w0 a1 a2 a3 a4) (hl : Laid w0 tb pb) (hg : w.grownBy w1 none) (s : Int) (ao : Option Addr) (n c : Nat) (g : Nat → Int) (comp : Bool) (hn : n ≤ maxLen) (hc : n ≤ c) (ho : Oct g) (hs : Src w1 .u8 ao n g) :
    Calls Tryz.prog 9 #[.pointer (some ⟨b, 0, none⟩), .int .i64 s, .slice ao n c, .bool comp] w1 fun e w' => ∃ E T', AttR s g n T E T' ∧ e = .returned (.int .i64 E) ∧ YSt w0 w' b T' := by
  refine (nattach (h.2.keep hg) ⟨hS, hl, grown_trans h.1 hg, fun k hk => hk.1⟩ s ao n c g comp hn hc ho hs).mono ?_
  rintro e w' ⟨E, T', hA, rfl, hN, hF⟩
  exact ⟨E, T', hA, rfl, yst_of h.1 hg hN hF⟩
theorem ydetach (h : YSt w0 w b T) (hS : Sent w0 a1 a2 a3 a4) (hl : Laid w0 tb pb) (s : Int) :
    Calls Tryz.prog 16 #[.pointer (some ⟨b, 0, none⟩), .int .i64 s] w fun e w' => ∃ E T', DetR s T E T' ∧ e = .returned (.int .i64 E) ∧ YSt w0 w' b T' := by
  refine (ndetach h.2 ⟨hS, hl, h.1, fun k hk => hk.1⟩ s).mono ?_
  rintro e w' ⟨E, T', hA, rfl, hN, hF⟩
  exact ⟨E, T', hA, rfl, yst_of h.1 (grown_refl _ _) hN hF⟩
theorem yframe (h : YSt w0 w b T) (hS : Sent w0 a1 a2 a3 a4) (hl : Laid w0 tb pb) (hg : w.grownBy w1 none) (po : Option Addr) (m pc : Nat) (p : Nat → Int) (hm : m ≤ maxLen) (hmc : m ≤ pc) (hp : Oct p) (hq : Src w1 .u8 po m p) (hpo : 0 < m → ∀ k, own? po = some k → k < w0.heap.size ∨ w.heap.size ≤ k) (hd : ∀ i, i < 8 → (T i).d < 9223372036854775807) :
    Calls Tryz.prog 11 #[.pointer (some ⟨b, 0, none⟩), .slice po m pc] w1 fun e w' => e = .returned (.int .i64 (frmE m)) ∧ YSt w0 w' b (frmT T p m) := by
  refine (nframe (h.2.keep hg) ⟨hS, hl, grown_trans h.1 hg, fun k hk => hk.1⟩ po m pc p hm hmc hp hq (fun h0 k hk hu => ?_) hd).mono ?_
  · have := hpo h0 k hk
    omega
  · rintro e w' ⟨rfl, hN, hF⟩
    exact ⟨rfl, yst_of h.1 hg hN hF⟩
theorem ydropped (h : YSt w0 w b T) (hS : Sent w0 a1 a2 a3 a4) (hl : Laid w0 tb pb) (s : Int) :
    Calls Tryz.prog 12 #[.pointer (some ⟨b, 0, none⟩), .int .i64 s] w fun e w' => e = .returned (.int .i64 (drpV s T)) ∧ YSt w0 w' b T := by
  refine (ndropped h.2 ⟨hS, hl, h.1, fun k hk => hk.1⟩ s).mono ?_
  rintro e w' ⟨rfl, g'⟩
  exact ⟨rfl, h.keep g'⟩
theorem held_src {w : World} {e : TypeId} {a : Option Addr} {l c : Nat} {g : Nat → Int} (h : Held w e 1 a l c (ints .u8 g)) : Src w .u8 a l g := fun h0 => by
  rcases h with ⟨_, h1, _⟩ | ⟨B, rfl, hb, _⟩
  · omega
  · exact ⟨B, 0, rfl, fun j hj => by rw [Nat.zero_add]; exact hb.cell (by omega)⟩
theorem yreceive (h : YSt w0 w b T) (hS : Sent w0 a1 a2 a3 a4) (hl : Laid w0 tb pb) (s : Int) :
    Calls Tryz.prog 13 #[.pointer (some ⟨b, 0, none⟩), .int .i64 s] w fun e w' => ∃ E l g T' a c, RecR s T E l g T' ∧ e = .returned (.tuple #[.slice a l c, .int .i64 E]) ∧ Src w' .u8 a l g ∧ l ≤ 2000 ∧ YSt w0 w' b T' := by
  refine (nreceive h.2 ⟨hS, hl, h.1, fun k hk => hk.1⟩ s).mono ?_
  rintro e w' ⟨E, l, g, T', a, c, hR, rfl, hH, _, hl2, _, hN, hF⟩
  exact ⟨E, l, g, T', a, c, hR, rfl, held_src hH, hl2, yst_of h.1 (grown_refl _ _) (hN.more (fun k hk => hk.1) (fun k hk => hk.elim (fun h' => Nat.lt_of_lt_of_le h'.2 hF.size) (fun h' => h'.2))) hF⟩
end
def vq (v : Int) : Nat → Int := fun j => [6, 0, 0, v].getD j 0
theorem vq_room {v : Int} (hv : 0 ≤ v ∧ v < 4294967296) : ∀ i, i < 1 → Room (vq v) i := fun i hi => by
  obtain ⟨v0, v1⟩ := hv
  match i, hi with
  | 0, _ => simp [Room, vq]; omega
theorem vq_chk {v : Int} (hv : 0 ≤ v ∧ v < 4294967296) : Chk (encs (vq v)) (8 * 1) 0 0 := by
  have D := decs_all (vq_room hv)
  have D0 : decs (encs (vq v)) (4 * 0) = 6 := D 0 (by decide)
  refine chk_of (by decide) (by decide) (fun j hj => ?_) ?_ (fun j hj hb => ?_)
  · obtain rfl : j = 0 := by omega
    unfold wrong nx
    rw [D0]
    simp [kd6, wrg, okk]
  · show (kd (decs (encs (vq v)) (4 * 0))).kind = 12
    rw [D0, kd6]
  · obtain rfl : j = 0 := by omega
    have h1 := hb.1
    rw [D0, kd6] at h1
    simp at h1
theorem vq_run {v : Int} (hv : 0 ≤ v ∧ v < 4294967296) (p : Nat → Int) (m : Nat) : runF (decs (encs (vq v))) p m 256 F0 = v := by
  have D := decs_all (vq_room hv)
  have D0 : decs (encs (vq v)) 0 = 6 := D 0 (by decide)
  have D3 : decs (encs (vq v)) 3 = v := D 3 (by decide)
  generalize decs (encs (vq v)) = q at *
  rw [runF_done (f := 255) (v := v) (by simp [flt, F0, D0, D3, kd6])]
def wl (v : Nat) (L : Nat → Nat) (G : Nat → Nat → Int) (k : Nat) : List (Nat × (Nat → Int)) := if v = 0 then [] else (List.range (min k 4)).map fun i => (min (min (L i) 2000) v, G i)
def wd (v k : Nat) : Nat := if v = 0 then 0 else k - 4
theorem wl_step {v : Nat} {L : Nat → Nat} {G : Nat → Nat → Int} {q : Nat → Int} (hq : ∀ p m, runF q p m 256 F0 = (v : Int)) (k : Nat) : (⟨1, q, wl v L G k, wd v k⟩ : Ab).offer (G k) (min (L k) 2000) = ⟨1, q, wl v L G (k + 1), wd v (k + 1)⟩ := by
  have hw : (⟨1, q, wl v L G k, wd v k⟩ : Ab).want (G k) (min (L k) 2000) = (v : Int) := by simp [Ab.want, hq]
  unfold Ab.offer
  rw [hw]
  by_cases h0 : v = 0
  · subst h0
    simp [wl, wd]
  · rw [if_neg (by omega)]
    have hlen : (wl v L G k).length = min k 4 := by simp [wl, h0]
    by_cases h4 : 4 ≤ k
    · rw [if_pos (by show 4 ≤ (wl v L G k).length; rw [hlen]; omega)]
      have e1 : wl v L G (k + 1) = wl v L G k := by unfold wl; rw [show min (k + 1) 4 = min k 4 by omega]
      have e2 : wd v (k + 1) = wd v k + 1 := by unfold wd; rw [if_neg h0, if_neg h0]; omega
      rw [e1, e2]
    · rw [if_neg (by show ¬ 4 ≤ (wl v L G k).length; rw [hlen]; omega)]
      have e1 : wl v L G (k + 1) = wl v L G k ++ [(min (min (L k) 2000) v, G k)] := by
        unfold wl
        rw [if_neg h0, if_neg h0, show min (k + 1) 4 = k + 1 by omega, show min k 4 = k by omega, List.range_succ, List.map_append]
        rfl
      have e2 : wd v (k + 1) = wd v k := by unfold wd; rw [if_neg h0, if_neg h0]; omega
      rw [e1, e2]
      simp
theorem updT_upd (T : Nat → Ab) (i : Nat) (t t' : Ab) : updT (updT T i t) i t' = updT T i t' := funext fun j => by unfold updT; split <;> rfl
def T1 (r : Nat) (t : Ab) : Nat → Ab := updT (fun _ => so0.ab) r t
theorem T1_at (r : Nat) (t : Ab) : T1 r t r = t := updT_at _ _ _
theorem T1_upd (r : Nat) (t t' : Ab) : updT (T1 r t) r t' = T1 r t' := updT_upd _ _ _ _
theorem T1_d {r : Nat} {t : Ab} (h : t.d < 9223372036854775807) : ∀ i, i < 8 → (T1 r t i).d < 9223372036854775807 := fun i _ => by
  by_cases e : i = r
  · subst e; rw [T1_at]; exact h
  · rw [T1, updT_ne _ _ _ e]; show 0 < _; omega
theorem T1_frm {r : Nat} {t : Ab} {p : Nat → Int} {m : Nat} (hm : m ≤ 2000) : frmT (T1 r t) p m = T1 r (t.offer p m) := funext fun i => by
  unfold frmT
  rw [if_pos hm]
  by_cases e : i = r
  · subst e; rw [T1_at, T1_at]
  · rw [T1, T1, updT_ne _ _ _ e, updT_ne _ _ _ e]
    exact offer_free rfl p m
theorem wl_len (v : Nat) (L : Nat → Nat) (G : Nat → Nat → Int) (k : Nat) : (wl v L G k).length = if v = 0 then 0 else min k 4 := by
  unfold wl
  split <;> simp
theorem wl_at {v : Nat} {L : Nat → Nat} {G : Nat → Nat → Int} {n k : Nat} (hv : v ≠ 0) (hk : k < min n 4) : (wl v L G n).drop k = (min (min (L k) 2000) v, G k) :: (wl v L G n).drop (k + 1) := by
  have hl : k < (wl v L G n).length := by rw [wl_len, if_neg hv]; exact hk
  rw [List.drop_eq_getElem_cons hl]
  congr 1
  simp [wl, hv]
theorem wl_end {v : Nat} {L : Nat → Nat} {G : Nat → Nat → Int} {n k : Nat} (hk : v = 0 ∨ min n 4 ≤ k) : (wl v L G n).drop k = [] := List.drop_eq_nil_of_le (by
  rw [wl_len]
  split <;> omega)
end Go.Proofs.YthbcfepbkkbjiabGreatDoor
namespace Go.Proofs.YthbcfepbkkbjiabGreatDoor
open Go.RowKit
set_option linter.unusedVariables false
set_option linter.unusedSimpArgs false
theorem vq_src {w : World} {B : Nat} {e : TypeId} {v : Int} (h : Blk w B e 8 8 (ints .u8 (enc8 6 0 0 v))) : Src w .u8 (some ⟨B, 0, none⟩) 8 (encs (vq v)) := fun _ => ⟨B, 0, rfl, fun j hj => by
  rw [Nat.zero_add, h.cell hj]
  have e : encs (vq v) j = enc8 6 0 0 v j := by
    unfold encs
    rw [show j / 8 = 0 by omega, show j % 8 = j by omega]
    rfl
  rw [e]
  rfl⟩
def wt (v : Nat) (L : Nat → Nat) (G : Nat → Nat → Int) (k : Nat) : Ab := ⟨1, decs (encs (vq (v : Int))), wl v L G k, wd v k⟩
def wf (v : Nat) (L : Nat → Nat) (G : Nat → Nat → Int) (n k : Nat) : Ab := ⟨0, fun _ => 0, (wl v L G n).drop k, wd v n⟩
theorem wt_att {v : Nat} {L : Nat → Nat} {G : Nat → Nat → Int} {r : Nat} {E : Int} {T' : Nat → Ab} (hr : r < 8) (hv : v < 4294967296) (h : AttR (r : Int) (encs (vq (v : Int))) 8 (fun _ => so0.ab) E T') : E = 0 ∧ T' = T1 r (wt v L G 0) := by
  have hok : Chk (encs (vq (v : Int))) 8 0 0 := vq_chk (by omega)
  have := h.one (Or.inr ⟨by omega, by omega, Or.inr ⟨rfl, hok, rfl⟩⟩)
  rw [Int.toNat_natCast] at this
  refine ⟨this.1, this.2.trans ?_⟩
  simp [T1, wt, so0, So.ab, wl, wd]
theorem wt_frm {v : Nat} {L : Nat → Nat} {G : Nat → Nat → Int} {r : Nat} (hv : v < 4294967296) (k : Nat) : frmT (T1 r (wt v L G k)) (G k) (min (L k) 2000) = T1 r (wt v L G (k + 1)) := by
  rw [T1_frm (by omega)]
  unfold wt
  rw [wl_step (fun p m => vq_run (by omega) p m)]
theorem wt_det {v : Nat} {L : Nat → Nat} {G : Nat → Nat → Int} {r n : Nat} {E : Int} {T' : Nat → Ab} (hr : r < 8) (h : DetR (r : Int) (T1 r (wt v L G n)) E T') : E = 0 ∧ T' = T1 r (wf v L G n 0) := by
  have := h.one (Or.inr ⟨by omega, by omega, Or.inr ⟨by rw [Int.toNat_natCast, T1_at]; exact Nat.one_ne_zero, rfl, rfl⟩⟩)
  rw [Int.toNat_natCast, T1_upd, T1_at] at this
  exact ⟨this.1, this.2⟩
theorem wf_det {v : Nat} {L : Nat → Nat} {G : Nat → Nat → Int} {r n k : Nat} {E : Int} {T' : Nat → Ab} (hr : r < 8) (h : DetR (r : Int) (T1 r (wf v L G n k)) E T') : E = 11 ∧ T' = T1 r (wf v L G n k) :=
  h.one (Or.inr ⟨by omega, by omega, Or.inl ⟨by rw [Int.toNat_natCast, T1_at]; rfl, rfl, rfl⟩⟩)
theorem wf_frm {v : Nat} {L : Nat → Nat} {G : Nat → Nat → Int} {r n k : Nat} (p : Nat → Int) {m : Nat} (hm : m ≤ 2000) : frmT (T1 r (wf v L G n k)) p m = T1 r (wf v L G n k) := by
  rw [T1_frm hm, offer_free rfl]
theorem wf_rec {v : Nat} {L : Nat → Nat} {G : Nat → Nat → Int} {r n k : Nat} {E : Int} {l : Nat} {g : Nat → Int} {T' : Nat → Ab} (hr : r < 8) (hv : v ≠ 0) (hk : k < min n 4) (h : RecR (r : Int) (T1 r (wf v L G n k)) E l g T') : E = 0 ∧ l = min (min (L k) 2000) v ∧ g = G k ∧ T' = T1 r (wf v L G n (k + 1)) := by
  have := h.one (Or.inr ⟨by omega, by omega, Or.inr ⟨(wl v L G n).drop (k + 1), by rw [Int.toNat_natCast, T1_at]; exact wl_at hv hk, rfl, rfl⟩⟩)
  rw [Int.toNat_natCast, T1_upd, T1_at] at this
  exact this
theorem wf_none {v : Nat} {L : Nat → Nat} {G : Nat → Nat → Int} {r n k j : Nat} {E : Int} {l : Nat} {g : Nat → Int} {T' : Nat → Ab} (hj : j < 8) (hk : j = r → v = 0 ∨ min n 4 ≤ k) (h : RecR (j : Int) (T1 r (wf v L G n k)) E l g T') : E = 12 ∧ T' = T1 r (wf v L G n k) := by
  have := h.one (Or.inr ⟨by omega, by omega, Or.inl ⟨?_, rfl, rfl, rfl, rfl⟩⟩)
  · exact ⟨this.1, this.2.2.2⟩
  · rw [Int.toNat_natCast]
    by_cases e : j = r
    · subst e; rw [T1_at]; exact wl_end (hk rfl)
    · rw [T1, updT_ne _ _ _ e]; rfl
theorem Mat.own {w0 : World} {po : Option Addr} {n : Nat} {A : Nat → Option Addr} {L C : Nat → Nat} {G : Nat → Nat → Int} (h : Mat w0 po n A L C G) {r m : Nat} (hr : r < n) (hm : m ≤ L r) : 0 < m → ∀ k, own? (A r) = some k → k < w0.heap.size := fun h0 k hk => by
  obtain ⟨b, off, e, hR⟩ := (h.1 r hr).2.2.2 (by omega)
  rw [e] at hk
  cases hk
  exact World.block_lt_of_cell? w0 _ (hR 0 (by omega))
set_option maxRecDepth 100000 in
set_option maxHeartbeats 4000000 in
theorem law_waits (socket wanted : Int) (fast : Bool) (po : Option Addr) (n pc : Nat) (A : Nat → Option Addr) (L C : Nat → Nat) (G : Nat → Nat → Int) (a1 a2 a3 a4 : Addr) (tb : TypeId) (pb : Value) (w : World) (hs : I64 socket) (hw : I64 wanted) (hn : n ≤ maxLen) (hM : Mat w po n A L C G) (hL : Laid w tb pb) (hS : Sent w a1 a2 a3 a4) :
    Calls Tryz.prog 4 #[.int .i64 socket, .int .i64 wanted, .bool fast, .slice po n pc] w fun e w' => e = .returned (.bool true) ∧ w.grownBy w' none := by
  have HL : Hid (Laid w tb pb) := hL
  have HM : Hid (Mat w po n A L C G) := hM
  have HS : Hid (Sent w a1 a2 a3 a4) := hS
  clear hL hM hS
  unfold maxLen at hn
  go_enter Tryz.func4, Tryz.ntmps4
  go_wp2_with (first | (go_at_call 5; refine (kknown tb pb w HL.out).mono ?_; rintro e w1 ⟨rfl, hg1⟩) | (go_at_call 6; refine (nnew w1).mono ?_; rintro e w2 ⟨rfl, hN2, hg2⟩) | (go_at_call 8; refine (kpick _ _ _ hs ?_ ?_).mono ?_; omega; omega; rintro e w3 ⟨⟨r, rfl, hr⟩, rfl⟩; go_wp2_with (first | (go_at_call 8; refine (kpick _ _ _ hw ?_ ?_).mono ?_; omega; omega; rintro e w4 ⟨⟨v, rfl, hv⟩, rfl⟩) | (go_at_call 15; refine (kinsn _ _ _ _ _).mono ?_; rintro e w5 ⟨rfl, hg5, hb5⟩))))
  have hr' : r < 8 := by omega
  have hv' : v < 4294967296 := by omega
  have Y4 : YSt w1 w4 w1.heap.size (fun _ => so0.ab) := ⟨hg2, hN2⟩
  have HL1 : Hid (Laid w1 tb pb) := HL.out.keep hg1
  have HS1 : Hid (Sent w1 a1 a2 a3 a4) := HS.out.keep hg1
  have HM1 : Hid (Mat w1 po n A L C G) := HM.out.keep hg1
  clear HL HS HM hN2
  generalize hbe : w1.heap.size = b at Y4 ⊢
  refine (yattach Y4 HS1.out HL1.out hg5 _ _ 8 8 _ fast (by unfold maxLen; omega) (by omega) (encs_oct _) (vq_src hb5)).mono ?_
  rintro e w6 ⟨E, T', hA, rfl, Y6⟩
  obtain ⟨rfl, rfl⟩ := wt_att (L := L) (G := G) hr' hv' hA
  clear hA hb5 Y4 hg5 hg2 hbe
  go_wp2
  go_loopw [13, 14, 15] (fun ve vn vi wr => ∃ k : Nat, k ≤ n ∧ ve = .int .i64 0 ∧ vn = .int .i64 (if v = 0 then (0 : Int) else (k : Int)) ∧ vi = .int .i64 k ∧ YSt w1 wr b (T1 r (wt v L G k))) (fun _ _ vi _ => n - (intOf vi).toNat)
  case atStart => exact ⟨0, Nat.zero_le _, rfl, by simp, rfl, Y6⟩
  case round =>
    obtain ⟨k, hk, rfl, rfl, rfl, Yk⟩ := hrel
    by_cases hlt : k < n
    · obtain ⟨bb, bo, rfl, hcell, hLC, hCm, hO, hSr⟩ := (HM1.out.keep Yk.1).at hlt
      have t1 : (k : Int) < (n : Int) := by omega
      have hm2 : min (L k) 2000 ≤ L k := by omega
      have HF : Hid (Calls Tryz.prog 11 #[.pointer (some ⟨b, 0, none⟩), .slice (A k) (min (L k) 2000 : Nat) (C k)] wr fun e w' => e = .returned (.int .i64 0) ∧ YSt w1 w' b (T1 r (wt v L G (k + 1)))) := by
        refine (yframe Yk HS1.out HL1.out (grown_refl _ _) (A k) (min (L k) 2000) (C k) (G k) (by unfold maxLen; omega) (by omega) hO (hSr.less hm2) (fun h0 x hx => Or.inl (HM1.out.own hlt hm2 h0 x hx)) (T1_d (by show wd v k < _; unfold wd; split <;> omega))).mono ?_
        rintro e w' ⟨rfl, Y'⟩
        rw [wt_frm hv'] at Y'
        exact ⟨by rw [show frmE (min (L k) 2000) = 0 from if_pos (by omega)], Y'⟩
      have HPk : Hid (Calls Tryz.prog 10 #[.slice (A k) (L k) (C k)] wr fun e w' => e = .returned (.slice (A k) (min (L k) 2000 : Nat) (C k)) ∧ w' = wr) := kpacket _ _ _ _ (Nat.le_trans hLC hCm) hLC
      clear hSr hO hv hr hw hs
      have HV' : Hid (v < 4294967296) := hv'
      clear hv' hCm hLC
      by_cases hv0 : v = 0
      · have tv : ¬ ((0 : Int) < (v : Int)) := by omega
        rw [if_pos hv0]
        have Hv0 : Hid (v = 0) := hv0
        clear hv0
        go_wp2_with (first | (go_at_call 10; refine HPk.out.mono ?_; rintro e w7 ⟨rfl, rfl⟩) | (go_at_call 11; refine HF.out.mono ?_; rintro e w8 ⟨rfl, Y8⟩))
        go_roundw
        case rel => exact ⟨k + 1, by omega, rfl, by rw [if_pos Hv0.out], by go_num, Y8⟩
        case measure => simp [intOf]; omega
      · have tv : (0 : Int) < (v : Int) := by omega
        rw [if_neg hv0]
        go_wp2_with (first | (go_at_call 10; refine HPk.out.mono ?_; rintro e w7 ⟨rfl, rfl⟩) | (go_at_call 11; refine HF.out.mono ?_; rintro e w8 ⟨rfl, Y8⟩))
        go_roundw
        case rel => exact ⟨k + 1, by omega, rfl, by rw [if_neg hv0]; go_num, by go_num, Y8⟩
        case measure => simp [intOf]; omega
    · obtain rfl : k = n := by omega
      obtain ⟨wl, hwl⟩ : ∃ x, x = wr := ⟨_, rfl⟩
      subst hwl
      obtain ⟨cn, hcn⟩ : ∃ cn : Nat, (if v = 0 then (0 : Int) else (k : Int)) = (cn : Int) := ⟨if v = 0 then 0 else k, by split <;> rfl⟩
      rw [hcn]
      have hcn1 : cn = if v = 0 then 0 else k := by
        by_cases h : v = 0
        · rw [if_pos h] at hcn ⊢; omega
        · rw [if_neg h] at hcn ⊢; omega
      have hwd : max 0 ((cn : Int) - 4) = ((wd v k : Nat) : Int) := by
        unfold wd
        by_cases h : v = 0
        · rw [if_pos h] at hcn1 ⊢; subst hcn1; omega
        · rw [if_neg h] at hcn1 ⊢; subst hcn1; omega
      have HD1 : Hid (Calls Tryz.prog 16 #[.pointer (some ⟨b, 0, none⟩), .int .i64 (r : Int)] wl fun e w' => e = .returned (.int .i64 0) ∧ YSt w1 w' b (T1 r (wf v L G k 0))) := by
        refine (ydetach Yk HS1.out HL1.out r).mono ?_
        rintro e w' ⟨E, T', hD, rfl, Y'⟩
        obtain ⟨rfl, rfl⟩ := wt_det hr' hD
        exact ⟨rfl, Y'⟩
      have HD2 : Hid (∀ w2, YSt w1 w2 b (T1 r (wf v L G k 0)) → Calls Tryz.prog 16 #[.pointer (some ⟨b, 0, none⟩), .int .i64 (r : Int)] w2 fun e w' => e = .returned (.int .i64 11) ∧ YSt w1 w' b (T1 r (wf v L G k 0))) := fun w2 Y2 => by
        refine (ydetach Y2 HS1.out HL1.out r).mono ?_
        rintro e w' ⟨E, T', hD, rfl, Y'⟩
        obtain ⟨rfl, rfl⟩ := wf_det hr' hD
        exact ⟨rfl, Y'⟩
      have HF2 : Hid (∀ w2 o, YSt w1 w2 b (T1 r (wf v L G k 0)) → o = Obj.cells #[.int .u8 1] 5 → Calls Tryz.prog 11 #[.pointer (some ⟨b, 0, none⟩), .slice (some ⟨w2.heap.size, 0, none⟩) 1 1] (w2.alloc o) fun e w' => e = .returned (.int .i64 0) ∧ YSt w1 w' b (T1 r (wf v L G k 0))) := fun w2 o Y2 ho => by
        subst ho
        refine (yframe Y2 HS1.out HL1.out (World.grownBy_alloc w2 _ none) (some ⟨w2.heap.size, 0, none⟩) 1 1 (fun _ => 1) (by unfold maxLen; omega) (Nat.le_refl _) (fun _ => by show (0 : Int) ≤ 1 ∧ (1 : Int) ≤ 255; decide) (fun _ => ⟨w2.heap.size, 0, rfl, fun j hj => by
          obtain rfl : j = 0 := by omega
          rw [World.cell?_alloc_new]; rfl⟩) (fun _ x hx => by cases hx; exact Or.inr (Nat.le_refl _)) (T1_d (by show wd v k < _; unfold wd; split <;> omega))).mono ?_
        rintro e w' ⟨rfl, Y'⟩
        rw [wf_frm _ (by omega)] at Y'
        exact ⟨rfl, Y'⟩
      have HDr : Hid (∀ w2, YSt w1 w2 b (T1 r (wf v L G k 0)) → Calls Tryz.prog 12 #[.pointer (some ⟨b, 0, none⟩), .int .i64 (r : Int)] w2 fun e w' => e = .returned (.int .i64 ((wd v k : Nat) : Int)) ∧ YSt w1 w' b (T1 r (wf v L G k 0))) := fun w2 Y2 => by
        refine (ydropped Y2 HS1.out HL1.out r).mono ?_
        rintro e w' ⟨rfl, Y'⟩
        refine ⟨?_, Y'⟩
        have : drpV (r : Int) (T1 r (wf v L G k 0)) = ((wd v k : Nat) : Int) := by
          unfold drpV
          rw [if_neg (by omega), Int.toNat_natCast, T1_at]
          rfl
        rw [this]
      have hcb : cn ≤ k := by rw [hcn1]; split <;> omega
      have HCN : Hid (cn = if v = 0 then 0 else k) := hcn1
      clear Yk hs hw hv hv' hcn hcn1
      go_wp2_with (first | (go_at_call 16; refine HD1.out.mono ?_; rintro e w8 ⟨rfl, Y8⟩; go_wp2_with (first | (go_at_call 16; refine (HD2.out _ Y8).mono ?_; rintro e w9 ⟨rfl, Y9⟩) | (go_at_call 11; refine (HF2.out _ _ Y9 rfl).mono ?_; rintro e w10 ⟨rfl, Y10⟩) | (go_at_call 12; refine (HDr.out _ Y10).mono ?_; rintro e w11 ⟨rfl, Y11⟩))))
      go_loopw [19] (fun vi wr => ∃ j : Nat, j ≤ min cn 4 ∧ vi = .int .i64 j ∧ YSt w1 wr b (T1 r (wf v L G k j))) (fun vi _ => 4 - (intOf vi).toNat)
      case atStart => exact ⟨0, Nat.zero_le _, rfl, Y11⟩
      case round =>
        obtain ⟨j, hj, rfl, Yj⟩ := hrel
        by_cases hlt2 : j < min cn 4
        · have hjk : j < k := by omega
          have hv0 : v ≠ 0 := fun e => by have := HCN.out; rw [if_pos e] at this; omega
          obtain ⟨bb, bo, rfl, hcell, hLC, hCm, hO, hSr⟩ := (HM1.out.keep Yj.1).at hjk
          have HPk : Hid (Calls Tryz.prog 10 #[.slice (A j) (L j) (C j)] wr fun e w' => e = .returned (.slice (A j) (min (L j) 2000 : Nat) (C j)) ∧ w' = wr) := kpacket _ _ _ _ (Nat.le_trans hLC hCm) hLC
          have HR : Hid (Calls Tryz.prog 13 #[.pointer (some ⟨b, 0, none⟩), .int .i64 (r : Int)] wr fun e w' => ∃ a c, e = .returned (.tuple #[.slice a (min (min (L j) 2000) v : Nat) c, .int .i64 0]) ∧ (Src w' .u8 a (min (min (L j) 2000) v) (G j) ∧ Src w' .u8 (A j) (min (min (L j) 2000) v) (G j)) ∧ YSt w1 w' b (T1 r (wf v L G k (j + 1)))) := by
            refine (yreceive Yj HS1.out HL1.out r).mono ?_
            rintro e w' ⟨E, l, g, T', a, c, hR, rfl, hS', _, Y'⟩
            obtain ⟨rfl, rfl, rfl, rfl⟩ := wf_rec hr' hv0 (by have := HCN.out; rw [if_neg hv0] at this; omega) hR
            exact ⟨a, c, rfl, ⟨hS', ((HM1.out.keep Y'.1).1 j hjk).2.2.2.less (by omega)⟩, Y'⟩
          have tj : (j : Int) < (cn : Int) := by omega
          have tj4 : (j : Int) < 4 := by omega
          obtain ⟨m, hm⟩ : ∃ m, min (L j) 2000 = m := ⟨_, rfl⟩
          rw [hm] at HPk HR
          have hmC : m ≤ C j := by omega
          have Hm2 : Hid (m ≤ 2000) := by show m ≤ 2000; omega
          clear hSr hO hCm hLC hm
          by_cases hvm : v < m
          · have tvm : (v : Int) < (m : Int) := by omega
            have tvc : (v : Int) ≤ (C j : Int) := by omega
            rw [show min m v = v by omega] at HR
            go_wp2_with (first | (go_at_call 10; refine HPk.out.mono ?_; rintro e w12 ⟨rfl, rfl⟩) | (go_at_call 13; refine HR.out.mono ?_; rintro e w13 ⟨ra, rc, rfl, ⟨hs1, hs2⟩, Y13⟩) | (go_at_call 14; refine (ksame _ _ v _ _ _ _ (by have := Hm2.out; omega) hs1 hs2).mono ?_; rintro e w14 ⟨rfl, hg14⟩))
            go_roundw
            case rel => exact ⟨j + 1, by omega, by go_num, Y13.keep hg14⟩
            case measure => simp [intOf]; omega
          · have tvm : ¬ ((v : Int) < (m : Int)) := by omega
            rw [show min m v = m by omega] at HR
            go_wp2_with (first | (go_at_call 10; refine HPk.out.mono ?_; rintro e w12 ⟨rfl, rfl⟩) | (go_at_call 13; refine HR.out.mono ?_; rintro e w13 ⟨ra, rc, rfl, ⟨hs1, hs2⟩, Y13⟩) | (go_at_call 14; refine (ksame _ _ m _ _ _ _ (by have := Hm2.out; omega) hs1 hs2).mono ?_; rintro e w14 ⟨rfl, hg14⟩))
            go_roundw
            case rel => exact ⟨j + 1, by omega, by go_num, Y13.keep hg14⟩
            case measure => simp [intOf]; omega
        · obtain ⟨wm, hwm⟩ : ∃ x, x = wr := ⟨_, rfl⟩
          subst hwm
          have hend : v = 0 ∨ min k 4 ≤ j := by
            have := HCN.out
            by_cases h : v = 0
            · exact Or.inl h
            · rw [if_neg h] at this; omega
          have HR1 : Hid (Calls Tryz.prog 13 #[.pointer (some ⟨b, 0, none⟩), .int .i64 (r : Int)] wm fun e w' => (∃ a l c, e = .returned (.tuple #[.slice a l c, .int .i64 12])) ∧ YSt w1 w' b (T1 r (wf v L G k j))) := by
            refine (yreceive Yj HS1.out HL1.out r).mono ?_
            rintro e w' ⟨E, l, g, T', a, c, hR, rfl, _, _, Y'⟩
            obtain ⟨rfl, rfl⟩ := wf_none hr' (fun _ => hend) hR
            exact ⟨⟨a, l, c, rfl⟩, Y'⟩
          have HR2 : Hid (∀ w2, YSt w1 w2 b (T1 r (wf v L G k j)) → Calls Tryz.prog 13 #[.pointer (some ⟨b, 0, none⟩), .int .i64 (((r : Int) + 1) % 8)] w2 fun e w' => (∃ a l c, e = .returned (.tuple #[.slice a l c, .int .i64 12])) ∧ YSt w1 w' b (T1 r (wf v L G k j))) := fun w2 Y2 => by
            obtain ⟨q, hq⟩ : ∃ q : Nat, ((r : Int) + 1) % 8 = (q : Int) := ⟨(((r : Int) + 1) % 8).toNat, by omega⟩
            rw [hq]
            refine (yreceive Y2 HS1.out HL1.out q).mono ?_
            rintro e w' ⟨E, l, g, T', a, c, hR, rfl, _, _, Y'⟩
            obtain ⟨rfl, rfl⟩ := wf_none (by omega) (fun e => by omega) hR
            exact ⟨⟨a, l, c, rfl⟩, Y'⟩
          have tj : ¬ ((j : Int) < (cn : Int)) ∨ ((j : Int) < (cn : Int) ∧ ¬ ((j : Int) < 4)) := by omega
          have Hend : Hid (v = 0 ∨ min k 4 ≤ j) := hend
          clear hend hlt2 hj
          rcases tj with tj | ⟨tj, tj4⟩
          all_goals
            go_wp2_with (go_at_call 13; refine HR1.out.mono ?_; rintro e w12 ⟨⟨ra, rl, rc, rfl⟩, Y12⟩; go_wp2_with (go_at_call 13; refine (HR2.out _ Y12).mono ?_; rintro e w13 ⟨⟨rb, rl2, rc2, rfl⟩, Y13⟩))
            go_ret
            exact ⟨rfl, grown_trans hg1 Y13.1⟩
end Go.Proofs.YthbcfepbkkbjiabGreatDoor
