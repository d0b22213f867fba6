import Derived.Test.YthbcfepbkkbjiaaGreatDoorJDP
import Derived.Test.YthbcfepbkkbjiaaGreatDoorJK
namespace Go.Proofs.YthbcfepbkkbjiaaGreatDoor
open Go.RowKit
set_option linter.unusedVariables false
set_option linter.unusedSimpArgs false
set_option maxRecDepth 100000 in
set_option maxHeartbeats 1000000 in
theorem kverdict (ao : Option Addr) (j c : Nat) (g : Nat → Int) (po : Option Addr) (m pc : Nat) (p : Nat → Int) (tb : TypeId) (pb : Value) (w : World) (h1 : 1 ≤ j) (hj : j ≤ 256) (hc : 8 * j ≤ c) (hm : m ≤ 2000) (hmc : m ≤ pc) (hg : Oct g) (hp : Oct p) (hs : Src w .u8 ao (8 * j) g) (hq : Src w .u8 po m p) (hl : Laid w tb pb) (hok : Chk g (8 * j) 0 0) :
    Calls Tryz.prog 34 #[.slice ao (8 * j : Nat) c, .slice po m pc] w fun e w' => e = .returned (.int .i64 (runF (decs g) p m 256 F0)) ∧ w.grownBy w' none := by
  have hG : Good (decs g) j := by
    have := (chk_good hg hok).2
    rwa [show 8 * j / 8 = j by omega] at this
  obtain ⟨b, off, rfl, hR⟩ := hs (by omega)
  have u := runF_u32 hG hp hm 256 F0 (finv0 h1)
  obtain ⟨cst, hcst, hex⟩ := code_exec hG hj hp hm
  have HRn : Hid (Calls Tryz.prog 13 #[.slice (some ⟨b, off, none⟩) (8 * j : Nat) c, .slice po m pc] w fun e w' => e = .returned (.tuple #[.int .i64 (runF (decs g) p m 256 F0), .int .i64 0]) ∧ w.grownBy w' none) := by
    refine (grun_any _ (8 * j) c g po m pc p tb pb w (by unfold maxLen; omega) (by unfold maxLen; omega) hc hmc hg hp hs hq hl).mono ?_
    rintro e w2 ⟨⟨v, E, rfl, hE⟩, hg2⟩
    obtain ⟨rfl, rfl⟩ := hE.one (Or.inr ⟨hok, Or.inr ⟨hm, rfl, rfl⟩⟩)
    exact ⟨rfl, hg2⟩
  have HCm : Hid (∀ w', w.grownBy w' none → Calls Tryz.prog 16 #[.slice (some ⟨b, off, none⟩) (8 * j : Nat) c] w' fun e w'' => ∃ B cap, e = .returned (.tuple #[.slice (some ⟨B, 0, none⟩) (start (decs g) j) cap, .int .i64 0]) ∧ (start (decs g) j ≤ cap ∧ Src w'' .u8 (some ⟨B, 0, none⟩) (start (decs g) j) (codeF (decs g) j)) ∧ w'.grownBy w'' none) := fun w' hg' => by
    refine (gcompile_ok b off j c g tb pb w' h1 hj hc hg (hR.keep hg' (by simp)) (hl.keep hg') hok).mono ?_
    rintro e w2 ⟨B, cap, rfl, ho, hg2⟩
    obtain ⟨_, _, hv, _, hcp⟩ := owns_form ho (start_pos _ h1)
    cases hv
    exact ⟨B, cap, rfl, ⟨hcp, vals_src ho (full_len _ _).symm⟩, hg2⟩
  have hsb := start_bd (decs g) j
  have HEx : Hid (∀ (B cap : Nat) w', w.grownBy w' none → start (decs g) j ≤ cap → Src w' .u8 (some ⟨B, 0, none⟩) (start (decs g) j) (codeF (decs g) j) → Calls Tryz.prog 33 #[.slice (some ⟨B, 0, none⟩) (start (decs g) j) cap, .slice po m pc] w' fun e w'' => e = .returned (.tuple #[.int .i64 (runF (decs g) p m 256 F0), .int .i64 cst, .int .i64 0]) ∧ w'.grownBy w'' none) := fun B cap w' hg' hcp hs' => by
    have := gexec_all (some ⟨B, 0, none⟩) (start (decs g) j) cap (codeF (decs g) j) po m pc p w' (by omega) hcp (by omega) hmc (codeF_oct hG) hp hs' (hq.keep hg')
    unfold execV at this
    rw [if_pos hm, hex] at this
    exact this
  clear hex
  generalize runF (decs g) p m 256 F0 = R at *
  generalize start (decs g) j = N at *
  obtain ⟨u0, u1⟩ := u
  have t1 : decide (R < 0) = false := by simp; omega
  have t2 : (R != R) = false := by simp
  clear hs hR
  go_enter Tryz.func34, Tryz.ntmps34
  go_wp2_with (first | (go_at_call 13; refine HRn.out.mono ?_; rintro e w1 ⟨rfl, hg1⟩) | (go_at_call 16; refine (HCm.out _ hg1).mono ?_; rintro e w2 ⟨B, cap, rfl, ⟨hcp, hsB⟩, hg2⟩; have G2 := grown_trans hg1 hg2) | (go_at_call 33; refine (HEx.out _ _ _ G2 hcp hsB).mono ?_; rintro e w3 ⟨rfl, hg3⟩))
  go_ret
  exact ⟨rfl, grown_trans G2 hg3⟩
end Go.Proofs.YthbcfepbkkbjiaaGreatDoor
namespace Go.Proofs.YthbcfepbkkbjiaaGreatDoor
open Go.RowKit
set_option linter.unusedVariables false
set_option linter.unusedSimpArgs false
def Quads (w : World) (B L : Nat) (u : Nat → Int) : Prop := ∀ i, i < L → ∃ b, w.cell? ⟨B, i, none⟩ = some (.slice (some ⟨b, 0, none⟩) 4 4) ∧ w.cell? ⟨b, 0, none⟩ = some (.int .i64 (u (4 * i))) ∧ w.cell? ⟨b, 1, none⟩ = some (.int .i64 (u (4 * i + 1))) ∧ w.cell? ⟨b, 2, none⟩ = some (.int .i64 (u (4 * i + 2))) ∧ w.cell? ⟨b, 3, none⟩ = some (.int .i64 (u (4 * i + 3)))
def fls (u : Nat → Int) (k : Nat) : List Int := (List.range (8 * k)).map (encs u)
def e8l (c a b k : Int) : List Int := (List.range 8).map (enc8 c a b k)
theorem fls_len (u : Nat → Int) (k : Nat) : (fls u k).length = 8 * k := by simp [fls]
theorem fls_succ (u : Nat → Int) (k : Nat) : fls u (k + 1) = fls u k ++ e8l (u (4 * k)) (u (4 * k + 1)) (u (4 * k + 2)) (u (4 * k + 3)) := by
  apply List.ext_getElem
  · simp [fls, e8l]; omega
  · intro j h1 h2
    rw [fls_len] at h1
    by_cases h : j < 8 * k
    · rw [List.getElem_append_left (by rw [fls_len]; exact h)]
      simp [fls]
    · rw [List.getElem_append_right (by rw [fls_len]; omega)]
      have := encs_at u k (j - 8 * k) (by omega)
      rw [show 8 * k + (j - 8 * k) = j by omega] at this
      simp only [fls, e8l, List.getElem_map, List.getElem_range, List.length_map, List.length_range, this]
theorem e8_row {w : World} {g : Nat} {e : TypeId} {c a b k : Int} (hb : Blk w g e 8 8 (ints .u8 (enc8 c a b k))) : Row w .u8 g 0 (e8l c a b k).length (fun j => (e8l c a b k).getD j 0) := by
  intro j hj
  have hj8 : j < 8 := by simpa [e8l] using hj
  have := hb.cell hj8
  have e : (e8l c a b k).getD j 0 = enc8 c a b k j := by simp [e8l, List.getD, hj8]
  simp only [e, Nat.zero_add]
  exact this
def Cell5 (w : World) (B i b : Nat) (x0 x1 x2 x3 : Int) : Prop := w.cell? ⟨B, i, none⟩ = some (.slice (some ⟨b, 0, none⟩) 4 4) ∧ w.cell? ⟨b, 0, none⟩ = some (.int .i64 x0) ∧ w.cell? ⟨b, 1, none⟩ = some (.int .i64 x1) ∧ w.cell? ⟨b, 2, none⟩ = some (.int .i64 x2) ∧ w.cell? ⟨b, 3, none⟩ = some (.int .i64 x3)
theorem Cell5.keep {w w' : World} {B i b : Nat} {x0 x1 x2 x3 : Int} {ob : Option Nat} (h : Cell5 w B i b x0 x1 x2 x3) (hg : w.grownBy w' ob) (h1 : some B ≠ ob) (h2 : some b ≠ ob) : Cell5 w' B i b x0 x1 x2 x3 :=
  ⟨hg.cell h.1 h1, hg.cell h.2.1 h2, hg.cell h.2.2.1 h2, hg.cell h.2.2.2.1 h2, hg.cell h.2.2.2.2 h2⟩
set_option maxRecDepth 100000 in
set_option maxHeartbeats 2000000 in
theorem kfilter (B L Lc : Nat) (u : Nat → Int) (w : World) (hL : L ≤ 100) (hQ : Quads w B L u) :
    Calls Tryz.prog 32 #[.slice (some ⟨B, 0, none⟩) L Lc] w fun e w' => ∃ v, e = .returned v ∧ w'.ownsRow w.heap.size 5 1 v (8 * L) (vals (fls u L)) ∧ w.grownBy w' none := by
  obtain ⟨i0, hi, hz0, hz1, hz2⟩ := info_parts Tryz.infoByte
  go_enter Tryz.func32, Tryz.ntmps32
  go_wp2
  go_loopw [3, 4] (fun v i wr => ∃ k : Nat, k ≤ L ∧ i = .int .i64 k ∧ wr.ownsRow w.heap.size 5 1 v (8 * k) (vals (fls u k)) ∧ w.grownBy wr none) (fun _ i _ => L - (intOf i).toNat)
  case atStart => exact ⟨0, Nat.zero_le _, rfl, ⟨rfl, Or.inl ⟨rfl, rfl⟩⟩, grown_refl w none⟩
  case round =>
    obtain ⟨k, hk, rfl, ho, hgr⟩ := hrel
    have hnb := fun (z : Nat) (hz : z < w.heap.size) (e : some z = _) => (absurd (ho.lt z e.symm).1 (by omega) : False)
    by_cases hlt : k < L
    · obtain ⟨b, c0, c1, c2, c3, c4⟩ := hQ k hlt
      have lB := World.block_lt_of_cell? w _ c0
      have lb := World.block_lt_of_cell? w _ c1
      have C0 : Cell5 wr B k b (u (4 * k)) (u (4 * k + 1)) (u (4 * k + 2)) (u (4 * k + 3)) := Cell5.keep ⟨c0, c1, c2, c3, c4⟩ hgr (by simp) (by simp)
      have HF := fls_succ u k
      clear c0 c1 c2 c3 c4
      generalize u (4 * k) = x0 at *
      generalize u (4 * k + 1) = x1 at *
      generalize u (4 * k + 2) = x2 at *
      generalize u (4 * k + 3) = x3 at *
      have HFH : Hid (fls u (k + 1) = fls u k ++ e8l x0 x1 x2 x3) := HF
      clear HF
      have hb : w.heap.size ≤ wr.heap.size := hgr.size
      have t1 : (k : Int) < (L : Int) := by omega
      go_wp2
      have HS0 := C0.keep (grown_drew (grown_refl wr none)) (by simp) (by simp)
      go_region_held3 (fun w' => w'.cell? ⟨B, k, none⟩ = some (.slice (some ⟨b, 0, none⟩) 4 4) ∧ w'.cell? ⟨b, 0, none⟩ = some (.int .i64 x0) ∧ w'.cell? ⟨b, 1, none⟩ = some (.int .i64 x1) ∧ w'.cell? ⟨b, 2, none⟩ = some (.int .i64 x2) ∧ w'.cell? ⟨b, 3, none⟩ = some (.int .i64 x3))
        (first | exact HS0 | assumption)
        ((first | (go_at_call 38; refine (kinsn _ _ _ _ _).mono ?_; rintro e w5 ⟨rfl, hg5, hb5⟩; have S5 := HS0.keep hg5 (by simp) (by simp); have R5 := e8_row hb5) | (refine step_app _ rfl _ _ 25 rfl w.heap.size 5 i0 _ 1 1 Tryz.underlying25 hi hz0 hz1 hz2 rfl (by decide) _ (8 * k) _ rfl (ho.drew.kept hg5 (by cases (Value.ownBlock _) <;> simp)) ⟨wr.heap.size, 0, none⟩ 8 8 (vals (e8l x0 x1 x2 x3)) rfl (by simp [vals, e8l]) (row_news R5) (vals_one _) (by unfold maxLen; omega) (by omega) (Nat.le_trans hb hg5.size) ?_; intro v6 w6 ho6 hg6 hx6; have S6 : Cell5 w6 B k b x0 x1 x2 x3 := S5.keep hg6 (hnb B lB) (hnb b lb))))
      go_wp2
      go_roundw
      case rel => exact ⟨k + 1, by omega, by go_num, by rw [HFH.out, vals_app]; exact ho6, grown_own (grown_trans (grown_drew hgr) hg5) hg6 fun g hg => (ho.lt g hg).1⟩
      case measure => simp [intOf]; omega
    · have hke : k = L := by omega
      subst hke
      go_wp2
      go_ret
      exact ⟨_, rfl, ho, hgr⟩
end Go.Proofs.YthbcfepbkkbjiaaGreatDoor
namespace Go.Proofs.YthbcfepbkkbjiaaGreatDoor
open Go.RowKit
set_option linter.unusedVariables false
set_option linter.unusedSimpArgs false
theorem chk_of {u : Nat → Int} {L : Nat} (h1 : 1 ≤ L) (h2 : L ≤ 256) (hw : ∀ j, j < L → wrong (decs (encs u)) L j = 0) (hl : (kd (decs (encs u) (4 * (L - 1)))).kind = 12) (hb : ∀ j, j < L → ¬ bad (decs (encs u)) j) : Chk (encs u) (8 * L) 0 0 := by
  refine Or.inr ⟨by unfold badSize; omega, ?_⟩
  rw [show 8 * L / 8 = L by omega]
  exact Or.inr ⟨hw, Or.inr ⟨hl, Or.inr ⟨hb, rfl, rfl⟩⟩⟩
theorem decs_all {u : Nat → Int} {L : Nat} (h : ∀ i, i < L → Room u i) (j : Nat) (hj : j < 4 * L) : decs (encs u) j = u j := by
  obtain ⟨d0, d1, d2, d3⟩ := decs_encs (h (j / 4) (by omega))
  have h4 : j % 4 = 0 ∨ j % 4 = 1 ∨ j % 4 = 2 ∨ j % 4 = 3 := by omega
  rcases h4 with e | e | e | e
  · rw [show 4 * (j / 4) = j by omega] at d0; exact d0
  · rw [show 4 * (j / 4) + 1 = j by omega] at d1; exact d1
  · rw [show 4 * (j / 4) + 2 = j by omega] at d2; exact d2
  · rw [show 4 * (j / 4) + 3 = j by omega] at d3; exact d3
theorem runF_done {q p : Nat → Int} {m f : Nat} {S : Flt} {v : Int} (h : flt q p m S = ⟨S, v, true⟩) : runF q p m (f + 1) S = v := by
  simp [runF, h]
theorem runF_on {q p : Nat → Int} {m f : Nat} {S S' : Flt} (h : flt q p m S = ⟨S', 0, false⟩) : runF q p m (f + 1) S = runF q p m f S' := by
  simp [runF, h]
def tq (k n : Int) : Nat → Int := fun j => [40, 0, 0, 12, 21, 0, 1, k, 6, 0, 0, n, 6, 0, 0, 0].getD j 0
theorem tq_room {k n : Int} (hk : 0 ≤ k ∧ k < 65536) (hn : 0 ≤ n ∧ n < 4294967296) : ∀ i, i < 4 → Room (tq k n) i := fun i hi => by
  have hk1 := hk.1
  have hk2 := hk.2
  have hn1 := hn.1
  have hn2 := hn.2
  match i, hi with
  | 0, _ => simp [Room, tq]
  | 1, _ => simp [Room, tq]; omega
  | 2, _ => simp [Room, tq]; omega
  | 3, _ => simp [Room, tq]
theorem kd40 : kd 40 = ⟨40, 1, 2, false, 0, 1⟩ := rfl
theorem kd21 : kd 21 = ⟨21, 11, 0, false, 0, 10⟩ := rfl
theorem kd6 : kd 6 = ⟨6, 12, 0, false, 0, 11⟩ := rfl
theorem tq_chk {k n : Int} (hk : 0 ≤ k ∧ k < 65536) (hn : 0 ≤ n ∧ n < 4294967296) : Chk (encs (tq k n)) (8 * 4) 0 0 := by
  have D := decs_all (tq_room hk hn)
  refine chk_of (by decide) (by decide) (fun j hj => ?_) ?_ (fun j hj hb => ?_)
  · unfold wrong nx
    rw [D (4 * j) (by omega), D (4 * j + 1) (by omega), D (4 * j + 2) (by omega), D (4 * j + 3) (by omega)]
    match j, hj with
    | 0, _ => show wrg (kd 40) true 12 _ _ = 0; simp [kd40, wrg]
    | 1, _ => show wrg (kd 21) true k (if (kd 21).kind = 12 then _ else if (kd 21).kind = 10 then _ else if (kd 21).kind = 11 then [((1 : Nat) : Int) + 1 + 0, ((1 : Nat) : Int) + 1 + 1] else _) ((4 : Nat) : Int) = 0; simp [kd21, wrg]
    | 2, _ => show wrg (kd 6) true n _ _ = 0; simp [kd6, wrg]
    | 3, _ => show wrg (kd 6) true 0 _ _ = 0; simp [kd6, wrg]
  · rw [D _ (by decide)]; show (kd 6).kind = 12; rw [kd6]
  · have h1 := hb.1
    rw [D _ (by omega)] at h1
    match j, hj with
    | 0, _ => have h2 : (kd 40).kind = 3 := h1; rw [kd40] at h2; exact absurd h2 (by decide)
    | 1, _ => have h2 : (kd 21).kind = 3 := h1; rw [kd21] at h2; exact absurd h2 (by decide)
    | 2, _ => have h2 : (kd 6).kind = 3 := h1; rw [kd6] at h2; exact absurd h2 (by decide)
    | 3, _ => have h2 : (kd 6).kind = 3 := h1; rw [kd6] at h2; exact absurd h2 (by decide)
theorem tq_run {k n : Int} (hk : 0 ≤ k ∧ k < 65536) (hn : 0 ≤ n ∧ n < 4294967296) (p : Nat → Int) (m : Nat) : runF (decs (encs (tq k n))) p m 256 F0 = if 14 ≤ m ∧ be p 12 2 = k then n else 0 := by
  have D := decs_all (tq_room hk hn)
  have D0 : decs (encs (tq k n)) 0 = 40 := D 0 (by decide)
  have D3 : decs (encs (tq k n)) 3 = 12 := D 3 (by decide)
  have D4 : decs (encs (tq k n)) 4 = 21 := D 4 (by decide)
  have D5 : decs (encs (tq k n)) 5 = 0 := D 5 (by decide)
  have D6 : decs (encs (tq k n)) 6 = 1 := D 6 (by decide)
  have D7 : decs (encs (tq k n)) 7 = k := D 7 (by decide)
  have D8 : decs (encs (tq k n)) 8 = 6 := D 8 (by decide)
  have D11 : decs (encs (tq k n)) 11 = n := D 11 (by decide)
  have D12 : decs (encs (tq k n)) 12 = 6 := D 12 (by decide)
  have D15 : decs (encs (tq k n)) 15 = 0 := D 15 (by decide)
  generalize decs (encs (tq k n)) = q at *
  by_cases hm : 14 ≤ m
  · rw [runF_on (f := 255) (S' := ⟨1, be p 12 2, 0, fun _ => 0⟩) (by simp [flt, F0, D0, D3, kd40, hm])]
    by_cases he : be p 12 2 = k
    · rw [runF_on (f := 254) (S' := ⟨2, be p 12 2, 0, fun _ => 0⟩) (by simp [flt, D4, D5, D6, D7, kd21, askv, he])]
      rw [runF_done (f := 253) (v := n) (by simp [flt, D8, D11, kd6]), if_pos ⟨hm, he⟩]
    · rw [runF_on (f := 254) (S' := ⟨3, be p 12 2, 0, fun _ => 0⟩) (by simp [flt, D4, D5, D6, D7, kd21, askv, he])]
      rw [runF_done (f := 253) (v := 0) (by simp [flt, D12, D15, kd6]), if_neg (fun h => he h.2)]
  · rw [runF_done (f := 255) (v := 0) (by simp [flt, F0, D0, D3, kd40, hm]), if_neg (fun h => hm h.1)]
set_option maxRecDepth 100000 in
theorem kpacket (ao : Option Addr) (n c : Nat) (w : World) (hn : n ≤ maxLen) (hc : n ≤ c) :
    Calls Tryz.prog 36 #[.slice ao n c] w fun e w' => e = .returned (.slice ao (min n 2000 : Nat) c) ∧ w' = w := by
  by_cases h : n ≤ 2000
  · have h1 : ¬ ((2000 : Int) < (n : Int)) := by omega
    go_enter Tryz.func36, Tryz.ntmps36
    go_wp2
    go_ret
    exact ⟨rfl, rfl⟩
  · have h1 : (2000 : Int) < (n : Int) := by omega
    have h2 : (2000 : Int) ≤ (c : Int) := by omega
    go_enter Tryz.func36, Tryz.ntmps36
    go_wp2
    go_ret
    exact ⟨by first | rfl | (rw [Nat.min_eq_right (by omega)]; rfl), rfl⟩
end Go.Proofs.YthbcfepbkkbjiaaGreatDoor
