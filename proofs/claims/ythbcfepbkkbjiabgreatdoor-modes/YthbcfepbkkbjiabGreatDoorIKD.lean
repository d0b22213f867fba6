import Derived.Test.YthbcfepbkkbjiabGreatDoorIDP
import Derived.Test.YthbcfepbkkbjiabGreatDoorIK
namespace Go.Proofs.YthbcfepbkkbjiabGreatDoor
open Go.RowKit
set_option linter.unusedVariables false
set_option linter.unusedSimpArgs false
def Quads (w : World) (B L : Nat) (u : Nat → Int) : Prop := ∀ i, i < L → ∃ b, w.cell? ⟨B, i, none⟩ = some (.slice (some ⟨b, 0, none⟩) 4 4) ∧ w.cell? ⟨b, 0, none⟩ = some (.int .i64 (u (4 * i))) ∧ w.cell? ⟨b, 1, none⟩ = some (.int .i64 (u (4 * i + 1))) ∧ w.cell? ⟨b, 2, none⟩ = some (.int .i64 (u (4 * i + 2))) ∧ w.cell? ⟨b, 3, none⟩ = some (.int .i64 (u (4 * i + 3)))
def fls (u : Nat → Int) (k : Nat) : List Int := (List.range (8 * k)).map (encs u)
def e8l (c a b k : Int) : List Int := (List.range 8).map (enc8 c a b k)
theorem fls_len (u : Nat → Int) (k : Nat) : (fls u k).length = 8 * k := by simp [fls]
theorem fls_succ (u : Nat → Int) (k : Nat) : fls u (k + 1) = fls u k ++ e8l (u (4 * k)) (u (4 * k + 1)) (u (4 * k + 2)) (u (4 * k + 3)) := by
  apply List.ext_getElem
  · simp [fls, e8l]; omega
  · intro j h1 h2
    rw [fls_len] at h1
    by_cases h : j < 8 * k
    · rw [List.getElem_append_left (by rw [fls_len]; exact h)]
      simp [fls]
    · rw [List.getElem_append_right (by rw [fls_len]; omega)]
      have := encs_at u k (j - 8 * k) (by omega)
      rw [show 8 * k + (j - 8 * k) = j by omega] at this
      simp only [fls, e8l, List.getElem_map, List.getElem_range, List.length_map, List.length_range, this]
theorem e8_row {w : World} {g : Nat} {e : TypeId} {c a b k : Int} (hb : Blk w g e 8 8 (ints .u8 (enc8 c a b k))) : Row w .u8 g 0 (e8l c a b k).length (fun j => (e8l c a b k).getD j 0) := by
  intro j hj
  have hj8 : j < 8 := by simpa [e8l] using hj
  have := hb.cell hj8
  have e : (e8l c a b k).getD j 0 = enc8 c a b k j := by simp [e8l, List.getD, hj8]
  simp only [e, Nat.zero_add]
  exact this
def Cell5 (w : World) (B i b : Nat) (x0 x1 x2 x3 : Int) : Prop := w.cell? ⟨B, i, none⟩ = some (.slice (some ⟨b, 0, none⟩) 4 4) ∧ w.cell? ⟨b, 0, none⟩ = some (.int .i64 x0) ∧ w.cell? ⟨b, 1, none⟩ = some (.int .i64 x1) ∧ w.cell? ⟨b, 2, none⟩ = some (.int .i64 x2) ∧ w.cell? ⟨b, 3, none⟩ = some (.int .i64 x3)
theorem Cell5.keep {w w' : World} {B i b : Nat} {x0 x1 x2 x3 : Int} {ob : Option Nat} (h : Cell5 w B i b x0 x1 x2 x3) (hg : w.grownBy w' ob) (h1 : some B ≠ ob) (h2 : some b ≠ ob) : Cell5 w' B i b x0 x1 x2 x3 :=
  ⟨hg.cell h.1 h1, hg.cell h.2.1 h2, hg.cell h.2.2.1 h2, hg.cell h.2.2.2.1 h2, hg.cell h.2.2.2.2 h2⟩
set_option maxRecDepth 100000 in
set_option maxHeartbeats 2000000 in
theorem kfilter (B L Lc : Nat) (u : Nat → Int) (w : World) (hL : L ≤ 100) (hQ : Quads w B L u) :
    Calls Tryz.prog 7 #[.slice (some ⟨B, 0, none⟩) L Lc] w fun e w' => ∃ v, e = .returned v ∧ w'.ownsRow w.heap.size 5 1 v (8 * L) (vals (fls u L)) ∧ w.grownBy w' none := by
  obtain ⟨i0, hi, hz0, hz1, hz2⟩ := info_parts Tryz.infoByte
  go_enter Tryz.func7, Tryz.ntmps7
  go_wp2
  go_loopw [3, 4] (fun v i wr => ∃ k : Nat, k ≤ L ∧ i = .int .i64 k ∧ wr.ownsRow w.heap.size 5 1 v (8 * k) (vals (fls u k)) ∧ w.grownBy wr none) (fun _ i _ => L - (intOf i).toNat)
  case atStart => exact ⟨0, Nat.zero_le _, rfl, ⟨rfl, Or.inl ⟨rfl, rfl⟩⟩, grown_refl w none⟩
  case round =>
    obtain ⟨k, hk, rfl, ho, hgr⟩ := hrel
    have hnb := fun (z : Nat) (hz : z < w.heap.size) (e : some z = _) => (absurd (ho.lt z e.symm).1 (by omega) : False)
    by_cases hlt : k < L
    · obtain ⟨b, c0, c1, c2, c3, c4⟩ := hQ k hlt
      have lB := World.block_lt_of_cell? w _ c0
      have lb := World.block_lt_of_cell? w _ c1
      have C0 : Cell5 wr B k b (u (4 * k)) (u (4 * k + 1)) (u (4 * k + 2)) (u (4 * k + 3)) := Cell5.keep ⟨c0, c1, c2, c3, c4⟩ hgr (by simp) (by simp)
      have HF := fls_succ u k
      clear c0 c1 c2 c3 c4
      generalize u (4 * k) = x0 at *
      generalize u (4 * k + 1) = x1 at *
      generalize u (4 * k + 2) = x2 at *
      generalize u (4 * k + 3) = x3 at *
      have HFH : Hid (fls u (k + 1) = fls u k ++ e8l x0 x1 x2 x3) := HF
      clear HF
      have hb : w.heap.size ≤ wr.heap.size := hgr.size
      have t1 : (k : Int) < (L : Int) := by omega
      go_wp2
      have HS0 := C0.keep (grown_drew (grown_refl wr none)) (by simp) (by simp)
      go_region_held3 (fun w' => w'.cell? ⟨B, k, none⟩ = some (.slice (some ⟨b, 0, none⟩) 4 4) ∧ w'.cell? ⟨b, 0, none⟩ = some (.int .i64 x0) ∧ w'.cell? ⟨b, 1, none⟩ = some (.int .i64 x1) ∧ w'.cell? ⟨b, 2, none⟩ = some (.int .i64 x2) ∧ w'.cell? ⟨b, 3, none⟩ = some (.int .i64 x3))
        (first | exact HS0 | assumption)
        ((first | (go_at_call 15; refine (kinsn _ _ _ _ _).mono ?_; rintro e w5 ⟨rfl, hg5, hb5⟩; have S5 := HS0.keep hg5 (by simp) (by simp); have R5 := e8_row hb5) | (refine step_app _ rfl _ _ 28 rfl w.heap.size 5 i0 _ 1 1 Tryz.underlying28 hi hz0 hz1 hz2 rfl (by decide) _ (8 * k) _ rfl (ho.drew.kept hg5 (by cases (Value.ownBlock _) <;> simp)) ⟨wr.heap.size, 0, none⟩ 8 8 (vals (e8l x0 x1 x2 x3)) rfl (by simp [vals, e8l]) (row_news R5) (vals_one _) (by unfold maxLen; omega) (by omega) (Nat.le_trans hb hg5.size) ?_; intro v6 w6 ho6 hg6 hx6; have S6 : Cell5 w6 B k b x0 x1 x2 x3 := S5.keep hg6 (hnb B lB) (hnb b lb))))
      go_wp2
      go_roundw
      case rel => exact ⟨k + 1, by omega, by go_num, by rw [HFH.out, vals_app]; exact ho6, grown_own (grown_trans (grown_drew hgr) hg5) hg6 fun g hg => (ho.lt g hg).1⟩
      case measure => simp [intOf]; omega
    · have hke : k = L := by omega
      subst hke
      go_wp2
      go_ret
      exact ⟨_, rfl, ho, hgr⟩
end Go.Proofs.YthbcfepbkkbjiabGreatDoor
namespace Go.Proofs.YthbcfepbkkbjiabGreatDoor
open Go.RowKit
set_option linter.unusedVariables false
set_option linter.unusedSimpArgs false
theorem chk_of {u : Nat → Int} {L : Nat} (h1 : 1 ≤ L) (h2 : L ≤ 256) (hw : ∀ j, j < L → wrong (decs (encs u)) L j = 0) (hl : (kd (decs (encs u) (4 * (L - 1)))).kind = 12) (hb : ∀ j, j < L → ¬ bad (decs (encs u)) j) : Chk (encs u) (8 * L) 0 0 := by
  refine Or.inr ⟨by unfold badSize; omega, ?_⟩
  rw [show 8 * L / 8 = L by omega]
  exact Or.inr ⟨hw, Or.inr ⟨hl, Or.inr ⟨hb, rfl, rfl⟩⟩⟩
theorem decs_all {u : Nat → Int} {L : Nat} (h : ∀ i, i < L → Room u i) (j : Nat) (hj : j < 4 * L) : decs (encs u) j = u j := by
  obtain ⟨d0, d1, d2, d3⟩ := decs_encs (h (j / 4) (by omega))
  have h4 : j % 4 = 0 ∨ j % 4 = 1 ∨ j % 4 = 2 ∨ j % 4 = 3 := by omega
  rcases h4 with e | e | e | e
  · rw [show 4 * (j / 4) = j by omega] at d0; exact d0
  · rw [show 4 * (j / 4) + 1 = j by omega] at d1; exact d1
  · rw [show 4 * (j / 4) + 2 = j by omega] at d2; exact d2
  · rw [show 4 * (j / 4) + 3 = j by omega] at d3; exact d3
theorem kd6 : kd 6 = ⟨6, 12, 0, false, 0, 11⟩ := rfl
set_option maxRecDepth 100000 in
theorem kpacket (ao : Option Addr) (n c : Nat) (w : World) (hn : n ≤ maxLen) (hc : n ≤ c) :
    Calls Tryz.prog 10 #[.slice ao n c] w fun e w' => e = .returned (.slice ao (min n 2000 : Nat) c) ∧ w' = w := by
  by_cases h : n ≤ 2000
  · have h1 : ¬ ((2000 : Int) < (n : Int)) := by omega
    go_enter Tryz.func10, Tryz.ntmps10
    go_wp2
    go_ret
    exact ⟨rfl, rfl⟩
  · have h1 : (2000 : Int) < (n : Int) := by omega
    have h2 : (2000 : Int) ≤ (c : Int) := by omega
    go_enter Tryz.func10, Tryz.ntmps10
    go_wp2
    go_ret
    exact ⟨by first | rfl | (rw [Nat.min_eq_right (by omega)]; rfl), rfl⟩
end Go.Proofs.YthbcfepbkkbjiabGreatDoor
