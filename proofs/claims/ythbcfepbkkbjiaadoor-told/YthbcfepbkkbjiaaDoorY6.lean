/- The walk of the law Told. -/
import Derived.Test.YthbcfepbkkbjiaaDoorY5
import Derived.Test.YthbcfepbkkbjiaaDoorV9
import Derived.Test.YthbcfepbkkbjiaaDoorX3
namespace Go.Proofs.YthbcfepbkkbjiaaDoor
open Go.RowKit
set_option linter.unusedVariables false

theorem src_pad' {w : World} {H : Nat} {e : TypeId} {N n : Nat} {g : Nat → Int} (h : Blk w H e N (n + 4) (ints .u8 (pad g n))) : Src w .u8 (some ⟨H, 0, none⟩) n g :=
  fun _ => ⟨H, 0, rfl, fun j hj => by
    rw [Nat.zero_add, h.cell (by omega)]
    show some (Value.int .u8 (pad g n j)) = _
    rw [show pad g n j = g j from if_pos hj]⟩

theorem fault_cells' {w : World} {B F : Nat} {k c : Int} {bad v : Value} (h : FaultS w F k c bad) (hne : F ≠ B) :
    (w.setCell ⟨B, 0, none⟩ v).cell? ⟨F, 0, none⟩ = some (.int .i64 k) ∧ (w.setCell ⟨B, 0, none⟩ v).cell? ⟨F, 1, none⟩ = some (.int .i64 c) := by
  obtain ⟨R, s, h1, _⟩ := h
  have e : ∀ j, (w.setCell ⟨B, 0, none⟩ v).cell? ⟨F, j, none⟩ = w.cell? ⟨F, j, none⟩ := fun j => by
    have := Below.heap_setCell w ⟨B, 0, none⟩ v F hne
    simp [World.cell?, this]
  refine ⟨?_, ?_⟩
  · rw [e, cell_of_row w F 0 _ _ (0, 0) h1]; rfl
  · rw [e, cell_of_row w F 1 _ _ (0, 0) h1]; rfl

set_option maxRecDepth 100000 in
set_option maxHeartbeats 1000000 in
theorem law_told (lo : Option Addr) (ln lc : Nat) (fit : Bool) (q : Nat → Int) (b : Addr) (w : World) (hln : ln ≤ 4398046511000) (hl : SrcI w lo ln q) (hi64 : ∀ j, j < 4 * ln → I64 (q j)) (hL : Laid w 139 (.pointer (some b))) :
    Calls Tryd.prog 4 #[.agg #[.slice lo ln lc, .bool fit]] w fun e w' => e = .returned (.bool true) ∧ w.grownBy w' none := by
  have hmax : 140737488355328 ≤ maxLen := by unfold maxLen; omega
  go_enter Tryd.func4, Tryd.ntmps4
  go_wp2_with (first
    | (go_at_call 5; refine (filter_any lo ln lc fit q _ hln (hl.keep (World.grownBy_alloc w _ none)) hi64).mono ?_; rintro e w1 ⟨ao, m, c, g, rfl, hoct, hm, hs, hg1⟩; have G1 := grown_trans (World.grownBy_alloc w _ none) hg1)
    | (go_at_call 6; refine (bytes_any ao m c g _ (by omega) hs).mono ?_; rintro e w2 ⟨H, rfl, hH, hg2, hb2⟩; have G2 := grown_trans G1 hg2)
    | (go_at_call 10; refine (verify_any _ m _ g _ _ _ (by omega) (by omega) hoct (src_pad' hb2) (hL.keep G2)).mono ?_; rintro e w3 ⟨hE, hg3⟩; have G3 := grown_trans G2 hg3; obtain ⟨v, hv⟩ : ∃ v, e = .returned v := hE.ret; subst hv)
    | (go_at_call 8; refine (rcheck_any ao m c g _ (by omega) hoct (hs.keep (grown_trans hg2 hg3))).mono ?_; rintro e w4 ⟨E', p', rfl, hE', hg4⟩; have G4 := grown_trans G3 hg4)
    | (go_at_call 9; refine (kept_any H ao m c (m + 4) g _ _ (by omega) (by omega) (hb2.keep (grown_trans hg3 hg4) (by simp)) (hs.keep (grown_trans (grown_trans hg2 hg3) hg4))).mono ?_; rintro e w5 ⟨rfl, hg5⟩; have G5 := grown_trans G4 hg5))
  · have hz : (E' == 0) = true := by assumption
    have hz' : E' = 0 := by simpa using hz
    rcases hE with ⟨hok, hv⟩ | ⟨F, k, cc, hP, hv, hF, hlt⟩
    rotate_left
    · exact absurd ((hP.1.one hE').1.trans hz') hP.2
    obtain rfl : v = .nilIface := by simpa using hv
    go_wp2
    go_ret
    exact ⟨rfl, G5⟩
  · have hz : (E' == 0) = false := by assumption
    have hz' : E' ≠ 0 := by simpa using hz
    rcases hE with ⟨hok, hv⟩ | ⟨F, k, cc, hP, hv, hF, hlt⟩
    · exact absurd (hE'.one hok).1 hz'
    obtain rfl : v = .iface 36 (.pointer (some ⟨F, 0, none⟩)) := by simpa using hv
    obtain ⟨rfl, rfl⟩ := hP.1.one hE'
    have hg6 := World.grownBy_alloc w5 (.cells #[.pointer none] 36) none
    have G6 := grown_trans G5 hg6
    have lg := (hL.keep G6).2.2
    have hF6 := hF.keep (grown_trans (grown_trans hg4 hg5) hg6)
    have hE6 := (hL.keep G6).2.1
    have hsz : w3.heap.size ≤ w5.heap.size := Nat.le_trans hg4.size hg5.size
    have hlt3 : F < w3.heap.size := by obtain ⟨_, _, h1, _⟩ := hF; exact (Array.getElem?_eq_some_iff.1 h1).1
    have cb : (w5.alloc (.cells #[.pointer none] 36)).cell? ⟨w5.heap.size, 0, none⟩ = some (.pointer none) := by simp
    have fb : (w5.alloc (.cells #[.pointer none] 36)).frozen? ⟨w5.heap.size, 0, none⟩ = false := box_frozen (grown_refl _ _)
    go_wp2_with (first
      | (go_at_call 11; refine (is_hit F _ _ b _ hF6).mono ?_; rintro e w6 ⟨rfl, rfl⟩)
      | (go_at_call 12; refine (as_hit _ _ (.pointer none) _ hE6 cb fb).mono ?_; rintro e w8 ⟨rfl, w7, hg7, hw8⟩; obtain ⟨d0, d1⟩ := fault_cells' (v := .pointer (some ⟨F, 0, none⟩)) (B := w5.heap.size) (hF6.keep hg7) (by omega); have d3 := World.cell?_setCell_same _ _ (.pointer (some ⟨F, 0, none⟩)) (hg7.cell cb (by simp)); rw [← hw8] at d0 d1 d3; have G8 := grown_set (grown_trans G6 hg7) (p := ⟨w5.heap.size, 0, none⟩) G5.size (.pointer (some ⟨F, 0, none⟩)); rw [← hw8] at G8; clear hw8 cb fb))
    all_goals go_ret
    all_goals exact ⟨rfl, G8⟩

end Go.Proofs.YthbcfepbkkbjiaaDoor
