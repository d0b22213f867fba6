/- The walk of the law Checks. -/
import Derived.Test.YthbcfepbkkbjiaaDoorY3
import Derived.Test.YthbcfepbkkbjiaaDoorV9
import Derived.Test.YthbcfepbkkbjiaaDoorX3
namespace Go.Proofs.YthbcfepbkkbjiaaDoor
open Go.RowKit
set_option linter.unusedVariables false

theorem src_pad {w : World} {H : Nat} {e : TypeId} {N n : Nat} {g : Nat → Int} (h : Blk w H e N (n + 4) (ints .u8 (pad g n))) : Src w .u8 (some ⟨H, 0, none⟩) n g :=
  fun _ => ⟨H, 0, rfl, fun j hj => by
    rw [Nat.zero_add, h.cell (by omega)]
    show some (Value.int .u8 (pad g n j)) = _
    rw [show pad g n j = g j from if_pos hj]⟩

set_option maxRecDepth 100000 in
set_option maxHeartbeats 1000000 in
theorem law_checks (lo : Option Addr) (ln lc : Nat) (fit : Bool) (q : Nat → Int) (tb : TypeId) (pb : Value) (w : World) (hln : ln ≤ 4398046511000) (hl : SrcI w lo ln q) (hi64 : ∀ j, j < 4 * ln → I64 (q j)) (hL : Laid w tb pb) :
    Calls Tryd.prog 3 #[.agg #[.slice lo ln lc, .bool fit]] w fun e w' => e = .returned (.bool true) ∧ w.grownBy w' none := by
  have hmax : 140737488355328 ≤ maxLen := by unfold maxLen; omega
  go_enter Tryd.func3, Tryd.ntmps3
  go_wp2_with (first
    | (go_at_call 5; refine (filter_any lo ln lc fit q _ hln (hl.keep (World.grownBy_alloc w _ none)) hi64).mono ?_; rintro e w1 ⟨ao, m, c, g, rfl, hoct, hm, hs, hg1⟩; have G1 := grown_trans (World.grownBy_alloc w _ none) hg1)
    | (go_at_call 6; refine (bytes_any ao m c g _ (by omega) hs).mono ?_; rintro e w2 ⟨H, rfl, hH, hg2, hb2⟩; have G2 := grown_trans G1 hg2)
    | (go_at_call 7; refine (check_any _ m _ g tb pb _ (by omega) (by omega) hoct (src_pad hb2) (hL.keep G2)).mono ?_; rintro e w3 ⟨⟨E, p, rfl, hE⟩, hg3⟩; have G3 := grown_trans G2 hg3)
    | (go_at_call 8; refine (rcheck_any ao m c g _ (by omega) hoct (hs.keep (grown_trans hg2 hg3))).mono ?_; rintro e w4 ⟨E', p', rfl, hE', hg4⟩; obtain ⟨rfl, rfl⟩ := hE.one hE'; have G4 := grown_trans G3 hg4)
    | (go_at_call 9; refine (kept_any H ao m c (m + 4) g _ _ (by omega) (by omega) (hb2.keep (grown_trans hg3 hg4) (by simp)) (hs.keep (grown_trans (grown_trans hg2 hg3) hg4))).mono ?_; rintro e w5 ⟨rfl, hg5⟩))
  go_ret
  exact ⟨rfl, grown_trans G4 hg5⟩

end Go.Proofs.YthbcfepbkkbjiaaDoor
