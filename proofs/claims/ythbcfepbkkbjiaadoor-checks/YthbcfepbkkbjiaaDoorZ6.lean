/- The walk of package check's checkEach. -/
import Derived.Test.YthbcfepbkkbjiaaDoorZ5
namespace Go.Proofs.YthbcfepbkkbjiaaDoor
open Go.RowKit
set_option linter.unusedVariables false

theorem none_yet (f : Nat → Int) : Hid (∀ j, j < 0 → f j = 0) := fun j hj => by omega

set_option maxRecDepth 100000 in
set_option maxHeartbeats 1000000 in
theorem checkEach_any (R B n cap MB : Nat) (tb : TypeId) (pb : Value) (q : Nat → Int) (w : World) (hn : n ≤ 1000000) (hq : Num q) (h : RowS w R B n cap MB (.iface tb pb) q) (ht : Tab w) :
    Calls Tryd.prog 34 #[.pointer (some ⟨R, 0, none⟩)] w fun e w' => ErrS w w' e (∀ j, j < n → wrong q n j = 0) (fun k c => k < n ∧ wrong q n k ≠ 0 ∧ (∀ j, j < k → wrong q n j = 0) ∧ c = wrong q n k) (.iface tb pb) ∧ w.grownBy w' none := by
  obtain ⟨r0, _, _⟩ := h.cells
  go_enter Tryd.func34, Tryd.ntmps34
  go_wp2
  go_loopw [10] (fun i wr => ∃ k : Nat, k ≤ n ∧ i = .int .i64 k ∧ w.grownBy wr none ∧ Hid (∀ j, j < k → wrong q n j = 0)) (fun i _ => n - (intOf i).toNat)
  case atStart => exact ⟨0, Nat.zero_le _, rfl, grown_refl _ _, none_yet _⟩
  case round =>
    obtain ⟨k, hk, rfl, hgr, hno⟩ := hrel
    by_cases hlt : k < n
    · by_cases hw : wrong q n k = 0
      · go_wp2_with (first | (go_at_call 42; refine (pwrong_any R B n cap MB k _ q _ hlt hn hq (h.keep hgr)).mono ?_; rintro e w1 ⟨rfl, hg1⟩))
        go_roundw
        case rel => exact ⟨k + 1, by omega, by go_num, grown_trans hgr hg1, fun j hj => by
          by_cases e : j = k
          · subst e; exact hw
          · exact hno.out j (by omega)⟩
        case measure => simp [intOf]; omega
      · go_wp2_with (first | (go_at_call 42; refine (pwrong_any R B n cap MB k _ q _ hlt hn hq (h.keep hgr)).mono ?_; rintro e w1 ⟨rfl, hg1⟩) | (go_at_call 43; refine (fault_any R B n cap MB k _ tb pb q _ (by omega) (h.keep (grown_trans hgr hg1)) (ht.keep (grown_trans hgr hg1))).mono ?_; rintro e w3 ⟨F, rfl, hF, hlt3, hg3⟩))
        go_ret
        exact ⟨Or.inr ⟨F, k, wrong q n k, ⟨hlt, hw, hno.out, rfl⟩, rfl, hF, by have := hg1.size; have := hgr.size; omega⟩, grown_trans (grown_trans hgr hg1) hg3⟩
    · have hke : k = n := by omega
      subst hke
      go_wp2
      go_ret
      exact ⟨Or.inl ⟨hno.out, rfl⟩, hgr⟩

end Go.Proofs.YthbcfepbkkbjiaaDoor
