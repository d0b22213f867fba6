/- The walks of the leaves: package insn's numbers. -/
import Derived.Test.YthbcfepbkkbjiaaDoorRows
import Derived.Test.YthbcfepbkkbjiaaDoorM
namespace Go.Proofs.YthbcfepbkkbjiaaDoor
open Go.RowKit

set_option maxRecDepth 100000 in
set_option maxHeartbeats 400000 in
theorem number_any (b off n c : Nat) (g : Nat → Int) (w : World) (hn : n ≤ 4) (hg : Oct g) (h : Row w .u8 b off n g) :
    Calls Tryd.prog 49 #[.slice (some ⟨b, off, none⟩) n c] w fun e w' => e = .returned (.int .i64 (le g n)) ∧ w' = w := by
  go_enter Tryd.func49, Tryd.ntmps49
  go_wp2
  go_loop [3, 4, 5, 8] (fun v _ _ i => ∃ k : Nat, k ≤ n ∧ i = .int .i64 k ∧ v = .int .i64 (le g k)) (fun _ _ _ i => n - (intOf i).toNat)
  case atStart => exact ⟨0, Nat.zero_le _, rfl, rfl⟩
  case round =>
    obtain ⟨k, hk, rfl, rfl⟩ := hrel
    by_cases hlt : k < n
    · have hc : w.cell? ⟨b, off + k, none⟩ = some (.int .u8 (g k)) := h k hlt
      have HS : Hid (bits .or .i64 (le g k) (wrap64 (g k * 2 ^ (8 * k))) = le g (k + 1)) := or_step hg k (by omega)
      have hgk := hg k
      clear hg
      go_wp2
      go_round
      case rel => exact ⟨k + 1, by omega, by go_num, by rw [HS.out]⟩
      case measure => simp [intOf]; omega
    · have : k = n := by omega
      subst this
      go_wp2
      go_ret
      exact ⟨rfl, rfl⟩

set_option maxRecDepth 100000 in
set_option maxHeartbeats 400000 in
theorem rnumber_any (b off len c a n : Nat) (g : Nat → Int) (w : World) (hn : n ≤ 4) (hl : a + n ≤ len) (hm : len ≤ maxLen) (hg : Oct g) (h : Row w .u8 b off len g) :
    Calls Tryd.prog 28 #[.slice (some ⟨b, off, none⟩) len c, .int .i64 a, .int .i64 n] w fun e w' => e = .returned (.int .i64 (hr g n a)) ∧ w' = w := by
  unfold maxLen at hm
  go_enter Tryd.func28, Tryd.ntmps28
  go_wp2
  go_loop [7, 8] (fun v i => ∃ m k : Nat, m + k = n ∧ i = .int .i64 ((k : Int) - 1) ∧ v = .int .i64 (hr g m (a + k))) (fun _ i => (intOf i + 1).toNat)
  case atStart => exact ⟨0, n, by omega, rfl, rfl⟩
  case round =>
    obtain ⟨m, k, hk, rfl, rfl⟩ := hrel
    have hb := hr_bd4 hg m (a + k) (by omega)
    by_cases hlt : 0 < k
    · have hc : w.cell? ⟨b, off + (a + (k - 1)), none⟩ = some (.int .u8 (g (a + (k - 1)))) := h _ (by omega)
      have hgk := hg (a + (k - 1))
      clear hg
      go_wp2
      go_round
      case rel => exact ⟨m + 1, k - 1, by omega, by go_num, by simp only [hr]; rw [show a + (k - 1) + 1 = a + k by omega]; go_num⟩
      case measure => simp [intOf]; omega
    · have hk0 : k = 0 := by omega
      subst hk0
      have hmn : m = n := by omega
      subst hmn
      go_wp2
      go_ret
      exact ⟨rfl, rfl⟩

end Go.Proofs.YthbcfepbkkbjiaaDoor
