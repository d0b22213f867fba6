import Derived.Test.YthbcfepbkkbjiaaGreatDoorJKH
import Derived.Test.YthbcfepbkkbjiaaGreatDoorJKQ
import Derived.Test.YthbcfepbkkbjiaaGreatDoorJKG
namespace Go.Proofs.YthbcfepbkkbjiaaGreatDoor
open Go.RowKit
set_option linter.unusedVariables false
set_option linter.unusedSimpArgs false
theorem or_i64 {x b : Int} (hx : 0 ≤ x) (hx2 : x < 16777216) (hb : 0 ≤ b) (hb2 : b < 256) : bits .or .i64 (x * 256) b = 256 * x + b := by
  rw [or_same ⟨by omega, by omega⟩ ⟨hb, by omega⟩, shl8_or hx hx2 hb hb2]; omega
def ldv (g : Nat → Int) (m a n : Nat) : Int := if a + n ≤ m then be g a n else 0
set_option maxRecDepth 100000 in
set_option maxHeartbeats 1000000 in
theorem kloaded (ao : Option Addr) (m c a n : Nat) (g : Nat → Int) (w : World) (hm : m ≤ 2000) (ha : a < 8589934592) (hn : n ≤ 4) (hg : Oct g) (hs : Src w .u8 ao m g) :
    Calls Tryz.prog 37 #[.slice ao m c, .int .i64 a, .int .i64 n] w fun e w' => e = .returned (.int .i64 (ldv g m a n)) ∧ w' = w := by
  by_cases h : a + n ≤ m
  · have e : ldv g m a n = be g a n := by unfold ldv; rw [if_pos h]
    rw [e]
    have t0 : ¬ ((m : Int) < (a : Int) + (n : Int)) := by omega
    go_enter Tryz.func37, Tryz.ntmps37
    go_wp2
    go_loop [7, 8] (fun v i => ∃ k : Nat, k ≤ n ∧ i = .int .i64 k ∧ v = .int .i64 (be g a k)) (fun _ i => n - (intOf i).toNat)
    case atStart => exact ⟨0, Nat.zero_le _, rfl, rfl⟩
    case round =>
      obtain ⟨k, hk, rfl, rfl⟩ := hrel
      by_cases hlt : k < n
      · obtain ⟨b, off, rfl, hR⟩ := hs (by omega)
        have hc : w.cell? ⟨b, off + (a + k), none⟩ = some (.int .u8 (g (a + k))) := hR _ (by omega)
        have hgk := hg (a + k)
        have hb := be_bd hg a k (by omega)
        have hb2 : be g a k < 16777216 := by
          have e1 : (256 : Int) ^ k = ((256 ^ k : Nat) : Int) := by rw [Int.natCast_pow]; rfl
          have e2 := Nat.pow_le_pow_right (n := 256) (by decide) (show k ≤ 3 by omega)
          have e3 : (256 : Nat) ^ 3 = 16777216 := by decide
          omega
        have hb1 := hb.1
        have HS : Hid (bits .or .i64 (be g a k * 256) (g (a + k)) = be g a (k + 1)) := by
          unfold Hid
          rw [or_i64 hb1 hb2 hgk.1 (by omega)]; rfl
        clear hg hb
        generalize be g a k = B at *
        go_wp2
        go_round
        case rel => exact ⟨k + 1, by omega, by go_num, by rw [← HS.out]⟩
        case measure => simp [intOf]; omega
      · have : k = n := by omega
        subst this
        go_wp2
        go_ret
        exact ⟨rfl, rfl⟩
  · have e : ldv g m a n = 0 := by unfold ldv; rw [if_neg h]
    rw [e]
    have t0 : (m : Int) < (a : Int) + (n : Int) := by omega
    go_enter Tryz.func37, Tryz.ntmps37
    go_wp2
    go_ret
    exact ⟨rfl, rfl⟩
theorem kd_abs (s : Nat) (h : s < 3) : kd (32 + 8 * (s : Int)) = ⟨32 + 8 * (s : Int), 1, ((4 / 2 ^ s : Nat) : Int), false, 0, 1⟩ := by
  match s, h with
  | 0, _ => rfl
  | 1, _ => rfl
  | 2, _ => rfl
theorem kd_ind (s : Nat) (h : s < 3) : kd (64 + 8 * (s : Int)) = ⟨64 + 8 * (s : Int), 1, ((4 / 2 ^ s : Nat) : Int), true, 0, 1⟩ := by
  match s, h with
  | 0, _ => rfl
  | 1, _ => rfl
  | 2, _ => rfl
def Ver (fg : Nat) (L cap : Nat) (ao : Option Addr) (m c : Nat) (w : World) (V : Int) : Prop :=
  Calls Tryz.prog 34 #[.slice (some ⟨fg, 0, none⟩) L cap, .slice ao m c] w fun e w' => e = .returned (.int .i64 V) ∧ w.grownBy w' none
set_option maxRecDepth 100000 in
theorem ver_of {fg j cap : Nat} {u : Nat → Int} {ao : Option Addr} {m c : Nat} {g : Nat → Int} {tb : TypeId} {pb : Value} {w0 w : World} {V : Int} {L : Nat} (h1 : 1 ≤ j) (hj : j ≤ 256) (hL : L = 8 * j) (hc : L ≤ cap) (hm : m ≤ 2000) (hmc : m ≤ c) (hp : Oct g) (hs : Src w .u8 (some ⟨fg, 0, none⟩) L (encs u)) (hq : Src w0 .u8 ao m g) (hl : Laid w0 tb pb) (hg : w0.grownBy w none) (hok : Chk (encs u) (8 * j) 0 0) (hV : runF (decs (encs u)) g m 256 F0 = V) : Ver fg L cap ao m c w V := by
  subst hL
  refine (kverdict _ j cap (encs u) ao m c g tb pb w h1 hj hc hm hmc (encs_oct _) hp hs (hq.keep hg) (hl.keep hg) hok).mono ?_
  rintro e w' ⟨rfl, hg'⟩
  rw [hV]
  exact ⟨rfl, hg'⟩
end Go.Proofs.YthbcfepbkkbjiaaGreatDoor
