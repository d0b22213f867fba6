/- The walks of the statements' own helpers: bytes, kept, same. -/
import Derived.Test.YthbcfepbkkbjiaaDoorW4
namespace Go.Proofs.YthbcfepbkkbjiaaDoor
open Go.RowKit
attribute [local go_sem ↓] Go.wp_at_zero Go.wp_at_succ

/-- A slice that is read: n numbers; where there are none its address does not matter. -/
def Src (w : World) (k : IntKind) (ao : Option Addr) (n : Nat) (g : Nat → Int) : Prop := 0 < n → ∃ b off, ao = some ⟨b, off, none⟩ ∧ Row w k b off n g

theorem Src.keep {w w' : World} {k : IntKind} {ao : Option Addr} {n : Nat} {g : Nat → Int} (h : Src w k ao n g) (hg : w.grownBy w' none) : Src w' k ao n g := fun hn => by
  obtain ⟨b, off, h1, h2⟩ := h hn
  exact ⟨b, off, h1, h2.keep hg (by simp)⟩

theorem src_of_blk {w : World} {b : Nat} {e : TypeId} {N n : Nat} {k : IntKind} {g : Nat → Int} (h : Blk w b e N n (ints k g)) {m : Nat} (hm : m ≤ n) : Src w k (some ⟨b, 0, none⟩) m g :=
  fun _ => ⟨b, 0, rfl, fun j hj => by rw [Nat.zero_add]; exact h.cell (by omega)⟩

theorem src_cells {w : World} {k : IntKind} {ao : Option Addr} {n : Nat} {g : Nat → Int} (h : Src w k ao n g) : 0 < n → ∃ b off, ao = some ⟨b, off, none⟩ ∧ ∀ j, j < n * 1 → w.cell? ⟨b, off + j, none⟩ = some (ints k g j) := fun hpos => by
  obtain ⟨b, off, h1, h2⟩ := h hpos
  exact ⟨b, off, h1, fun j hj => h2 j (by omega)⟩

def pad (g : Nat → Int) (n : Nat) : Nat → Int := fun j => if j < n then g j else 77

theorem Tryd.sizeByte : (Tryd.prog.info? 5).map (·.size) = some 1 := by kernel_rfl
theorem Tryd.sizeInsn : (Tryd.prog.info? 44).map (·.size) = some 4 := by kernel_rfl

def padTo (g : Nat → Int) (n k : Nat) : Nat → Value := fun j => if j < n then .int .u8 (g j) else if j < n + k then .int .u8 77 else .int .u8 0

theorem padTo_succ (g : Nat → Int) (n k j : Nat) : (if j = n + k then Value.int .u8 77 else padTo g n k j) = padTo g n (k + 1) j := by
  unfold padTo
  by_cases e : j = n + k
  · rw [if_pos e, if_neg (by omega), if_pos (by omega)]
  · rw [if_neg e]
    by_cases e2 : j < n
    · rw [if_pos e2, if_pos e2]
    · rw [if_neg e2, if_neg e2]
      by_cases e3 : j < n + k
      · rw [if_pos e3, if_pos (by omega)]
      · rw [if_neg e3, if_neg (by omega)]

theorem padTo_all (g : Nat → Int) (n j : Nat) (hj : j < n + 4) : padTo g n 4 j = ints .u8 (pad g n) j := by
  unfold padTo ints pad
  by_cases e2 : j < n
  · rw [if_pos e2, if_pos e2]
  · rw [if_neg e2, if_pos hj, if_neg e2]

set_option maxRecDepth 100000 in
set_option maxHeartbeats 400000 in
theorem bytes_any (ao : Option Addr) (n c : Nat) (g : Nat → Int) (w : World) (hn : n ≤ 140737488355328) (h : Src w .u8 ao n g) :
    Calls Tryd.prog 6 #[.slice ao n c] w fun e w' => ∃ H, e = .returned (.slice (some ⟨H, 0, none⟩) n (n + 4)) ∧ w.heap.size ≤ H ∧ w.grownBy w' none ∧ Blk w' H 5 (n + 4) (n + 4) (ints .u8 (pad g n)) := by
  obtain ⟨i0, hi, hz0, hz1, hz2⟩ := info_parts Tryd.infoByte
  go_enter Tryd.func6, Tryd.ntmps6
  go_wp2_with (first | (refine wpList_make_blk _ rfl _ _ 25 rfl 5 i0 (.int .u8 0) 1 Tryd.underlying25 hi hz0 hz1 _ _ _ _ (n + 4) rfl rfl (by omega) (by omega) (by rw [hz2]; omega) (by unfold maxLen; omega) (.int .u8 0) (by intro j; simp [Value.cells, Nat.mod_one]) ?_; intro w1 hb1 hg1; obtain ⟨w2, hrun, hb2, hg2⟩ := run_copy_blk (P := Tryd.prog) w1 25 25 3 5 5 1 Tryd.underlying25 Tryd.sizeByte w.heap.size (n + 4) (n + 4) ((n + 4) * 1) ((n + 4) * 1) _ hb1 ao n c (by omega) (by omega) (ints .u8 g) (fun j _ => rfl) (src_cells (h.keep hg1))) | fail)
  have hb3 : Blk w2 w.heap.size 5 (n + 4) (n + 4) (padTo g n 0) := by
    have := hb2.congr (f' := padTo g n 0) fun j _ => by
      simp only [patch, padTo, ints]
      by_cases hj : j < n
      · rw [if_pos (by omega), if_pos hj]; simp
      · rw [if_neg (by omega), if_neg hj, if_neg (by omega)]
    simpa using this
  have hg3 : w.grownBy w2 none := grown_new none hg1 hg2 (Nat.le_refl _)
  clear hb2 hb1 hg2 hg1 h
  go_wp2
  go_loopw [4] (fun i wr => ∃ k : Nat, k ≤ 4 ∧ i = .int .i64 k ∧ w.grownBy wr none ∧ Blk wr w.heap.size 5 (n + 4) (n + 4) (padTo g n k)) (fun i _ => 4 - (intOf i).toNat)
  case atStart => exact ⟨0, Nat.zero_le _, rfl, hg3, hb3⟩
  case round =>
    obtain ⟨k, hk, rfl, hgr, hbk⟩ := hrel
    by_cases hlt : k < 4
    · have e1 := hbk.cell (j := n + k) (by omega)
      have e2 := hbk.frozen (n + k)
      have R := hbk.set' (j := n + k) (by omega) (.int .u8 77)
      go_wp2
      go_roundw
      case rel => exact ⟨k + 1, by omega, by go_num, grown_new none hgr (grown_setCell _ _ _) (Nat.le_refl _), R.congr fun j _ => padTo_succ g n k j⟩
      case measure => simp [intOf]; omega
    · have : k = 4 := by omega
      subst this
      go_wp2
      go_ret
      exact ⟨_, rfl, Nat.le_refl _, hgr, hbk.congr fun j hj => padTo_all g n j hj⟩

set_option maxRecDepth 100000 in
set_option maxHeartbeats 1000000 in
theorem kept_any (H : Nat) (ao : Option Addr) (n c N : Nat) (g : Nat → Int) (e0 : TypeId) (w : World) (hn : n ≤ 140737488355328) (hN : n + 4 ≤ N) (hb : Blk w H e0 N (n + 4) (ints .u8 (pad g n))) (h : Src w .u8 ao n g) :
    Calls Tryd.prog 9 #[.slice (some ⟨H, 0, none⟩) n N, .slice ao n c] w fun e w' => e = .returned (.bool true) ∧ w.grownBy w' none := by
  have hN' : (n : Int) + 4 ≤ (N : Int) := by omega
  go_enter Tryd.func9, Tryd.ntmps9
  go_wp2
  go_loopw [6] (fun i wr => ∃ k : Nat, k ≤ n + 4 ∧ i = .int .i64 k ∧ w.grownBy wr none) (fun i _ => n + 4 - (intOf i).toNat)
  case atStart => exact ⟨0, Nat.zero_le _, rfl, grown_refl _ _⟩
  case round =>
    obtain ⟨k, hk, rfl, hgr⟩ := hrel
    by_cases hlt : k < n + 4
    · have c1 : wr.cell? ⟨H, k, none⟩ = some (.int .u8 (pad g n k)) := (hb.keep hgr (by simp)).cell hlt
      by_cases hkn : k < n
      · obtain ⟨b, off, rfl, hR⟩ := (h.keep hgr) (by omega)
        have c2 : wr.cell? ⟨b, off + k, none⟩ = some (.int .u8 (g k)) := hR k hkn
        have hp : pad g n k = g k := by simp [pad, hkn]
        rw [hp] at c1
        have t1 : (k : Int) < (n : Int) := by omega
        have t2 : (k : Int) < (n : Int) + 4 := by omega
        have t3 : decide (n ≤ k) = false := by simp; omega
        clear hb h hR hp
        go_wp2
        go_quiet (fail)
        go_wp2
        go_roundw
        case rel => exact ⟨k + 1, by omega, by go_num, grown_none hgr (grown_drewN _ _ _)⟩
        case measure => simp [intOf]; omega
      · have hp : pad g n k = 77 := by simp [pad, hkn]
        rw [hp] at c1
        have t1 : decide (k < n) = false := by simp; omega
        have t2 : (k : Int) < (n : Int) + 4 := by omega
        have t3 : decide (n ≤ k) = true := by simp; omega
        have t4 : n ≤ k := by omega
        clear hb h hp hkn
        go_wp2
        go_quiet (fail)
        go_wp2
        go_roundw
        case rel => exact ⟨k + 1, by omega, by go_num, grown_none hgr (grown_drewN _ _ _)⟩
        case measure => simp [intOf]; omega
    · go_wp2
      go_ret
      exact ⟨rfl, hgr⟩

end Go.Proofs.YthbcfepbkkbjiaaDoor
