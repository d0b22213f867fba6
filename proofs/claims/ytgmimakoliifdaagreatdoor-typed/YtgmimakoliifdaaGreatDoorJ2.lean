import Derived.Test.YtgmimakoliifdaaGreatDoorRows
import Derived.Test.YtgmimakoliifdaaGreatDoorJ1
import Derived.BigQuiet
import Derived.Deep.QuietTactic
import Derived.Deep.RegionHeld3
import Derived.Deep.DrawnRows
namespace Go.Proofs.YtgmimakoliifdaaGreatDoor
open Go.RowKit

set_option maxRecDepth 100000 in
set_option maxHeartbeats 400000 in
theorem number_any (b off n c : Nat) (g : Nat → Int) (w : World) (hn : n ≤ 4) (hg : Oct g) (h : Row w .u8 b off n g) :
    Calls Tryz.prog 95 #[.slice (some ⟨b, off, none⟩) n c] w fun e w' => e = .returned (.int .i64 (le g n)) ∧ w' = w := by
  go_enter Tryz.func95, Tryz.ntmps95
  go_wp2
  go_loop [3, 4, 5, 8] (fun v _ _ i => ∃ k : Nat, k ≤ n ∧ i = .int .i64 k ∧ v = .int .i64 (le g k)) (fun _ _ _ i => n - (intOf i).toNat)
  case atStart => exact ⟨0, Nat.zero_le _, rfl, rfl⟩
  case round =>
    obtain ⟨k, hk, rfl, rfl⟩ := hrel
    by_cases hlt : k < n
    · have hc : w.cell? ⟨b, off + k, none⟩ = some (.int .u8 (g k)) := h k hlt
      have HS : Hid (bits .or .i64 (le g k) (wrap64 (g k * 2 ^ (8 * k))) = le g (k + 1)) := or_step hg k (by omega)
      have hgk := hg k
      clear hg
      go_wp2
      go_round
      case rel => exact ⟨k + 1, by omega, by go_num, by rw [HS.out]⟩
      case measure => simp [intOf]; omega
    · have : k = n := by omega
      subst this
      go_wp2
      go_ret
      exact ⟨rfl, rfl⟩

set_option maxRecDepth 100000 in
set_option maxHeartbeats 400000 in
theorem rnumber_any (b off len c a n : Nat) (g : Nat → Int) (w : World) (hn : n ≤ 4) (hl : a + n ≤ len) (hm : len ≤ maxLen) (hg : Oct g) (h : Row w .u8 b off len g) :
    Calls Tryz.prog 62 #[.slice (some ⟨b, off, none⟩) len c, .int .i64 a, .int .i64 n] w fun e w' => e = .returned (.int .i64 (hr g n a)) ∧ w' = w := by
  unfold maxLen at hm
  go_enter Tryz.func62, Tryz.ntmps62
  go_wp2
  go_loop [7, 8] (fun v i => ∃ m k : Nat, m + k = n ∧ i = .int .i64 ((k : Int) - 1) ∧ v = .int .i64 (hr g m (a + k))) (fun _ i => (intOf i + 1).toNat)
  case atStart => exact ⟨0, n, by omega, rfl, rfl⟩
  case round =>
    obtain ⟨m, k, hk, rfl, rfl⟩ := hrel
    have hb := hr_bd4 hg m (a + k) (by omega)
    by_cases hlt : 0 < k
    · have hc : w.cell? ⟨b, off + (a + (k - 1)), none⟩ = some (.int .u8 (g (a + (k - 1)))) := h _ (by omega)
      have hgk := hg (a + (k - 1))
      clear hg
      go_wp2
      go_round
      case rel => exact ⟨m + 1, k - 1, by omega, by go_num, by simp only [hr]; rw [show a + (k - 1) + 1 = a + k by omega]; go_num⟩
      case measure => simp [intOf]; omega
    · have hk0 : k = 0 := by omega
      subst hk0
      have hmn : m = n := by omega
      subst hmn
      go_wp2
      go_ret
      exact ⟨rfl, rfl⟩

end Go.Proofs.YtgmimakoliifdaaGreatDoor

namespace Go.Proofs.YtgmimakoliifdaaGreatDoor
open Go.RowKit

def byt (v : Int) (i : Nat) : Int := v / 2 ^ (8 * i) % 256

theorem byt_bd (v : Int) (i : Nat) : 0 ≤ byt v i ∧ byt v i ≤ 255 := by unfold byt; omega

set_option maxRecDepth 100000 in
set_option maxHeartbeats 400000 in
theorem put_any (B off m c : Nat) (v : Int) (e0 : TypeId) (N n : Nat) (f : Nat → Value) (w : World) (hm : m ≤ 4) (hb : Blk w B e0 N n f) (hn : off + m ≤ n) :
    Calls Tryz.prog 96 #[.slice (some ⟨B, off, none⟩) m c, .int .i64 v] w fun e w' => e = .returned (.tuple #[]) ∧ w.grownBy w' (some B) ∧ Blk w' B e0 N n (patch f off m (fun i => .int .u8 (byt v i))) := by
  go_enter Tryz.func96, Tryz.ntmps96
  go_wp2
  go_loopw [4, 7] (fun _ i wr => ∃ k : Nat, k ≤ m ∧ i = .int .i64 k ∧ w.grownBy wr (some B) ∧ Blk wr B e0 N n (patch f off k (fun i => .int .u8 (byt v i)))) (fun _ i _ => m - (intOf i).toNat)
  case atStart => exact ⟨0, Nat.zero_le _, rfl, grown_refl _ _, hb.congr fun j _ => (patch_zero _ _ _ _).symm⟩
  case round =>
    obtain ⟨k, hk, rfl, hgr, hbk⟩ := hrel
    by_cases hlt : k < m
    · have hc := hbk.cell (j := off + k) (by omega)
      have hfz := hbk.frozen (off + k)
      have R := hbk.set' (j := off + k) (by omega) (.int .u8 (byt v k))
      clear hb
      go_wp2
      go_roundw
      case rel => exact ⟨k + 1, by omega, by go_num, grown_trans hgr (grown_setCell _ _ _), R.congr fun j _ => patch_succ _ _ _ (fun i => .int .u8 (byt v i)) j⟩
      case measure => simp [intOf]; omega
    · have : k = m := by omega
      subst this
      go_wp2
      go_end0
      exact ⟨rfl, hgr, hbk⟩

/-- the eight bytes of an instruction -/
def enc8 (a b c d : Int) (j : Nat) : Int := if j < 2 then byt a j else if j = 2 then b % 256 else if j = 3 then c % 256 else byt d (j - 4)

theorem patch8 (f : Nat → Value) (off : Nat) (x y z u : Int) (j : Nat) :
    patch (fun i => if i = off + 3 then Value.int .u8 (z % 256) else if i = off + 2 then Value.int .u8 (y % 256) else patch f off 2 (fun i => .int .u8 (byt x i)) i) (off + 4) 4 (fun i => .int .u8 (byt u i)) j =
      patch f off 8 (fun i => .int .u8 (enc8 x y z u i)) j := by
  dsimp only [patch, enc8]
  by_cases h1 : off + 4 ≤ j ∧ j < off + 4 + 4
  · rw [if_pos h1, if_pos (by omega), if_neg (by omega), if_neg (by omega), if_neg (by omega), show j - (off + 4) = j - off - 4 by omega]
  · rw [if_neg h1]
    by_cases h3 : j = off + 3
    · subst h3; simp
    · rw [if_neg h3]
      by_cases h2 : j = off + 2
      · subst h2; simp
      · rw [if_neg h2]
        by_cases h0 : off ≤ j ∧ j < off + 2
        · rw [if_pos h0, if_pos (by omega), if_pos (by omega)]
        · rw [if_neg h0, if_neg (by omega)]

theorem box4 {w w1 : World} {a b c d : Value} {t : TypeId} {B : Nat} (hg : (w.alloc (.cells #[a, b, c, d] t)).drew.grownBy w1 (some B)) (hB : B < w.heap.size) :
    w1.cell? ⟨w.heap.size, 1, none⟩ = some b ∧ w1.cell? ⟨w.heap.size, 2, none⟩ = some c ∧ w1.cell? ⟨w.heap.size, 3, none⟩ = some d := by
  have h : ∀ j v, #[a, b, c, d][j]? = some v → w1.cell? ⟨w.heap.size, j, none⟩ = some v := fun j v hj =>
    hg.cell (by show (w.alloc _).cell? _ = _; rw [World.cell?_alloc_new]; exact hj) (by simp; omega)
  exact ⟨h 1 b rfl, h 2 c rfl, h 3 d rfl⟩

set_option maxRecDepth 100000 in
set_option maxHeartbeats 1000000 in
theorem write_any (B off c : Nat) (x y z u : Int) (e0 : TypeId) (N n : Nat) (f : Nat → Value) (w : World) (hc8 : 8 ≤ c) (hb : Blk w B e0 N n f) (hn : off + 8 ≤ n) :
    Calls Tryz.prog 71 #[.slice (some ⟨B, off, none⟩) 8 c, .agg #[.int .i64 x, .int .i64 y, .int .i64 z, .int .i64 u]] w
      fun e w' => e = .returned (.tuple #[]) ∧ w.grownBy w' (some B) ∧ Blk w' B e0 N n (patch f off 8 (fun i => .int .u8 (enc8 x y z u i))) := by
  have hlt := hb.lt
  have hc2 : (2 : Int) ≤ (c : Int) := by omega
  have hc4 : (4 : Int) ≤ (c : Int) := by omega
  have hc4n : ¬ c = 4 := by omega
  go_enter Tryz.func71, Tryz.ntmps71
  go_wp2
  go_region_with (go_at_call 96; refine (put_any B _ _ _ _ e0 N n f _ (by omega) (hb.alloc _).drew (by omega)).mono ?_; rintro e w1 ⟨rfl, hg1, hb1⟩)
  have k0 := box4 hg1 hlt
  obtain ⟨k1, k2, k3⟩ := k0
  obtain ⟨d2, e2⟩ : ∃ v, w1.cell? ⟨B, off + 2, none⟩ = some v := ⟨_, hb1.cell (by omega)⟩
  obtain ⟨d3, e3⟩ : ∃ v, w1.cell? ⟨B, off + 3, none⟩ = some v := ⟨_, hb1.cell (by omega)⟩
  have f2 := hb1.frozen (off + 2)
  have f3 := hb1.frozen (off + 3)
  go_wp2
  go_region
  all_goals go_wp2
  have hb2 := (hb1.set' (j := off + 2) (by omega) (.int .u8 (y % 256))).set' (j := off + 3) (by omega) (.int .u8 (z % 256))
  have hg2 := grown_trans (grown_setCell w1 ⟨B, off + 2, none⟩ (.int .u8 (y % 256))) (grown_setCell _ ⟨B, off + 3, none⟩ (.int .u8 (z % 256)))
  have hoth : (⟨B, off + 3, none⟩ : Addr) ≠ ⟨w.heap.size, 3, none⟩ := by intro h; cases h; omega
  have hoth2 : (⟨B, off + 2, none⟩ : Addr) ≠ ⟨w.heap.size, 3, none⟩ := by intro h; cases h; omega
  go_region_with (go_at_call 96; refine (put_any B (off + 4) 4 _ _ e0 N n _ _ (by omega) hb2.drew.drew (by omega)).mono ?_; rintro e w3 ⟨rfl, hg3, hb3⟩)
  go_wp2
  go_end0
  refine ⟨rfl, ?_, hb3.congr fun j _ => ?_⟩
  · exact grown_trans (grown_none (grown_refl _ _) (World.grownBy_alloc w _ none)) (grown_trans (grown_trans (grown_undrew hg1) hg2) (grown_undrew (grown_undrew hg3)))
  · exact patch8 f off x y z u j

/-- an instruction's eight bytes, all the row -/
def encs (q : Nat → Int) (j : Nat) : Int := enc8 (q (4 * (j / 8))) (q (4 * (j / 8) + 1)) (q (4 * (j / 8) + 2)) (q (4 * (j / 8) + 3)) (j % 8)

theorem enc8_bd (a b c d : Int) (j : Nat) : 0 ≤ enc8 a b c d j ∧ enc8 a b c d j ≤ 255 := by
  unfold enc8
  have h1 := byt_bd a j
  have h2 := byt_bd d (j - 4)
  split <;> (try split) <;> (try split) <;> omega

theorem encs_oct (q : Nat → Int) : Oct (encs q) := fun _ => enc8_bd _ _ _ _ _

theorem encs_at (q : Nat → Int) (k i : Nat) (hi : i < 8) : encs q (8 * k + i) = enc8 (q (4 * k)) (q (4 * k + 1)) (q (4 * k + 2)) (q (4 * k + 3)) i := by
  unfold encs
  rw [show (8 * k + i) / 8 = k by omega, show (8 * k + i) % 8 = i by omega]

/-- of the first k instructions -/
def encTo (q : Nat → Int) (k : Nat) (j : Nat) : Value := if j < 8 * k then .int .u8 (encs q j) else .int .u8 0

theorem encTo_succ (q : Nat → Int) (k j : Nat) : patch (encTo q k) (8 * k) 8 (fun i => .int .u8 (enc8 (q (4 * k)) (q (4 * k + 1)) (q (4 * k + 2)) (q (4 * k + 3)) i)) j = encTo q (k + 1) j := by
  dsimp only [patch, encTo]
  by_cases h : 8 * k ≤ j ∧ j < 8 * k + 8
  · rw [if_pos h, if_pos (by omega)]
    have := encs_at q k (j - 8 * k) (by omega)
    rw [show 8 * k + (j - 8 * k) = j by omega] at this
    rw [this]
  · rw [if_neg h]
    by_cases h2 : j < 8 * k
    · rw [if_pos h2, if_pos (by omega)]
    · rw [if_neg h2, if_neg (by omega)]

theorem Tryz.infoByte : (Tryz.prog.info? 5).map (fun i => (i.zero, i.size, i.bytes)) = some (some (.int .u8 0), 1, 1) := by kernel_rfl
theorem Tryz.infoInsn : (Tryz.prog.info? 51).map (fun i => (i.zero, i.size, i.bytes)) = some (some (.agg #[.int .i64 0, .int .i64 0, .int .i64 0, .int .i64 0]), 4, 32) := by kernel_rfl

set_option maxRecDepth 100000 in
set_option maxHeartbeats 1000000 in
theorem encode_any (b off n c : Nat) (q : Nat → Int) (w : World) (hn : n ≤ 17592186044416) (h : Row w .i64 b off (4 * n) q) :
    Calls Tryz.prog 48 #[.slice (some ⟨b, off, none⟩) n c] w fun e w' => ∃ g, e = .returned (.slice (some ⟨g, 0, none⟩) (8 * n) (8 * n)) ∧ w.heap.size ≤ g ∧ w.grownBy w' none ∧ Blk w' g 5 (8 * n) (8 * n) (ints .u8 (encs q)) := by
  obtain ⟨i0, hi, hz0, hz1, hz2⟩ := info_parts Tryz.infoByte
  go_enter Tryz.func48, Tryz.ntmps48
  go_wp2_with (refine wpList_make_blk _ rfl _ _ 25 rfl 5 i0 (.int .u8 0) 1 Tryz.underlying25 hi hz0 hz1 _ _ _ _ (8 * n) rfl rfl (by omega) (by omega) (by rw [hz2]; omega) (by unfold maxLen; omega) (.int .u8 0) (by intro j; simp [Value.cells, Nat.mod_one]) ?_; intro w1 hb1 hg1)
  go_loopw [12] (fun i wr => ∃ k : Nat, k ≤ n ∧ i = .int .i64 k ∧ w.grownBy wr none ∧ Blk wr w.heap.size 5 (8 * n) (8 * n) (encTo q k)) (fun i _ => n - (intOf i).toNat)
  case atStart => exact ⟨0, Nat.zero_le _, rfl, hg1, by simpa using hb1.congr fun j _ => by simp [encTo]⟩
  case round =>
    obtain ⟨k, hk, rfl, hgr, hbk⟩ := hrel
    by_cases hlt : k < n
    · obtain ⟨c0, c1, c2, c3⟩ := (h.keep hgr (by simp)).insn hlt
      clear h
      go_wp2
      have q1 : IntKind.i64.wrap ((k : Int) * 8) = 8 * (k : Int) := by rw [IntKind.wrap_i64]; omega
      have q2 : IntKind.i64.wrap ((k : Int) + 1) = (k : Int) + 1 := by rw [IntKind.wrap_i64]; omega
      have q3 : IntKind.i64.wrap (((k : Int) + 1) * 8) = 8 * (k : Int) + 8 := by rw [IntKind.wrap_i64]; omega
      have q4 : (0 : Int) ≤ 8 * (k : Int) := by omega
      have q5 : (0 : Int) ≤ 8 * (k : Int) + 8 := by omega
      have q6 : 8 * (k : Int) + 8 ≤ 8 * (n : Int) := by omega
      have q7 : max (8 * (k : Int) + 8) 0 = 8 * (k : Int) + 8 := by omega
      have q8 : (8 * (k : Int)).toNat = 8 * k := by omega
      have q9 : (8 * (k : Int) + 8).toNat = 8 * k + 8 := by omega
      have q10 : ¬ 8 * n = 8 * k := by omega
      have q11 : 8 * (k : Int) ≤ 8 * (k : Int) + 8 := by omega
      go_region_with (go_at_call 71; refine (write_any w.heap.size (8 * k) _ _ _ _ _ 5 (8 * n) (8 * n) _ _ ?_ (hbk.alloc _).drew ?_).mono ?_; omega; omega; rintro e w3 ⟨rfl, hg3, hb3⟩)
      all_goals go_wp2
      go_roundw
      case rel => exact ⟨k + 1, by omega, by go_num, grown_new none (grown_none hgr (World.grownBy_alloc wr _ none)) (grown_undrew hg3) (Nat.le_refl _), hb3.congr fun j _ => encTo_succ q k j⟩
      case measure => simp [intOf]; omega
    · have : k = n := by omega
      subst this
      go_wp2
      go_ret
      exact ⟨_, rfl, Nat.le_refl _, hgr, hbk.congr fun j hj => by simp [encTo, ints, hj]⟩

end Go.Proofs.YtgmimakoliifdaaGreatDoor

namespace Go.Proofs.YtgmimakoliifdaaGreatDoor
open Go.RowKit
attribute [local go_sem ↓] Go.wp_at_zero Go.wp_at_succ

theorem number_part (b off p m c : Nat) (g : Nat → Int) (w : World) (hg : Oct g) (h1 : off ≤ p) (h2 : p - off + m ≤ 8) (h3 : m ≤ 4) (h : Row w .u8 b off 8 g) :
    Calls Tryz.prog 95 #[.slice (some ⟨b, p, none⟩) m c] w fun e w' => e = .returned (.int .i64 (le (fun j => g (p - off + j)) m)) ∧ w' = w :=
  number_any b p m c (fun j => g (p - off + j)) w h3 (fun _ => hg _) (fun j hj => by have := h (p - off + j) (by omega); rwa [show off + (p - off + j) = p + j by omega] at this)

set_option maxRecDepth 100000 in
set_option maxHeartbeats 200000 in
theorem read_any (b off c : Nat) (g : Nat → Int) (w : World) (hc8 : 8 ≤ c) (hg : Oct g) (h : Row w .u8 b off 8 g) :
    Calls Tryz.prog 70 #[.slice (some ⟨b, off, none⟩) 8 c] w
      fun e w' => e = .returned (.agg #[.int .i64 (num2 g 0), .int .i64 (g 2), .int .i64 (g 3), .int .i64 (num4 g 4)]) ∧ w.grownBy w' none := by
  have hc2 : (2 : Int) ≤ (c : Int) := by omega
  have hc4 : (4 : Int) ≤ (c : Int) := by omega
  have hc4n : ¬ c = 4 := by omega
  have h2 := h 2 (by omega)
  have h3 := h 3 (by omega)
  have hlt : b < w.heap.size := World.block_lt_of_cell? w ⟨b, off + 2, none⟩ h2
  have g2 : IntKind.i64.wrap (g 2) = g 2 := by have := hg 2; rw [IntKind.wrap_i64]; omega
  have g3 : IntKind.i64.wrap (g 3) = g 3 := by have := hg 3; rw [IntKind.wrap_i64]; omega
  have hS0 : ∀ o, Hid ((w.alloc o).drew.cell? ⟨b, off + 2, none⟩ = some (.int .u8 (g 2)) ∧ (w.alloc o).drew.cell? ⟨b, off + 3, none⟩ = some (.int .u8 (g 3)) ∧ Row (w.alloc o).drew .u8 b off 8 g) :=
    fun o => ⟨(h.alloc o) 2 (by omega), (h.alloc o) 3 (by omega), h.alloc o⟩
  go_enter Tryz.func70, Tryz.ntmps70
  go_wp2
  go_region_held3 (fun w' => w'.cell? ⟨b, off + 2, none⟩ = some (.int .u8 (g 2)) ∧ w'.cell? ⟨b, off + 3, none⟩ = some (.int .u8 (g 3)) ∧ Row w' .u8 b off 8 g) (first | exact (hS0 _).out | assumption | (go_split_ands; exact ⟨by assumption, by assumption, by assumption⟩))
    ((go_at_call 95; refine (number_part b off _ _ _ g _ hg ?_ ?_ ?_ ?_).mono ?_; omega; omega; omega; (go_split_ands; assumption); rintro e w1 ⟨rfl, rfl⟩))
  go_wp2
  refine bodyPost_ret (v := .agg #[.int .i64 (le (fun j => g j) 2), .int .i64 (g 2), .int .i64 (g 3), .int .i64 (le (fun j => g (4 + j)) 4)]) (by simp [results, Tryz.results70, go_sem]) rfl ⟨?_, ?_⟩
  · rw [le_four g 4, show le (fun j => g j) 2 = num2 g 0 by simp [le, num2]]
  · exact grown_trans (World.grownBy_alloc w _ none) (grown_drewN _ 1 none)

theorem read_at (b p m c : Nat) (g : Nat → Int) (w : World) (hm : m = 8) (hc8 : 8 ≤ c) (hg : Oct g) (h : Row w .u8 b p 8 g) :
    Calls Tryz.prog 70 #[.slice (some ⟨b, p, none⟩) m c] w
      fun e w' => e = .returned (.agg #[.int .i64 (num2 g 0), .int .i64 (g 2), .int .i64 (g 3), .int .i64 (num4 g 4)]) ∧ w.grownBy w' none := by
  subst hm
  exact read_any b p c g w hc8 hg h

theorem zero4 (j : Nat) : (Value.agg #[.int .i64 0, .int .i64 0, .int .i64 0, .int .i64 0]).cells[j % (Value.agg #[.int .i64 0, .int .i64 0, .int .i64 0, .int .i64 0]).cells.size]! = Value.int .i64 0 := by
  have : j % 4 < 4 := Nat.mod_lt _ (by decide)
  show (#[Value.int .i64 0, .int .i64 0, .int .i64 0, .int .i64 0] : Array Value)[j % 4]! = _
  match j % 4, this with
  | 0, _ => rfl
  | 1, _ => rfl
  | 2, _ => rfl
  | 3, _ => rfl

/-- the size is none of a filter's -/
def badSize (n : Nat) : Prop := n = 0 ∨ n % 8 ≠ 0 ∨ 2048 < n

set_option maxRecDepth 100000 in
set_option maxHeartbeats 400000 in
theorem decode_bad (ao : Option Addr) (n c : Nat) (w : World) (hm : n ≤ maxLen) (hn : badSize n) :
    Calls Tryz.prog 47 #[.slice ao n c] w fun e w' => e = .returned (.tuple #[.slice none 0 0, .int .i64 1]) ∧ w' = w := by
  unfold maxLen at hm
  by_cases h0 : n = 0
  · subst h0
    go_enter Tryz.func47, Tryz.ntmps47
    go_wp2
    go_ret2
    exact ⟨rfl, rfl⟩
  · have h0' : ((n : Int) == 0) = false := by simp; omega
    by_cases h8 : n % 8 = 0
    · have h8' : (((n : Int) % 8) != 0) = false := by simp; omega
      have h2 : (2048 : Int) < (n : Int) := by rcases hn with h | h | h <;> omega
      go_enter Tryz.func47, Tryz.ntmps47
      go_wp2
      go_ret2
      exact ⟨rfl, rfl⟩
    · have h8' : (((n : Int) % 8) != 0) = true := by simp; omega
      go_enter Tryz.func47, Tryz.ntmps47
      go_wp2
      go_ret2
      exact ⟨rfl, rfl⟩

/-- the four numbers of each instruction -/
def decs (g : Nat → Int) (j : Nat) : Int :=
  if j % 4 = 0 then num2 g (8 * (j / 4)) else if j % 4 = 1 then g (8 * (j / 4) + 2) else if j % 4 = 2 then g (8 * (j / 4) + 3) else num4 g (8 * (j / 4) + 4)

theorem decs_at (g : Nat → Int) (k : Nat) : decs g (4 * k) = num2 g (8 * k) ∧ decs g (4 * k + 1) = g (8 * k + 2) ∧ decs g (4 * k + 2) = g (8 * k + 3) ∧ decs g (4 * k + 3) = num4 g (8 * k + 4) := by
  unfold decs
  refine ⟨?_, ?_, ?_, ?_⟩
  · rw [if_pos (by omega), show 4 * k / 4 = k by omega]
  · rw [if_neg (by omega), if_pos (by omega), show (4 * k + 1) / 4 = k by omega]
  · rw [if_neg (by omega), if_neg (by omega), if_pos (by omega), show (4 * k + 2) / 4 = k by omega]
  · rw [if_neg (by omega), if_neg (by omega), if_neg (by omega), show (4 * k + 3) / 4 = k by omega]

/-- of the first k instructions -/
def decTo (g : Nat → Int) (k : Nat) (j : Nat) : Value := if j < 4 * k then .int .i64 (decs g j) else .int .i64 0

theorem num2_shift (g : Nat → Int) (o p : Nat) : num2 (fun j => g (o + j)) p = num2 g (o + p) := by simp [num2, Nat.add_assoc]
theorem num4_shift (g : Nat → Int) (o p : Nat) : num4 (fun j => g (o + j)) p = num4 g (o + p) := by simp [num4, Nat.add_assoc]

theorem decTo_succ (g : Nat → Int) (k j : Nat) :
    quad (decTo g k) (k * 4) (.int .i64 (num2 (fun j => g (k * 8 + j)) 0)) (.int .i64 (g (k * 8 + 2))) (.int .i64 (g (k * 8 + 3))) (.int .i64 (num4 (fun j => g (k * 8 + j)) 4)) j = decTo g (k + 1) j := by
  rw [num2_shift, num4_shift, Nat.mul_comm k 4, Nat.mul_comm k 8]
  obtain ⟨d0, d1, d2, d3⟩ := decs_at g k
  dsimp only [quad, decTo]
  by_cases h3 : j = 4 * k + 3
  · subst h3; rw [if_pos rfl, if_pos (by omega), d3]
  · rw [if_neg h3]
    by_cases h2 : j = 4 * k + 2
    · subst h2; rw [if_pos rfl, if_pos (by omega), d2]
    · rw [if_neg h2]
      by_cases h1 : j = 4 * k + 1
      · subst h1; rw [if_pos rfl, if_pos (by omega), d1]
      · rw [if_neg h1]
        by_cases h0 : j = 4 * k
        · subst h0; rw [if_pos rfl, if_pos (by omega), d0]; rfl
        · rw [if_neg h0]
          by_cases hj : j < 4 * k
          · rw [if_pos hj, if_pos (by omega)]
          · rw [if_neg hj, if_neg (by omega)]

set_option maxRecDepth 100000 in
set_option maxHeartbeats 1000000 in
theorem decode_good (b off n c : Nat) (g : Nat → Int) (w : World) (hn : 1 ≤ n) (hn2 : n ≤ 256) (hc : 8 * n ≤ c) (hg : Oct g) (h : Row w .u8 b off (8 * n) g) :
    Calls Tryz.prog 47 #[.slice (some ⟨b, off, none⟩) (8 * n) c] w fun e w' => ∃ B, e = .returned (.tuple #[.slice (some ⟨B, 0, none⟩) n n, .int .i64 0]) ∧ w.heap.size ≤ B ∧ w.grownBy w' none ∧ Blk w' B 51 (4 * n) (4 * n) (ints .i64 (decs g)) := by
  obtain ⟨i0, hi, hz0, hz1, hz2⟩ := info_parts Tryz.infoInsn
  have h0' : ((8 * (n : Int)) == 0) = false := by simp; omega
  have h8' : (((8 * (n : Int)) % 8) != 0) = false := by simp
  have h2' : ¬ (2048 : Int) < 8 * (n : Int) := by omega
  go_enter Tryz.func47, Tryz.ntmps47
  go_wp2_with (refine wpList_make_blk _ rfl _ _ 22 rfl 51 i0 (.agg #[.int .i64 0, .int .i64 0, .int .i64 0, .int .i64 0]) 4 Tryz.underlying22 hi hz0 hz1 _ _ _ _ n rfl rfl (by omega) (by omega) (by rw [hz2]; omega) (by unfold maxLen; omega) (.int .i64 0) zero4 ?_; intro w1 hb1 hg1)
  go_loopw [26] (fun i wr => ∃ k : Nat, k ≤ n ∧ i = .int .i64 k ∧ w.grownBy wr none ∧ Blk wr w.heap.size 51 (4 * n) (4 * n) (decTo g k)) (fun i _ => n - (intOf i).toNat)
  case atStart => exact ⟨0, Nat.zero_le _, rfl, hg1, by rw [Nat.mul_comm 4 n]; exact hb1.congr fun j _ => by simp [decTo]⟩
  case round =>
    obtain ⟨k, hk, rfl, hgr, hbk⟩ := hrel
    by_cases hlt : k < n
    · have R : Row wr .u8 b (off + k * 8) 8 (fun j => g (k * 8 + j)) := Row.part (h.keep hgr (by simp)) (by omega)
      have q10 : ¬ c = 8 * k := by omega
      have q12 : ¬ c = k * 8 := by omega
      go_wp2_with (go_at_call 70; refine (read_at b _ _ _ (fun j => g (k * 8 + j)) _ ?_ ?_ (fun j => hg _) R).mono ?_; omega; omega; rintro e w2 ⟨rfl, hg2⟩; have hb2 := hbk.keep hg2 (by simp); have e0 := hb2.cell (j := k * 4) (by omega); have e1 := hb2.cell (j := k * 4 + 1) (by omega); have e2 := hb2.cell (j := k * 4 + 2) (by omega); have e3 := hb2.cell (j := k * 4 + 3) (by omega); have f0 := hb2.frozen (k * 4); have f1 := hb2.frozen (k * 4 + 1); have f2 := hb2.frozen (k * 4 + 2); have f3 := hb2.frozen (k * 4 + 3))
      obtain ⟨Q1, Q2⟩ := hb2.quad (j := k * 4) (by omega) (.int .i64 (num2 (fun j => g (k * 8 + j)) 0)) (.int .i64 (g (k * 8 + 2))) (.int .i64 (g (k * 8 + 3))) (.int .i64 (num4 (fun j => g (k * 8 + j)) 4))
      go_roundw
      case rel => exact ⟨k + 1, by omega, by go_num, grown_new none (grown_trans hgr hg2) Q2 (Nat.le_refl _), Q1.congr fun j _ => decTo_succ g k j⟩
      case measure => simp [intOf]; omega
    · have : k = n := by omega
      subst this
      go_wp2
      go_ret2
      exact ⟨_, rfl, Nat.le_refl _, hgr, hbk.congr fun j hj => by simp [decTo, ints, hj]⟩

end Go.Proofs.YtgmimakoliifdaaGreatDoor

namespace Go.Proofs.YtgmimakoliifdaaGreatDoor
open Go.RowKit
attribute [local go_sem ↓] Go.wp_at_zero Go.wp_at_succ

theorem renc_step {w : World} {base : Nat} {ao : Option Addr} {p : Nat} (q : Nat → Int) (k : Nat)
    (h : Out w base 5 1 (.slice ao (8 * k + 4 + 4) p) (8 * k + 4 + 4) (fun j => if j < (8 * k + 4) * 1 then (if j < 8 * k * 1 then ints .u8 (encs q) j else
      #[Value.int .u8 (q (4 * k) % 256), Value.int .u8 (q (4 * k) / 256 % 256), Value.int .u8 (q (4 * k + 1) % 256), Value.int .u8 (q (4 * k + 2) % 256)].getD (j - 8 * k * 1) .nilFunc) else
      #[Value.int .u8 (q (4 * k + 3) % 256), Value.int .u8 (q (4 * k + 3) / 256 % 256), Value.int .u8 (q (4 * k + 3) / 65536 % 256), Value.int .u8 (q (4 * k + 3) / 16777216 % 256)].getD (j - (8 * k + 4) * 1) .nilFunc)) :
    Out w base 5 1 (.slice ao (8 * k + 4 + 4) p) (8 * (k + 1)) (ints .u8 (encs q)) := by
  have e : 8 * (k + 1) = 8 * k + 4 + 4 := by omega
  rw [e]
  refine h.congr fun j hj => ?_
  have e1 := encs_at q k (j - 8 * k)
  simp only [Nat.mul_one] at hj ⊢
  by_cases h1 : j < 8 * k
  · rw [if_pos (by omega), if_pos h1]
  · rw [if_neg h1]
    have e2 := e1 (by omega)
    rw [show 8 * k + (j - 8 * k) = j by omega] at e2
    unfold ints
    rw [e2]
    obtain ⟨i, hi⟩ : ∃ i, j = 8 * k + i := ⟨j - 8 * k, by omega⟩
    subst hi
    rw [show 8 * k + i - 8 * k = i by omega, show 8 * k + i - (8 * k + 4) = i - 4 by omega]
    have hi8 : i < 8 := by omega
    match i, hi8 with
    | 0, _ => rw [if_pos (by omega)]; simp [enc8, byt]
    | 1, _ => rw [if_pos (by omega)]; simp [enc8, byt]
    | 2, _ => rw [if_pos (by omega)]; simp [enc8]
    | 3, _ => rw [if_pos (by omega)]; simp [enc8]
    | 4, _ => rw [if_neg (by omega)]; simp [enc8, byt]
    | 5, _ => rw [if_neg (by omega)]; simp [enc8, byt]
    | 6, _ => rw [if_neg (by omega)]; simp [enc8, byt]
    | 7, _ => rw [if_neg (by omega)]; simp [enc8, byt]

set_option maxRecDepth 100000 in
set_option maxHeartbeats 1000000 in
theorem rencode_any (b off n c : Nat) (q : Nat → Int) (w : World) (hn : n ≤ 4398046511104) (h : Row w .i64 b off (4 * n) q) :
    Calls Tryz.prog 35 #[.slice (some ⟨b, off, none⟩) n c] w fun e w' => ∃ v, e = .returned v ∧ w.grownBy w' none ∧ Out w' w.heap.size 5 1 v (8 * n) (ints .u8 (encs q)) := by
  obtain ⟨i0, hi, hz0, hz1, hz2⟩ := info_parts Tryz.infoByte
  go_enter Tryz.func35, Tryz.ntmps35
  go_wp2
  go_loopw [3, 4] (fun v i wr => ∃ k : Nat, k ≤ n ∧ i = .int .i64 k ∧ w.grownBy wr none ∧ Out wr w.heap.size 5 1 v (8 * k) (ints .u8 (encs q))) (fun _ i _ => n - (intOf i).toNat)
  case atStart => exact ⟨0, Nat.zero_le _, rfl, grown_refl _ _, out_nil _ _ _ _ _⟩
  case round =>
    obtain ⟨k, hk, rfl, hgr, ho⟩ := hrel
    by_cases hlt : k < n
    · obtain ⟨c0, c1, c2, c3⟩ := (h.keep hgr (by simp)).insn hlt
      clear h
      go_wp2_with (first | (at_builtin; refine wpList_append_out _ w rfl (.tmp 16) (.tmp 30) 25 rfl 5 i0 (.int .u8 0) 1 1 Tryz.underlying25 hi hz0 hz1 hz2 rfl (by decide) _ _ _ rfl ((ho.alloc _).alloc _) (grown_none (grown_none hgr (World.grownBy_alloc _ _ none)) (World.grownBy_alloc _ _ none)) _ 4 4 _ _ rfl (heap_top _ _ _ (by simp)) rfl (by simp [Value.oneCell']) (by decide) (by unfold maxLen; omega) (by omega) ?_; intro g1 p1 w1 ho1 hg1 hx1; have x3 := ho.box hx1 (j := 3) rfl; clear hx1) | (at_builtin; refine wpList_append_out _ w rfl (.tmp 32) (.tmp 48) 25 rfl 5 i0 (.int .u8 0) 1 1 Tryz.underlying25 hi hz0 hz1 hz2 rfl (by decide) _ _ _ rfl (ho1.alloc _) (grown_none hg1 (World.grownBy_alloc _ _ none)) _ 4 4 _ _ rfl (heap_top _ _ _ (by simp)) rfl (by simp [Value.oneCell']) (by decide) (by unfold maxLen; omega) (by omega) ?_; intro g2 p2 w2 ho2 hg2 _))
      go_roundw
      case rel => exact ⟨k + 1, by omega, by go_num, hg2, renc_step q k ho2⟩
      case measure => simp [intOf]; omega
    · have : k = n := by omega
      subst this
      go_wp2
      go_ret
      exact ⟨_, rfl, hgr, ho⟩

theorem rencode_nil (ao : Option Addr) (c : Nat) (w : World) :
    Calls Tryz.prog 35 #[.slice ao 0 c] w fun e w' => e = .returned (.slice none 0 0) ∧ w' = w := by
  go_enter Tryz.func35, Tryz.ntmps35
  go_wp2
  go_loop [3, 4] (fun v i => v = .slice none 0 0 ∧ i = .int .i64 0) (fun _ _ => 0)
  case atStart => exact ⟨rfl, rfl⟩
  case round =>
    obtain ⟨rfl, rfl⟩ := hrel
    go_wp2
    go_ret
    exact ⟨rfl, rfl⟩

theorem rnumber_at (b off len c : Nat) (A N : Int) (g : Nat → Int) (w : World) (hA : 0 ≤ A) (hN : 0 ≤ N) (hn : N ≤ 4) (hl : A + N ≤ len) (hm : len ≤ maxLen) (hg : Oct g) (h : Row w .u8 b off len g) :
    Calls Tryz.prog 62 #[.slice (some ⟨b, off, none⟩) len c, .int .i64 A, .int .i64 N] w fun e w' => e = .returned (.int .i64 (hr g N.toNat A.toNat)) ∧ w' = w := by
  obtain ⟨a, rfl⟩ := Int.eq_ofNat_of_zero_le hA
  obtain ⟨n, rfl⟩ := Int.eq_ofNat_of_zero_le hN
  exact rnumber_any b off len c a n g w (by omega) (by omega) hm hg h

set_option maxRecDepth 100000 in
set_option maxHeartbeats 400000 in
theorem rdecode_bad (ao : Option Addr) (n c : Nat) (w : World) (hm : n ≤ maxLen) (hn : badSize n) :
    Calls Tryz.prog 41 #[.slice ao n c] w fun e w' => e = .returned (.tuple #[.slice none 0 0, .int .i64 1]) ∧ w' = w := by
  unfold maxLen at hm
  by_cases h0 : n = 0
  · subst h0
    go_enter Tryz.func41, Tryz.ntmps41
    go_wp2
    go_ret2
    exact ⟨rfl, rfl⟩
  · have h0' : ((n : Int) == 0) = false := by simp; omega
    by_cases h8 : n % 8 = 0
    · have h8' : (((n : Int) % 8) != 0) = false := by simp; omega
      have h2 : (2048 : Int) < (n : Int) := by rcases hn with h | h | h <;> omega
      go_enter Tryz.func41, Tryz.ntmps41
      go_wp2
      go_ret2
      exact ⟨rfl, rfl⟩
    · have h8' : (((n : Int) % 8) != 0) = true := by simp; omega
      go_enter Tryz.func41, Tryz.ntmps41
      go_wp2
      go_ret2
      exact ⟨rfl, rfl⟩

theorem rdec_step {w : World} {base : Nat} {v : Value} (g : Nat → Int) (k : Nat)
    (h : Out w base 51 4 v (k + 1) (fun j => if j < k * 4 then ints .i64 (decs g) j else
      #[Value.int .i64 (hr g 2 (8 * k)), Value.int .i64 (g (8 * k + 2)), Value.int .i64 (g (8 * k + 3)), Value.int .i64 (hr g 4 (8 * k + 4))].getD (j - k * 4) .nilFunc)) :
    Out w base 51 4 v (k + 1) (ints .i64 (decs g)) := by
  refine h.congr fun j hj => ?_
  obtain ⟨d0, d1, d2, d3⟩ := decs_at g k
  by_cases h1 : j < k * 4
  · rw [if_pos h1]
  · rw [if_neg h1]
    obtain ⟨i, hi⟩ : ∃ i, j = 4 * k + i := ⟨j - 4 * k, by omega⟩
    subst hi
    rw [show 4 * k + i - k * 4 = i by omega, hr_two, hr_four]
    unfold ints
    have hi4 : i < 4 := by omega
    match i, hi4 with
    | 0, _ => simp [d0]
    | 1, _ => simp [d1]
    | 2, _ => simp [d2]
    | 3, _ => simp [d3]

set_option maxRecDepth 100000 in
set_option maxHeartbeats 1000000 in
theorem rdecode_good (b off n c : Nat) (g : Nat → Int) (w : World) (hn : 1 ≤ n) (hn2 : n ≤ 256) (hg : Oct g) (h : Row w .u8 b off (8 * n) g) :
    Calls Tryz.prog 41 #[.slice (some ⟨b, off, none⟩) (8 * n) c] w fun e w' => ∃ v, e = .returned (.tuple #[v, .int .i64 0]) ∧ w.grownBy w' none ∧ Out w' w.heap.size 51 4 v n (ints .i64 (decs g)) := by
  obtain ⟨i0, hi, hz0, hz1, hz2⟩ := info_parts Tryz.infoInsn
  have h0' : ((8 * (n : Int)) == 0) = false := by simp; omega
  have h8' : (((8 * (n : Int)) % 8) != 0) = false := by simp
  have h2' : ¬ (2048 : Int) < 8 * (n : Int) := by omega
  go_enter Tryz.func41, Tryz.ntmps41
  go_wp2
  go_loopw [4, 5] (fun v i wr => ∃ k : Nat, k ≤ n ∧ i = .int .i64 (8 * (k : Int)) ∧ w.grownBy wr none ∧ Out wr w.heap.size 51 4 v k (ints .i64 (decs g))) (fun _ i _ => 8 * n - (intOf i).toNat)
  case atStart => exact ⟨0, Nat.zero_le _, rfl, grown_refl _ _, out_nil _ _ _ _ _⟩
  case round =>
    obtain ⟨k, hk, rfl, hgr, ho⟩ := hrel
    by_cases hlt : k < n
    · have hSG : ∀ w', w.grownBy w' none → Hid (w'.cell? ⟨b, off + (8 * k + 2), none⟩ = some (.int .u8 (g (8 * k + 2))) ∧ w'.cell? ⟨b, off + (8 * k + 3), none⟩ = some (.int .u8 (g (8 * k + 3))) ∧ Row w' .u8 b off (8 * n) g) :=
        fun w' hw => ⟨(h.keep hw (by simp)) (8 * k + 2) (by omega), (h.keep hw (by simp)) (8 * k + 3) (by omega), h.keep hw (by simp)⟩
      have q0 : IntKind.i64.wrap (8 * (k : Int) + 2) = 8 * (k : Int) + 2 := by rw [IntKind.wrap_i64]; omega
      have q1 : IntKind.i64.wrap (8 * (k : Int) + 3) = 8 * (k : Int) + 3 := by rw [IntKind.wrap_i64]; omega
      have q2 : IntKind.i64.wrap (8 * (k : Int) + 4) = 8 * (k : Int) + 4 := by rw [IntKind.wrap_i64]; omega
      have q9 : (8 * (k : Int)).toNat = 8 * k := by omega
      have q10 : (8 * (k : Int) + 4).toNat = 8 * k + 4 := by omega
      have q3 : (8 * (k : Int) + 2).toNat = 8 * k + 2 := by omega
      have q4 : (8 * (k : Int) + 3).toNat = 8 * k + 3 := by omega
      have q5 : (0 : Int) ≤ 8 * (k : Int) + 2 := by omega
      have q6 : (0 : Int) ≤ 8 * (k : Int) + 3 := by omega
      have q7 : 8 * (k : Int) + 2 < 8 * (n : Int) := by omega
      have q8 : 8 * (k : Int) + 3 < 8 * (n : Int) := by omega
      have g2 : IntKind.i64.wrap (g (8 * k + 2)) = g (8 * k + 2) := by have := hg (8 * k + 2); rw [IntKind.wrap_i64]; omega
      have g3 : IntKind.i64.wrap (g (8 * k + 3)) = g (8 * k + 3) := by have := hg (8 * k + 3); rw [IntKind.wrap_i64]; omega
      clear h
      go_wp2
      go_region_held3 (fun w' => w'.cell? ⟨b, off + (8 * k + 2), none⟩ = some (.int .u8 (g (8 * k + 2))) ∧ w'.cell? ⟨b, off + (8 * k + 3), none⟩ = some (.int .u8 (g (8 * k + 3))) ∧ Row w' .u8 b off (8 * n) g)
        (first | assumption | exact (hSG _ (grown_drew hgr)).out | exact (hSG _ (grown_drew (grown_alloc hgr _))).out | exact (hSG _ (by assumption)).out)
        ((first | (go_at_call 62; refine (rnumber_at b off _ _ _ _ g _ ?_ ?_ ?_ ?_ ?_ hg ?_).mono ?_; omega; omega; omega; (simp only [Int.natCast_mul]; omega); (unfold maxLen; omega); (go_split_ands; assumption); rintro e w1 ⟨rfl, rfl⟩) | (refine step_append_out _ w (by rfl) (.tmp 26) (.tmp 47) 22 (by rfl) 51 i0 _ 4 32 Tryz.underlying22 hi hz0 hz1 hz2 (by rfl) (by decide) _ k _ (by rfl) (ho.alloc _).drew (grown_drew (grown_alloc hgr _)) _ 1 1 _ _ (by rfl) (heap_topd _ _ _ (by simp)) (by rfl) (by simp [Value.oneCell']) (by decide) (by unfold maxLen; omega) (by omega) ?_; intro g1 p1 w1 ho1 hg1 hx1)))
      go_wp2
      go_roundw
      case rel => exact ⟨k + 1, by omega, by go_num, hg1, rdec_step g k ho1⟩
      case measure => simp [intOf]; omega
    · have : k = n := by omega
      subst this
      go_wp2
      go_ret2
      exact ⟨_, rfl, hgr, ho⟩

end Go.Proofs.YtgmimakoliifdaaGreatDoor

namespace Go.Proofs.YtgmimakoliifdaaGreatDoor
open Go.RowKit
attribute [local go_sem ↓] Go.wp_at_zero Go.wp_at_succ

/-- A slice that is read: n numbers; where there are none its address does not matter. -/
def Src (w : World) (k : IntKind) (ao : Option Addr) (n : Nat) (g : Nat → Int) : Prop := 0 < n → ∃ b off, ao = some ⟨b, off, none⟩ ∧ Row w k b off n g

theorem Src.keep {w w' : World} {k : IntKind} {ao : Option Addr} {n : Nat} {g : Nat → Int} (h : Src w k ao n g) (hg : w.grownBy w' none) : Src w' k ao n g := fun hn => by
  obtain ⟨b, off, h1, h2⟩ := h hn
  exact ⟨b, off, h1, h2.keep hg (by simp)⟩

theorem src_of_blk {w : World} {b : Nat} {e : TypeId} {N n : Nat} {k : IntKind} {g : Nat → Int} (h : Blk w b e N n (ints k g)) {m : Nat} (hm : m ≤ n) : Src w k (some ⟨b, 0, none⟩) m g :=
  fun _ => ⟨b, 0, rfl, fun j hj => by rw [Nat.zero_add]; exact h.cell (by omega)⟩

theorem src_cells {w : World} {k : IntKind} {ao : Option Addr} {n : Nat} {g : Nat → Int} (h : Src w k ao n g) : 0 < n → ∃ b off, ao = some ⟨b, off, none⟩ ∧ ∀ j, j < n * 1 → w.cell? ⟨b, off + j, none⟩ = some (ints k g j) := fun hpos => by
  obtain ⟨b, off, h1, h2⟩ := h hpos
  exact ⟨b, off, h1, fun j hj => h2 j (by omega)⟩

def pad (g : Nat → Int) (n : Nat) : Nat → Int := fun j => if j < n then g j else 77

theorem Tryz.sizeByte : (Tryz.prog.info? 5).map (·.size) = some 1 := by kernel_rfl
theorem Tryz.sizeInsn : (Tryz.prog.info? 51).map (·.size) = some 4 := by kernel_rfl

def padTo (g : Nat → Int) (n k : Nat) : Nat → Value := fun j => if j < n then .int .u8 (g j) else if j < n + k then .int .u8 77 else .int .u8 0

theorem padTo_succ (g : Nat → Int) (n k j : Nat) : (if j = n + k then Value.int .u8 77 else padTo g n k j) = padTo g n (k + 1) j := by
  unfold padTo
  by_cases e : j = n + k
  · rw [if_pos e, if_neg (by omega), if_pos (by omega)]
  · rw [if_neg e]
    by_cases e2 : j < n
    · rw [if_pos e2, if_pos e2]
    · rw [if_neg e2, if_neg e2]
      by_cases e3 : j < n + k
      · rw [if_pos e3, if_pos (by omega)]
      · rw [if_neg e3, if_neg (by omega)]

theorem padTo_all (g : Nat → Int) (n j : Nat) (hj : j < n + 4) : padTo g n 4 j = ints .u8 (pad g n) j := by
  unfold padTo ints pad
  by_cases e2 : j < n
  · rw [if_pos e2, if_pos e2]
  · rw [if_neg e2, if_pos hj, if_neg e2]

set_option maxRecDepth 100000 in
set_option maxHeartbeats 400000 in
theorem bytes_any (ao : Option Addr) (n c : Nat) (g : Nat → Int) (w : World) (hn : n ≤ 140737488355328) (h : Src w .u8 ao n g) :
    Calls Tryz.prog 11 #[.slice ao n c] w fun e w' => ∃ H, e = .returned (.slice (some ⟨H, 0, none⟩) n (n + 4)) ∧ w.heap.size ≤ H ∧ w.grownBy w' none ∧ Blk w' H 5 (n + 4) (n + 4) (ints .u8 (pad g n)) := by
  obtain ⟨i0, hi, hz0, hz1, hz2⟩ := info_parts Tryz.infoByte
  go_enter Tryz.func11, Tryz.ntmps11
  go_wp2_with (first | (refine wpList_make_blk _ rfl _ _ 25 rfl 5 i0 (.int .u8 0) 1 Tryz.underlying25 hi hz0 hz1 _ _ _ _ (n + 4) rfl rfl (by omega) (by omega) (by rw [hz2]; omega) (by unfold maxLen; omega) (.int .u8 0) (by intro j; simp [Value.cells, Nat.mod_one]) ?_; intro w1 hb1 hg1; obtain ⟨w2, hrun, hb2, hg2⟩ := run_copy_blk (P := Tryz.prog) w1 25 25 3 5 5 1 Tryz.underlying25 Tryz.sizeByte w.heap.size (n + 4) (n + 4) ((n + 4) * 1) ((n + 4) * 1) _ hb1 ao n c (by omega) (by omega) (ints .u8 g) (fun j _ => rfl) (src_cells (h.keep hg1))) | fail)
  have hb3 : Blk w2 w.heap.size 5 (n + 4) (n + 4) (padTo g n 0) := by
    have := hb2.congr (f' := padTo g n 0) fun j _ => by
      simp only [patch, padTo, ints]
      by_cases hj : j < n
      · rw [if_pos (by omega), if_pos hj]; simp
      · rw [if_neg (by omega), if_neg hj, if_neg (by omega)]
    simpa using this
  have hg3 : w.grownBy w2 none := grown_new none hg1 hg2 (Nat.le_refl _)
  clear hb2 hb1 hg2 hg1 h
  go_wp2
  go_loopw [4] (fun i wr => ∃ k : Nat, k ≤ 4 ∧ i = .int .i64 k ∧ w.grownBy wr none ∧ Blk wr w.heap.size 5 (n + 4) (n + 4) (padTo g n k)) (fun i _ => 4 - (intOf i).toNat)
  case atStart => exact ⟨0, Nat.zero_le _, rfl, hg3, hb3⟩
  case round =>
    obtain ⟨k, hk, rfl, hgr, hbk⟩ := hrel
    by_cases hlt : k < 4
    · have e1 := hbk.cell (j := n + k) (by omega)
      have e2 := hbk.frozen (n + k)
      have R := hbk.set' (j := n + k) (by omega) (.int .u8 77)
      go_wp2
      go_roundw
      case rel => exact ⟨k + 1, by omega, by go_num, grown_new none hgr (grown_setCell _ _ _) (Nat.le_refl _), R.congr fun j _ => padTo_succ g n k j⟩
      case measure => simp [intOf]; omega
    · have : k = 4 := by omega
      subst this
      go_wp2
      go_ret
      exact ⟨_, rfl, Nat.le_refl _, hgr, hbk.congr fun j hj => padTo_all g n j hj⟩

set_option maxRecDepth 100000 in
set_option maxHeartbeats 1000000 in
theorem kept_any (H : Nat) (ao : Option Addr) (n c N : Nat) (g : Nat → Int) (e0 : TypeId) (w : World) (hn : n ≤ 140737488355328) (hN : n + 4 ≤ N) (hb : Blk w H e0 N (n + 4) (ints .u8 (pad g n))) (h : Src w .u8 ao n g) :
    Calls Tryz.prog 14 #[.slice (some ⟨H, 0, none⟩) n N, .slice ao n c] w fun e w' => e = .returned (.bool true) ∧ w.grownBy w' none := by
  have hN' : (n : Int) + 4 ≤ (N : Int) := by omega
  go_enter Tryz.func14, Tryz.ntmps14
  go_wp2
  go_loopw [6] (fun i wr => ∃ k : Nat, k ≤ n + 4 ∧ i = .int .i64 k ∧ w.grownBy wr none) (fun i _ => n + 4 - (intOf i).toNat)
  case atStart => exact ⟨0, Nat.zero_le _, rfl, grown_refl _ _⟩
  case round =>
    obtain ⟨k, hk, rfl, hgr⟩ := hrel
    by_cases hlt : k < n + 4
    · have c1 : wr.cell? ⟨H, k, none⟩ = some (.int .u8 (pad g n k)) := (hb.keep hgr (by simp)).cell hlt
      by_cases hkn : k < n
      · obtain ⟨b, off, rfl, hR⟩ := (h.keep hgr) (by omega)
        have c2 : wr.cell? ⟨b, off + k, none⟩ = some (.int .u8 (g k)) := hR k hkn
        have hp : pad g n k = g k := by simp [pad, hkn]
        rw [hp] at c1
        have t1 : (k : Int) < (n : Int) := by omega
        have t2 : (k : Int) < (n : Int) + 4 := by omega
        have t3 : decide (n ≤ k) = false := by simp; omega
        clear hb h hR hp
        go_wp2
        go_quiet (fail)
        go_wp2
        go_roundw
        case rel => exact ⟨k + 1, by omega, by go_num, grown_none hgr (grown_drewN _ _ _)⟩
        case measure => simp [intOf]; omega
      · have hp : pad g n k = 77 := by simp [pad, hkn]
        rw [hp] at c1
        have t1 : decide (k < n) = false := by simp; omega
        have t2 : (k : Int) < (n : Int) + 4 := by omega
        have t3 : decide (n ≤ k) = true := by simp; omega
        have t4 : n ≤ k := by omega
        clear hb h hp hkn
        go_wp2
        go_quiet (fail)
        go_wp2
        go_roundw
        case rel => exact ⟨k + 1, by omega, by go_num, grown_none hgr (grown_drewN _ _ _)⟩
        case measure => simp [intOf]; omega
    · go_wp2
      go_ret
      exact ⟨rfl, hgr⟩

set_option maxRecDepth 100000 in
set_option maxHeartbeats 1000000 in
theorem same_any (ao bo : Option Addr) (n c d : Nat) (g : Nat → Int) (w : World) (hn : n ≤ 140737488355328) (h : Src w .u8 ao n g) (h' : Src w .u8 bo n g) :
    Calls Tryz.prog 19 #[.slice ao n c, .slice bo n d] w fun e w' => e = .returned (.bool true) ∧ w.grownBy w' none := by
  go_enter Tryz.func19, Tryz.ntmps19
  go_wp2
  go_loopw [5] (fun i wr => ∃ k : Nat, k ≤ n ∧ i = .int .i64 k ∧ w.grownBy wr none) (fun i _ => n - (intOf i).toNat)
  case atStart => exact ⟨0, Nat.zero_le _, rfl, grown_refl _ _⟩
  case round =>
    obtain ⟨k, hk, rfl, hgr⟩ := hrel
    by_cases hlt : k < n
    · obtain ⟨b, off, rfl, hR⟩ := (h.keep hgr) (by omega)
      obtain ⟨b', off', rfl, hR'⟩ := (h'.keep hgr) (by omega)
      have c1 : wr.cell? ⟨b, off + k, none⟩ = some (.int .u8 (g k)) := hR k hlt
      have c2 : wr.cell? ⟨b', off' + k, none⟩ = some (.int .u8 (g k)) := hR' k hlt
      have t1 : (k : Int) < (n : Int) := by omega
      clear h h' hR hR'
      go_wp2
      go_quiet (fail)
      go_wp2
      go_roundw
      case rel => exact ⟨k + 1, by omega, by go_num, grown_none hgr (grown_drewN _ _ _)⟩
      case measure => simp [intOf]; omega
    · go_wp2
      go_ret
      exact ⟨rfl, hgr⟩

end Go.Proofs.YtgmimakoliifdaaGreatDoor

namespace Go.Proofs.YtgmimakoliifdaaGreatDoor
open Go.RowKit

/-- A list that the caller holds: nil, or a block of her own from its head on, whose first n elements (of 'size' cells) hold f. -/
def Held (w : World) (e : TypeId) (size : Nat) (ao : Option Addr) (n cap : Nat) (f : Nat → Value) : Prop :=
  (ao = none ∧ n = 0 ∧ cap = 0) ∨ ∃ g, ao = some ⟨g, 0, none⟩ ∧ Blk w g e (cap * size) (n * size) f ∧ n ≤ cap ∧ cap ≤ maxLen

def own? : Option Addr → Option Nat | some a => some a.block | none => none

theorem Held.keep {w w' : World} {e : TypeId} {size : Nat} {ao : Option Addr} {n cap : Nat} {f : Nat → Value} {row : Option Nat} (h : Held w e size ao n cap f) (hg : w.grownBy w' row) (hr : row = none ∨ own? ao ≠ row) : Held w' e size ao n cap f := by
  rcases h with h | ⟨g, rfl, hb, r⟩
  · exact Or.inl h
  · refine Or.inr ⟨g, rfl, hb.keep hg (fun e => ?_), r⟩
    rcases hr with hr | hr
    · rw [hr] at e; cases e
    · exact hr e

theorem Held.alloc {w : World} {e : TypeId} {size : Nat} {ao : Option Addr} {n cap : Nat} {f : Nat → Value} (h : Held w e size ao n cap f) (o : Obj) : Held (w.alloc o) e size ao n cap f := h.keep (World.grownBy_alloc w o none) (Or.inl rfl)

theorem Held.lt {w : World} {e : TypeId} {size : Nat} {ao : Option Addr} {n cap : Nat} {f : Nat → Value} (h : Held w e size ao n cap f) : ∀ g, own? ao = some g → g < w.heap.size := by
  intro g hg
  rcases h with ⟨rfl, _⟩ | ⟨g', rfl, hb, _⟩
  · cases hg
  · cases hg; exact hb.lt

/-- the first L cells of a block hold f -/
def Mkd (w : World) (b L : Nat) (f : Nat → Value) : Prop := ∃ e N, Blk w b e N L f

theorem Mkd.same {w w' : World} {b L : Nat} {f : Nat → Value} (h : Mkd w b L f) (hb : w'.heap[b]? = w.heap[b]?) : Mkd w' b L f := by
  obtain ⟨e, N, h⟩ := h
  exact ⟨e, N, h.same hb⟩
theorem Mkd.alloc {w : World} {b L : Nat} {f : Nat → Value} (h : Mkd w b L f) (o : Obj) : Mkd (w.alloc o) b L f := by
  obtain ⟨e, N, h⟩ := h
  exact ⟨e, N, h.alloc o⟩
theorem Mkd.lt {w : World} {b L : Nat} {f : Nat → Value} (h : Mkd w b L f) : b < w.heap.size := by
  obtain ⟨e, N, h⟩ := h
  exact h.lt
theorem Mkd.cell {w : World} {b L : Nat} {f : Nat → Value} (h : Mkd w b L f) {j : Nat} (hj : j < L) : w.cell? ⟨b, j, none⟩ = some (f j) := by
  obtain ⟨e, N, h⟩ := h
  exact h.cell hj

theorem Held.congr {w : World} {e : TypeId} {size : Nat} {ao : Option Addr} {n cap : Nat} {f f' : Nat → Value} (h : Held w e size ao n cap f) (hf : ∀ j, j < n * size → f j = f' j) : Held w e size ao n cap f' := by
  rcases h with h | ⟨g, h1, h2, h3⟩
  · exact Or.inl h
  · exact Or.inr ⟨g, h1, h2.congr hf, h3⟩

/-- append to a list that the caller holds: what comes out is held, too; of the old one the first n elements are still there. -/
theorem wpList_append_held {P : Program} (w : World) {ops : Array Oper} {rest : List Oper} {o : Oper} {a : Act} {Q : Exit → Act → World → Prop}
    (hgd : o.guard = none) (s x : Operand) (t : TypeId) (ho : o.op = .call { callee := .builtin .append, args := #[s, x], argTypes := #[t, t] })
    (e : TypeId) (i : TypeInfo) (z : Value) (size bytes : Nat) (ht : P.underlying t = some (.slice e)) (hi : P.info? e = some i) (hz : i.zero = some z)
    (hsize : i.size = size) (hby : i.bytes = bytes) (hzs : z.cells.size = size) (hsz : 0 < size)
    (ao : Option Addr) (n cap : Nat) (f : Nat → Value) (hs : a.eval s = .slice ao n cap) (hv : Held w e size ao n cap f)
    (B m c : Nat) (arr : Array Value) (te : TypeId) (hx : a.eval x = .slice (some ⟨B, 0, none⟩) m c) (hB : w.heap[B]? = some (.cells arr te (0, 0))) (hl : arr.size = m * size) (h1 : ∀ u ∈ arr.toList, u.oneCell' = true)
    (hm : 0 < m) (h63 : n + m ≤ maxLen) (hbytes : (n + m) * bytes ≤ 140737488355328)
    (f' : Nat → Value) (hf : ∀ j, j < n * size → f j = f' j) (hf' : ∀ j, j < m * size → arr.getD j .nilFunc = f' (n * size + j))
    (h : ∀ g' cap' w', Blk w' g' e (cap' * size) ((n + m) * size) f' → n + m ≤ cap' → cap' ≤ maxLen → Held w' e size ao n cap f' → w.grownBy w' (own? ao) → (own? ao = some g' ∨ w.heap.size ≤ g') → (∀ b L, Mkd w b L f' → L ≤ (n + m) * size → Mkd w' b L f') →
      wpList P ops Q rest (a.put o.dst (.slice (some ⟨g', 0, none⟩) (n + m) cap')) w') : wpList P ops Q (o :: rest) a w := by
  refine wpList_plain hgd fun _ hK => wp_append_blk w s x t ho e i z size bytes ht hi hz hsize hby hzs hsz ao n cap f hs hv B m c arr te hx hB hl h1 hm h63 hbytes fun g' cap' w' hb hc hcm hor => hK _ _ ?_
  have hb' : Blk w' g' e (cap' * size) ((n + m) * size) f' := hb.congr fun j hj => by
    by_cases hjn : j < n * size
    · rw [if_pos hjn]; exact hf j hjn
    · rw [if_neg hjn, hf' _ (by rw [Nat.add_mul] at hj; omega), show n * size + (j - n * size) = j by omega]
  rcases hor with ⟨hroom, rfl, rfl, hg⟩ | ⟨_, hlt, hg⟩
  · refine h g' cap' w' hb' hc hcm (Or.inr ⟨g', rfl, hb'.less (Nat.mul_le_mul_right _ (by omega)), by omega, hcm⟩) hg (Or.inl rfl) fun b L hM hL => ?_
    by_cases hbg : b = g'
    · subst hbg; exact ⟨_, _, hb'.less hL⟩
    · obtain ⟨e1, N1, hB1⟩ := hM; exact ⟨e1, N1, hB1.keep hg (by simpa using hbg)⟩
  · refine h g' cap' w' hb' hc hcm ?_ (grown_weak hg _) (Or.inr hlt) (fun b L hM _ => by obtain ⟨e1, N1, hB1⟩ := hM; exact ⟨e1, N1, hB1.keep hg (by simp)⟩)
    rcases hv with hv | ⟨g, rfl, hb0, r⟩
    · exact Or.inl hv
    · exact Or.inr ⟨g, rfl, (hb0.keep hg (by simp)).congr hf, r⟩

end Go.Proofs.YtgmimakoliifdaaGreatDoor

namespace Go.Proofs.YtgmimakoliifdaaGreatDoor
open Go.RowKit
attribute [local go_sem ↓] Go.wp_at_zero Go.wp_at_succ

theorem gdecode_bad (ao : Option Addr) (n c : Nat) (w : World) (hm : n ≤ maxLen) (hn : badSize n) :
    Calls Tryz.prog 22 #[.slice ao n c] w fun e w' => e = .returned (.tuple #[.slice none 0 0, .int .i64 1]) ∧ w' = w := by
  go_enter Tryz.func22, Tryz.ntmps22
  go_wp2_with (go_at_call 47; refine (decode_bad _ _ _ _ hm hn).mono ?_; rintro e w1 ⟨rfl, rfl⟩)
  go_ret2
  exact ⟨rfl, rfl⟩

theorem gdecode_good (b off n c : Nat) (g : Nat → Int) (w : World) (hn : 1 ≤ n) (hn2 : n ≤ 256) (hc : 8 * n ≤ c) (hg : Oct g) (h : Row w .u8 b off (8 * n) g) :
    Calls Tryz.prog 22 #[.slice (some ⟨b, off, none⟩) (8 * n) c] w fun e w' => ∃ B, e = .returned (.tuple #[.slice (some ⟨B, 0, none⟩) n n, .int .i64 0]) ∧ w.heap.size ≤ B ∧ w.grownBy w' none ∧ Blk w' B 51 (4 * n) (4 * n) (ints .i64 (decs g)) := by
  go_enter Tryz.func22, Tryz.ntmps22
  go_wp2_with (go_at_call 47; refine (decode_good _ _ n _ g _ hn hn2 hc hg h).mono ?_; rintro e w1 ⟨B, rfl, hB, hg1, hb1⟩)
  go_ret2
  exact ⟨B, rfl, hB, hg1, hb1⟩

theorem gencode_any (b off n c : Nat) (q : Nat → Int) (w : World) (hn : n ≤ 17592186044416) (h : Row w .i64 b off (4 * n) q) :
    Calls Tryz.prog 23 #[.slice (some ⟨b, off, none⟩) n c] w fun e w' => ∃ g, e = .returned (.slice (some ⟨g, 0, none⟩) (8 * n) (8 * n)) ∧ w.heap.size ≤ g ∧ w.grownBy w' none ∧ Blk w' g 5 (8 * n) (8 * n) (ints .u8 (encs q)) := by
  go_enter Tryz.func23, Tryz.ntmps23
  go_wp2_with (go_at_call 48; refine (encode_any _ _ _ _ q _ hn h).mono ?_; rintro e w1 ⟨B, rfl, hB, hg1, hb1⟩)
  go_ret
  exact ⟨B, rfl, hB, hg1, hb1⟩

/-- A slice of instructions that is read. -/
def SrcI (w : World) (ao : Option Addr) (n : Nat) (q : Nat → Int) : Prop := 0 < n → ∃ b off, ao = some ⟨b, off, none⟩ ∧ Row w .i64 b off (4 * n) q

theorem SrcI.keep {w w' : World} {ao : Option Addr} {n : Nat} {q : Nat → Int} (h : SrcI w ao n q) (hg : w.grownBy w' none) : SrcI w' ao n q := fun hn => by
  obtain ⟨b, off, h1, h2⟩ := h hn
  exact ⟨b, off, h1, h2.keep hg (by simp)⟩

theorem srcI_cells {w : World} {ao : Option Addr} {n : Nat} {q : Nat → Int} (h : SrcI w ao n q) : 0 < n → ∃ b off, ao = some ⟨b, off, none⟩ ∧ ∀ j, j < n * 4 → w.cell? ⟨b, off + j, none⟩ = some (ints .i64 q j) := fun hpos => by
  obtain ⟨b, off, h1, h2⟩ := h hpos
  exact ⟨b, off, h1, fun j hj => h2 j (by omega)⟩

/-- Writes to what is new since then are nobody's business. -/
theorem grown_own {a b c : World} {row : Option Nat} (h : a.grownBy b none) (k : b.grownBy c row) (hr : ∀ g, row = some g → a.heap.size ≤ g) : a.grownBy c none := by
  cases row with
  | none => exact grown_trans h k
  | some g => exact grown_new none h k (hr g rfl)

/-- the list that is handed in, with its spare room -/
def inq (q : Nat → Int) (n : Nat) : Nat → Int := fun j => if j < 4 * n then q j else 0

theorem inq_patch (q : Nat → Int) (n j : Nat) : patch (fun _ => Value.int .i64 0) 0 (n * 4) (ints .i64 q) j = ints .i64 (inq q n) j := by
  simp only [patch, ints, inq]
  by_cases h : j < 4 * n
  · rw [if_pos (by omega), if_pos h]; simp
  · rw [if_neg (by omega), if_neg h]

theorem encs_inq (q : Nat → Int) (n j : Nat) (hj : j < 8 * n) : encs (inq q n) j = encs q j := by
  have e : ∀ i, i < 4 * n → inq q n i = q i := fun i hi => if_pos hi
  unfold encs
  rw [e _ (by omega), e _ (by omega), e _ (by omega), e _ (by omega)]

/-- Encode, of the list that is handed in. -/
theorem gencode_in (IN n c N : Nat) (q : Nat → Int) (e0 : TypeId) (w : World) (hn : n ≤ 4398046511104) (hb : Blk w IN e0 N ((n + 4) * 4) (ints .i64 (inq q n))) :
    Calls Tryz.prog 23 #[.slice (some ⟨IN, 0, none⟩) n c] w fun e w' => ∃ g, e = .returned (.slice (some ⟨g, 0, none⟩) (8 * n) (8 * n)) ∧ w.heap.size ≤ g ∧ w.grownBy w' none ∧ Blk w' g 5 (8 * n) (8 * n) (ints .u8 (encs q)) := by
  refine (gencode_any IN 0 n c (inq q n) w (by omega) (fun j hj => by rw [Nat.zero_add]; exact hb.cell (by omega))).mono ?_
  rintro e w' ⟨B, rfl, hB, hg1, hb1⟩
  exact ⟨B, rfl, hB, hg1, hb1.congr fun j hj => by unfold ints; rw [encs_inq q n j hj]⟩

/-- how many instructions come out; which error -/
def decN (n : Nat) : Nat := if n = 0 ∨ n % 8 ≠ 0 ∨ 2048 < n then 0 else n / 8
def decE (n : Nat) : Int := if n = 0 ∨ n % 8 ≠ 0 ∨ 2048 < n then 1 else 0

theorem decN_bad {n : Nat} (h : badSize n) : decN n = 0 := by unfold decN; exact if_pos h
theorem decE_bad {n : Nat} (h : badSize n) : decE n = 1 := by unfold decE; exact if_pos h
theorem decN_good {n : Nat} (h : ¬ badSize n) : decN n = n / 8 := by unfold decN; exact if_neg h
theorem decE_good {n : Nat} (h : ¬ badSize n) : decE n = 0 := by unfold decE; exact if_neg h

theorem decN_le (n : Nat) : decN n ≤ 256 := by
  by_cases h : badSize n
  · rw [decN_bad h]; omega
  · rw [decN_good h]; unfold badSize at h; omega

theorem Oct.pad {g : Nat → Int} (hg : Oct g) (n : Nat) : Oct (pad g n) := fun j => by
  unfold Proofs.YtgmimakoliifdaaGreatDoor.pad
  split
  · exact hg j
  · omega

theorem decs_pad (g : Nat → Int) (n m j : Nat) (hn : 8 * m ≤ n) (hj : j < 4 * m) : decs (pad g n) j = decs g j := by
  have e : ∀ i, i < n → pad g n i = g i := fun i hi => if_pos hi
  unfold decs num2 num4
  rw [e _ (by omega), e _ (by omega), e _ (by omega), e _ (by omega), e _ (by omega), e _ (by omega), e _ (by omega), e _ (by omega)]

theorem gdecode_all (H n N : Nat) (g : Nat → Int) (e0 : TypeId) (w : World) (hm : n ≤ maxLen) (hN : n + 4 ≤ N) (hg : Oct g) (hb : Blk w H e0 N (n + 4) (ints .u8 (pad g n))) :
    Calls Tryz.prog 22 #[.slice (some ⟨H, 0, none⟩) n N] w fun e w' => ∃ xo xc, e = .returned (.tuple #[.slice xo (decN n) xc, .int .i64 (decE n)]) ∧
      Held w' 51 4 xo (decN n) xc (ints .i64 (decs g)) ∧ (∀ k, own? xo = some k → w.heap.size ≤ k) ∧ w.grownBy w' none := by
  by_cases hbad : badSize n
  · have e1 : decN n = 0 := decN_bad hbad
    have e2 : decE n = 1 := decE_bad hbad
    rw [e1, e2]
    refine (gdecode_bad _ _ _ _ hm hbad).mono ?_
    rintro e w' ⟨rfl, rfl⟩
    exact ⟨none, 0, rfl, Or.inl ⟨rfl, rfl, rfl⟩, fun k h => (by cases h), grown_refl _ _⟩
  · have e1 : decN n = n / 8 := decN_good hbad
    have e2 : decE n = 0 := decE_good hbad
    rw [e1, e2]
    obtain ⟨m, hm8⟩ : ∃ m, n = 8 * m := ⟨n / 8, by unfold badSize at hbad; omega⟩
    subst hm8
    have hmm : 1 ≤ m ∧ m ≤ 256 := by unfold badSize at hbad; omega
    rw [show 8 * m / 8 = m by omega]
    refine (gdecode_good H 0 m N (pad g (8 * m)) w hmm.1 hmm.2 (by omega) (hg.pad _) (fun j hj => by rw [Nat.zero_add]; exact hb.cell (by omega))).mono ?_
    rintro e w' ⟨B, rfl, hB, hg1, hb1⟩
    refine ⟨some ⟨B, 0, none⟩, m, rfl, Or.inr ⟨B, rfl, ?_, Nat.le_refl _, by unfold maxLen; omega⟩, fun k h => by cases h; exact hB, hg1⟩
    rw [Nat.mul_comm m 4]
    exact hb1.congr fun j hj => by unfold ints; rw [decs_pad g (8 * m) m j (Nat.le_refl _) hj]

theorem rdecode_all (ao : Option Addr) (n c : Nat) (g : Nat → Int) (w : World) (hm : n ≤ maxLen) (hg : Oct g) (h : Src w .u8 ao n g) :
    Calls Tryz.prog 41 #[.slice ao n c] w fun e w' => ∃ yo yc, e = .returned (.tuple #[.slice yo (decN n) yc, .int .i64 (decE n)]) ∧ SrcI w' yo (decN n) (decs g) ∧ w.grownBy w' none := by
  by_cases hbad : badSize n
  · have e1 : decN n = 0 := decN_bad hbad
    have e2 : decE n = 1 := decE_bad hbad
    rw [e1, e2]
    refine (rdecode_bad _ _ _ _ hm hbad).mono ?_
    rintro e w' ⟨rfl, rfl⟩
    exact ⟨none, 0, rfl, fun h => by omega, grown_refl _ _⟩
  · have e1 : decN n = n / 8 := decN_good hbad
    have e2 : decE n = 0 := decE_good hbad
    rw [e1, e2]
    obtain ⟨m, hm8⟩ : ∃ m, n = 8 * m := ⟨n / 8, by unfold badSize at hbad; omega⟩
    subst hm8
    have hmm : 1 ≤ m ∧ m ≤ 256 := by unfold badSize at hbad; omega
    rw [show 8 * m / 8 = m by omega]
    obtain ⟨b, off, rfl, hR⟩ := h (by omega)
    refine (rdecode_good b off m c g w hmm.1 hmm.2 hg hR).mono ?_
    rintro e w' ⟨v, rfl, hg1, ho⟩
    obtain ⟨yo, yc, rfl, ho⟩ := ho
    refine ⟨yo, yc, rfl, fun hp => ?_, hg1⟩
    rcases ho with ⟨_, h0, _⟩ | ⟨B, rfl, _, hb, _⟩
    · omega
    · exact ⟨B, 0, rfl, fun j hj => by rw [Nat.zero_add]; exact hb.cell (by omega)⟩

theorem rencode_all (ao : Option Addr) (n c : Nat) (q : Nat → Int) (w : World) (hn : n ≤ 4398046511104) (h : SrcI w ao n q) :
    Calls Tryz.prog 35 #[.slice ao n c] w fun e w' => ∃ d dc, e = .returned (.slice d (8 * n) dc) ∧ Src w' .u8 d (8 * n) (encs q) ∧ w.grownBy w' none := by
  by_cases h0 : n = 0
  · subst h0
    refine (rencode_nil ao c w).mono ?_
    rintro e w' ⟨rfl, rfl⟩
    exact ⟨none, 0, rfl, fun h => by omega, grown_refl _ _⟩
  · obtain ⟨b, off, rfl, hR⟩ := h (by omega)
    refine (rencode_any b off n c q w hn hR).mono ?_
    rintro e w' ⟨v, rfl, hg1, ho⟩
    obtain ⟨yo, yc, rfl, ho⟩ := ho
    refine ⟨yo, yc, rfl, fun hp => ?_, hg1⟩
    rcases ho with ⟨_, h0, _⟩ | ⟨B, rfl, _, hb, _⟩
    · omega
    · exact ⟨B, 0, rfl, fun j hj => by rw [Nat.zero_add]; exact hb.cell (by omega)⟩

end Go.Proofs.YtgmimakoliifdaaGreatDoor
