import Derived.Test.YthbcfepbkkbjiaaGreatDoorRows
import Derived.BigQuiet
import Derived.Deep.QuietTactic
import Derived.Deep.RegionHeld3
import Derived.Deep.DrawnRows
import Derived.Test.YthbcfepbkkbjiaaGreatDoorJ1
namespace Go.Proofs.YthbcfepbkkbjiaaGreatDoor
open Go.RowKit
set_option maxRecDepth 100000 in
set_option maxHeartbeats 400000 in
theorem number_any (b off n c : Nat) (g : Nat → Int) (w : World) (hn : n ≤ 4) (hg : Oct g) (h : Row w .u8 b off n g) :
    Calls Tryz.prog 123 #[.slice (some ⟨b, off, none⟩) n c] w fun e w' => e = .returned (.int .i64 (le g n)) ∧ w' = w := by
  go_enter Tryz.func123, Tryz.ntmps123
  go_wp2
  go_loop [3, 4, 5, 8] (fun v _ _ i => ∃ k : Nat, k ≤ n ∧ i = .int .i64 k ∧ v = .int .i64 (le g k)) (fun _ _ _ i => n - (intOf i).toNat)
  case atStart => exact ⟨0, Nat.zero_le _, rfl, rfl⟩
  case round =>
    obtain ⟨k, hk, rfl, rfl⟩ := hrel
    by_cases hlt : k < n
    · have hc : w.cell? ⟨b, off + k, none⟩ = some (.int .u8 (g k)) := h k hlt
      have HS : Hid (bits .or .i64 (le g k) (wrap64 (g k * 2 ^ (8 * k))) = le g (k + 1)) := or_step hg k (by omega)
      have hgk := hg k
      clear hg
      go_wp2
      go_round
      case rel => exact ⟨k + 1, by omega, by go_num, by rw [HS.out]⟩
      case measure => simp [intOf]; omega
    · have : k = n := by omega
      subst this
      go_wp2
      go_ret
      exact ⟨rfl, rfl⟩
end Go.Proofs.YthbcfepbkkbjiaaGreatDoor
namespace Go.Proofs.YthbcfepbkkbjiaaGreatDoor
open Go.RowKit
def byt (v : Int) (i : Nat) : Int := v / 2 ^ (8 * i) % 256
theorem byt_bd (v : Int) (i : Nat) : 0 ≤ byt v i ∧ byt v i ≤ 255 := by unfold byt; omega
set_option maxRecDepth 100000 in
set_option maxHeartbeats 400000 in
theorem put_any (B off m c : Nat) (v : Int) (e0 : TypeId) (N n : Nat) (f : Nat → Value) (w : World) (hm : m ≤ 4) (hb : Blk w B e0 N n f) (hn : off + m ≤ n) :
    Calls Tryz.prog 124 #[.slice (some ⟨B, off, none⟩) m c, .int .i64 v] w fun e w' => e = .returned (.tuple #[]) ∧ w.grownBy w' (some B) ∧ Blk w' B e0 N n (patch f off m (fun i => .int .u8 (byt v i))) := by
  go_enter Tryz.func124, Tryz.ntmps124
  go_wp2
  go_loopw [4, 7] (fun _ i wr => ∃ k : Nat, k ≤ m ∧ i = .int .i64 k ∧ w.grownBy wr (some B) ∧ Blk wr B e0 N n (patch f off k (fun i => .int .u8 (byt v i)))) (fun _ i _ => m - (intOf i).toNat)
  case atStart => exact ⟨0, Nat.zero_le _, rfl, grown_refl _ _, hb.congr fun j _ => (patch_zero _ _ _ _).symm⟩
  case round =>
    obtain ⟨k, hk, rfl, hgr, hbk⟩ := hrel
    by_cases hlt : k < m
    · have hc := hbk.cell (j := off + k) (by omega)
      have hfz := hbk.frozen (off + k)
      have R := hbk.set' (j := off + k) (by omega) (.int .u8 (byt v k))
      clear hb
      go_wp2
      go_roundw
      case rel => exact ⟨k + 1, by omega, by go_num, grown_trans hgr (grown_setCell _ _ _), R.congr fun j _ => patch_succ _ _ _ (fun i => .int .u8 (byt v i)) j⟩
      case measure => simp [intOf]; omega
    · have : k = m := by omega
      subst this
      go_wp2
      go_end0
      exact ⟨rfl, hgr, hbk⟩
def enc8 (a b c d : Int) (j : Nat) : Int := if j < 2 then byt a j else if j = 2 then b % 256 else if j = 3 then c % 256 else byt d (j - 4)
theorem patch8 (f : Nat → Value) (off : Nat) (x y z u : Int) (j : Nat) :
    patch (fun i => if i = off + 3 then Value.int .u8 (z % 256) else if i = off + 2 then Value.int .u8 (y % 256) else patch f off 2 (fun i => .int .u8 (byt x i)) i) (off + 4) 4 (fun i => .int .u8 (byt u i)) j =
      patch f off 8 (fun i => .int .u8 (enc8 x y z u i)) j := by
  dsimp only [patch, enc8]
  by_cases h1 : off + 4 ≤ j ∧ j < off + 4 + 4
  · rw [if_pos h1, if_pos (by omega), if_neg (by omega), if_neg (by omega), if_neg (by omega), show j - (off + 4) = j - off - 4 by omega]
  · rw [if_neg h1]
    by_cases h3 : j = off + 3
    · subst h3; simp
    · rw [if_neg h3]
      by_cases h2 : j = off + 2
      · subst h2; simp
      · rw [if_neg h2]
        by_cases h0 : off ≤ j ∧ j < off + 2
        · rw [if_pos h0, if_pos (by omega), if_pos (by omega)]
        · rw [if_neg h0, if_neg (by omega)]
theorem box4 {w w1 : World} {a b c d : Value} {t : TypeId} {B : Nat} (hg : (w.alloc (.cells #[a, b, c, d] t)).drew.grownBy w1 (some B)) (hB : B < w.heap.size) :
    w1.cell? ⟨w.heap.size, 1, none⟩ = some b ∧ w1.cell? ⟨w.heap.size, 2, none⟩ = some c ∧ w1.cell? ⟨w.heap.size, 3, none⟩ = some d := by
  have h : ∀ j v, #[a, b, c, d][j]? = some v → w1.cell? ⟨w.heap.size, j, none⟩ = some v := fun j v hj =>
    hg.cell (by show (w.alloc _).cell? _ = _; rw [World.cell?_alloc_new]; exact hj) (by simp; omega)
  exact ⟨h 1 b rfl, h 2 c rfl, h 3 d rfl⟩
set_option maxRecDepth 100000 in
set_option maxHeartbeats 1000000 in
theorem write_any (B off c : Nat) (x y z u : Int) (e0 : TypeId) (N n : Nat) (f : Nat → Value) (w : World) (hc8 : 8 ≤ c) (hb : Blk w B e0 N n f) (hn : off + 8 ≤ n) :
    Calls Tryz.prog 95 #[.slice (some ⟨B, off, none⟩) 8 c, .agg #[.int .i64 x, .int .i64 y, .int .i64 z, .int .i64 u]] w
      fun e w' => e = .returned (.tuple #[]) ∧ w.grownBy w' (some B) ∧ Blk w' B e0 N n (patch f off 8 (fun i => .int .u8 (enc8 x y z u i))) := by
  have hlt := hb.lt
  have hc2 : (2 : Int) ≤ (c : Int) := by omega
  have hc4 : (4 : Int) ≤ (c : Int) := by omega
  have hc4n : ¬ c = 4 := by omega
  go_enter Tryz.func95, Tryz.ntmps95
  go_wp2
  go_region_with (go_at_call 124; refine (put_any B _ _ _ _ e0 N n f _ (by omega) (hb.alloc _).drew (by omega)).mono ?_; rintro e w1 ⟨rfl, hg1, hb1⟩)
  have k0 := box4 hg1 hlt
  obtain ⟨k1, k2, k3⟩ := k0
  obtain ⟨d2, e2⟩ : ∃ v, w1.cell? ⟨B, off + 2, none⟩ = some v := ⟨_, hb1.cell (by omega)⟩
  obtain ⟨d3, e3⟩ : ∃ v, w1.cell? ⟨B, off + 3, none⟩ = some v := ⟨_, hb1.cell (by omega)⟩
  have f2 := hb1.frozen (off + 2)
  have f3 := hb1.frozen (off + 3)
  go_wp2
  go_region
  all_goals go_wp2
  have hb2 := (hb1.set' (j := off + 2) (by omega) (.int .u8 (y % 256))).set' (j := off + 3) (by omega) (.int .u8 (z % 256))
  have hg2 := grown_trans (grown_setCell w1 ⟨B, off + 2, none⟩ (.int .u8 (y % 256))) (grown_setCell _ ⟨B, off + 3, none⟩ (.int .u8 (z % 256)))
  have hoth : (⟨B, off + 3, none⟩ : Addr) ≠ ⟨w.heap.size, 3, none⟩ := by intro h; cases h; omega
  have hoth2 : (⟨B, off + 2, none⟩ : Addr) ≠ ⟨w.heap.size, 3, none⟩ := by intro h; cases h; omega
  go_region_with (go_at_call 124; refine (put_any B (off + 4) 4 _ _ e0 N n _ _ (by omega) hb2.drew.drew (by omega)).mono ?_; rintro e w3 ⟨rfl, hg3, hb3⟩)
  go_wp2
  go_end0
  refine ⟨rfl, ?_, hb3.congr fun j _ => ?_⟩
  · exact grown_trans (grown_none (grown_refl _ _) (World.grownBy_alloc w _ none)) (grown_trans (grown_trans (grown_undrew hg1) hg2) (grown_undrew (grown_undrew hg3)))
  · exact patch8 f off x y z u j
def encs (q : Nat → Int) (j : Nat) : Int := enc8 (q (4 * (j / 8))) (q (4 * (j / 8) + 1)) (q (4 * (j / 8) + 2)) (q (4 * (j / 8) + 3)) (j % 8)
theorem enc8_bd (a b c d : Int) (j : Nat) : 0 ≤ enc8 a b c d j ∧ enc8 a b c d j ≤ 255 := by
  unfold enc8
  have h1 := byt_bd a j
  have h2 := byt_bd d (j - 4)
  split <;> (try split) <;> (try split) <;> omega
theorem encs_oct (q : Nat → Int) : Oct (encs q) := fun _ => enc8_bd _ _ _ _ _
theorem encs_at (q : Nat → Int) (k i : Nat) (hi : i < 8) : encs q (8 * k + i) = enc8 (q (4 * k)) (q (4 * k + 1)) (q (4 * k + 2)) (q (4 * k + 3)) i := by
  unfold encs
  rw [show (8 * k + i) / 8 = k by omega, show (8 * k + i) % 8 = i by omega]
def encTo (q : Nat → Int) (k : Nat) (j : Nat) : Value := if j < 8 * k then .int .u8 (encs q j) else .int .u8 0
theorem encTo_succ (q : Nat → Int) (k j : Nat) : patch (encTo q k) (8 * k) 8 (fun i => .int .u8 (enc8 (q (4 * k)) (q (4 * k + 1)) (q (4 * k + 2)) (q (4 * k + 3)) i)) j = encTo q (k + 1) j := by
  dsimp only [patch, encTo]
  by_cases h : 8 * k ≤ j ∧ j < 8 * k + 8
  · rw [if_pos h, if_pos (by omega)]
    have := encs_at q k (j - 8 * k) (by omega)
    rw [show 8 * k + (j - 8 * k) = j by omega] at this
    rw [this]
  · rw [if_neg h]
    by_cases h2 : j < 8 * k
    · rw [if_pos h2, if_pos (by omega)]
    · rw [if_neg h2, if_neg (by omega)]
theorem Tryz.infoByte : (Tryz.prog.info? 5).map (fun i => (i.zero, i.size, i.bytes)) = some (some (.int .u8 0), 1, 1) := by kernel_rfl
theorem Tryz.infoInsn : (Tryz.prog.info? 63).map (fun i => (i.zero, i.size, i.bytes)) = some (some (.agg #[.int .i64 0, .int .i64 0, .int .i64 0, .int .i64 0]), 4, 32) := by kernel_rfl
set_option maxRecDepth 100000 in
set_option maxHeartbeats 1000000 in
theorem encode_any (b off n c : Nat) (q : Nat → Int) (w : World) (hn : n ≤ 17592186044416) (h : Row w .i64 b off (4 * n) q) :
    Calls Tryz.prog 64 #[.slice (some ⟨b, off, none⟩) n c] w fun e w' => ∃ g, e = .returned (.slice (some ⟨g, 0, none⟩) (8 * n) (8 * n)) ∧ w.heap.size ≤ g ∧ w.grownBy w' none ∧ Blk w' g 5 (8 * n) (8 * n) (ints .u8 (encs q)) := by
  obtain ⟨i0, hi, hz0, hz1, hz2⟩ := info_parts Tryz.infoByte
  go_enter Tryz.func64, Tryz.ntmps64
  go_wp2_with (refine wpList_make_blk _ rfl _ _ 25 rfl 5 i0 (.int .u8 0) 1 Tryz.underlying25 hi hz0 hz1 _ _ _ _ (8 * n) rfl rfl (by omega) (by omega) (by rw [hz2]; omega) (by unfold maxLen; omega) (.int .u8 0) (by intro j; simp [Value.cells, Nat.mod_one]) ?_; intro w1 hb1 hg1)
  go_loopw [12] (fun i wr => ∃ k : Nat, k ≤ n ∧ i = .int .i64 k ∧ w.grownBy wr none ∧ Blk wr w.heap.size 5 (8 * n) (8 * n) (encTo q k)) (fun i _ => n - (intOf i).toNat)
  case atStart => exact ⟨0, Nat.zero_le _, rfl, hg1, by simpa using hb1.congr fun j _ => by simp [encTo]⟩
  case round =>
    obtain ⟨k, hk, rfl, hgr, hbk⟩ := hrel
    by_cases hlt : k < n
    · obtain ⟨c0, c1, c2, c3⟩ := (h.keep hgr (by simp)).insn hlt
      clear h
      go_wp2
      have q1 : IntKind.i64.wrap ((k : Int) * 8) = 8 * (k : Int) := by rw [IntKind.wrap_i64]; omega
      have q2 : IntKind.i64.wrap ((k : Int) + 1) = (k : Int) + 1 := by rw [IntKind.wrap_i64]; omega
      have q3 : IntKind.i64.wrap (((k : Int) + 1) * 8) = 8 * (k : Int) + 8 := by rw [IntKind.wrap_i64]; omega
      have q4 : (0 : Int) ≤ 8 * (k : Int) := by omega
      have q5 : (0 : Int) ≤ 8 * (k : Int) + 8 := by omega
      have q6 : 8 * (k : Int) + 8 ≤ 8 * (n : Int) := by omega
      have q7 : max (8 * (k : Int) + 8) 0 = 8 * (k : Int) + 8 := by omega
      have q8 : (8 * (k : Int)).toNat = 8 * k := by omega
      have q9 : (8 * (k : Int) + 8).toNat = 8 * k + 8 := by omega
      have q10 : ¬ 8 * n = 8 * k := by omega
      have q11 : 8 * (k : Int) ≤ 8 * (k : Int) + 8 := by omega
      go_region_with (go_at_call 95; refine (write_any w.heap.size (8 * k) _ _ _ _ _ 5 (8 * n) (8 * n) _ _ ?_ (hbk.alloc _).drew ?_).mono ?_; omega; omega; rintro e w3 ⟨rfl, hg3, hb3⟩)
      all_goals go_wp2
      go_roundw
      case rel => exact ⟨k + 1, by omega, by go_num, grown_new none (grown_none hgr (World.grownBy_alloc wr _ none)) (grown_undrew hg3) (Nat.le_refl _), hb3.congr fun j _ => encTo_succ q k j⟩
      case measure => simp [intOf]; omega
    · have : k = n := by omega
      subst this
      go_wp2
      go_ret
      exact ⟨_, rfl, Nat.le_refl _, hgr, hbk.congr fun j hj => by simp [encTo, ints, hj]⟩
end Go.Proofs.YthbcfepbkkbjiaaGreatDoor
namespace Go.Proofs.YthbcfepbkkbjiaaGreatDoor
open Go.RowKit
attribute [local go_sem ↓] Go.wp_at_zero Go.wp_at_succ
theorem number_part (b off p m c : Nat) (g : Nat → Int) (w : World) (hg : Oct g) (h1 : off ≤ p) (h2 : p - off + m ≤ 8) (h3 : m ≤ 4) (h : Row w .u8 b off 8 g) :
    Calls Tryz.prog 123 #[.slice (some ⟨b, p, none⟩) m c] w fun e w' => e = .returned (.int .i64 (le (fun j => g (p - off + j)) m)) ∧ w' = w :=
  number_any b p m c (fun j => g (p - off + j)) w h3 (fun _ => hg _) (fun j hj => by have := h (p - off + j) (by omega); rwa [show off + (p - off + j) = p + j by omega] at this)
set_option maxRecDepth 100000 in
set_option maxHeartbeats 200000 in
theorem read_any (b off c : Nat) (g : Nat → Int) (w : World) (hc8 : 8 ≤ c) (hg : Oct g) (h : Row w .u8 b off 8 g) :
    Calls Tryz.prog 94 #[.slice (some ⟨b, off, none⟩) 8 c] w
      fun e w' => e = .returned (.agg #[.int .i64 (num2 g 0), .int .i64 (g 2), .int .i64 (g 3), .int .i64 (num4 g 4)]) ∧ w.grownBy w' none := by
  have hc2 : (2 : Int) ≤ (c : Int) := by omega
  have hc4 : (4 : Int) ≤ (c : Int) := by omega
  have hc4n : ¬ c = 4 := by omega
  have h2 := h 2 (by omega)
  have h3 := h 3 (by omega)
  have hlt : b < w.heap.size := World.block_lt_of_cell? w ⟨b, off + 2, none⟩ h2
  have g2 : IntKind.i64.wrap (g 2) = g 2 := by have := hg 2; rw [IntKind.wrap_i64]; omega
  have g3 : IntKind.i64.wrap (g 3) = g 3 := by have := hg 3; rw [IntKind.wrap_i64]; omega
  have hS0 : ∀ o, Hid ((w.alloc o).drew.cell? ⟨b, off + 2, none⟩ = some (.int .u8 (g 2)) ∧ (w.alloc o).drew.cell? ⟨b, off + 3, none⟩ = some (.int .u8 (g 3)) ∧ Row (w.alloc o).drew .u8 b off 8 g) :=
    fun o => ⟨(h.alloc o) 2 (by omega), (h.alloc o) 3 (by omega), h.alloc o⟩
  go_enter Tryz.func94, Tryz.ntmps94
  go_wp2
  go_region_held3 (fun w' => w'.cell? ⟨b, off + 2, none⟩ = some (.int .u8 (g 2)) ∧ w'.cell? ⟨b, off + 3, none⟩ = some (.int .u8 (g 3)) ∧ Row w' .u8 b off 8 g) (first | exact (hS0 _).out | assumption | (go_split_ands; exact ⟨by assumption, by assumption, by assumption⟩))
    ((go_at_call 123; refine (number_part b off _ _ _ g _ hg ?_ ?_ ?_ ?_).mono ?_; omega; omega; omega; (go_split_ands; assumption); rintro e w1 ⟨rfl, rfl⟩))
  go_wp2
  refine bodyPost_ret (v := .agg #[.int .i64 (le (fun j => g j) 2), .int .i64 (g 2), .int .i64 (g 3), .int .i64 (le (fun j => g (4 + j)) 4)]) (by simp [results, Tryz.results94, go_sem]) rfl ⟨?_, ?_⟩
  · rw [le_four g 4, show le (fun j => g j) 2 = num2 g 0 by simp [le, num2]]
  · exact grown_trans (World.grownBy_alloc w _ none) (grown_drewN _ 1 none)
theorem read_at (b p m c : Nat) (g : Nat → Int) (w : World) (hm : m = 8) (hc8 : 8 ≤ c) (hg : Oct g) (h : Row w .u8 b p 8 g) :
    Calls Tryz.prog 94 #[.slice (some ⟨b, p, none⟩) m c] w
      fun e w' => e = .returned (.agg #[.int .i64 (num2 g 0), .int .i64 (g 2), .int .i64 (g 3), .int .i64 (num4 g 4)]) ∧ w.grownBy w' none := by
  subst hm
  exact read_any b p c g w hc8 hg h
theorem zero4 (j : Nat) : (Value.agg #[.int .i64 0, .int .i64 0, .int .i64 0, .int .i64 0]).cells[j % (Value.agg #[.int .i64 0, .int .i64 0, .int .i64 0, .int .i64 0]).cells.size]! = Value.int .i64 0 := by
  have : j % 4 < 4 := Nat.mod_lt _ (by decide)
  show (#[Value.int .i64 0, .int .i64 0, .int .i64 0, .int .i64 0] : Array Value)[j % 4]! = _
  match j % 4, this with
  | 0, _ => rfl
  | 1, _ => rfl
  | 2, _ => rfl
  | 3, _ => rfl
def badSize (n : Nat) : Prop := n = 0 ∨ n % 8 ≠ 0 ∨ 2048 < n
set_option maxRecDepth 100000 in
set_option maxHeartbeats 400000 in
theorem decode_bad (ao : Option Addr) (n c : Nat) (w : World) (hm : n ≤ maxLen) (hn : badSize n) :
    Calls Tryz.prog 63 #[.slice ao n c] w fun e w' => e = .returned (.tuple #[.slice none 0 0, .int .i64 1]) ∧ w' = w := by
  unfold maxLen at hm
  by_cases h0 : n = 0
  · subst h0
    go_enter Tryz.func63, Tryz.ntmps63
    go_wp2
    go_ret2
    exact ⟨rfl, rfl⟩
  · have h0' : ((n : Int) == 0) = false := by simp; omega
    by_cases h8 : n % 8 = 0
    · have h8' : (((n : Int) % 8) != 0) = false := by simp; omega
      have h2 : (2048 : Int) < (n : Int) := by rcases hn with h | h | h <;> omega
      go_enter Tryz.func63, Tryz.ntmps63
      go_wp2
      go_ret2
      exact ⟨rfl, rfl⟩
    · have h8' : (((n : Int) % 8) != 0) = true := by simp; omega
      go_enter Tryz.func63, Tryz.ntmps63
      go_wp2
      go_ret2
      exact ⟨rfl, rfl⟩
def decs (g : Nat → Int) (j : Nat) : Int :=
  if j % 4 = 0 then num2 g (8 * (j / 4)) else if j % 4 = 1 then g (8 * (j / 4) + 2) else if j % 4 = 2 then g (8 * (j / 4) + 3) else num4 g (8 * (j / 4) + 4)
theorem decs_at (g : Nat → Int) (k : Nat) : decs g (4 * k) = num2 g (8 * k) ∧ decs g (4 * k + 1) = g (8 * k + 2) ∧ decs g (4 * k + 2) = g (8 * k + 3) ∧ decs g (4 * k + 3) = num4 g (8 * k + 4) := by
  unfold decs
  refine ⟨?_, ?_, ?_, ?_⟩
  · rw [if_pos (by omega), show 4 * k / 4 = k by omega]
  · rw [if_neg (by omega), if_pos (by omega), show (4 * k + 1) / 4 = k by omega]
  · rw [if_neg (by omega), if_neg (by omega), if_pos (by omega), show (4 * k + 2) / 4 = k by omega]
  · rw [if_neg (by omega), if_neg (by omega), if_neg (by omega), show (4 * k + 3) / 4 = k by omega]
def decTo (g : Nat → Int) (k : Nat) (j : Nat) : Value := if j < 4 * k then .int .i64 (decs g j) else .int .i64 0
theorem num2_shift (g : Nat → Int) (o p : Nat) : num2 (fun j => g (o + j)) p = num2 g (o + p) := by simp [num2, Nat.add_assoc]
theorem num4_shift (g : Nat → Int) (o p : Nat) : num4 (fun j => g (o + j)) p = num4 g (o + p) := by simp [num4, Nat.add_assoc]
theorem decTo_succ (g : Nat → Int) (k j : Nat) :
    quad (decTo g k) (k * 4) (.int .i64 (num2 (fun j => g (k * 8 + j)) 0)) (.int .i64 (g (k * 8 + 2))) (.int .i64 (g (k * 8 + 3))) (.int .i64 (num4 (fun j => g (k * 8 + j)) 4)) j = decTo g (k + 1) j := by
  rw [num2_shift, num4_shift, Nat.mul_comm k 4, Nat.mul_comm k 8]
  obtain ⟨d0, d1, d2, d3⟩ := decs_at g k
  dsimp only [quad, decTo]
  by_cases h3 : j = 4 * k + 3
  · subst h3; rw [if_pos rfl, if_pos (by omega), d3]
  · rw [if_neg h3]
    by_cases h2 : j = 4 * k + 2
    · subst h2; rw [if_pos rfl, if_pos (by omega), d2]
    · rw [if_neg h2]
      by_cases h1 : j = 4 * k + 1
      · subst h1; rw [if_pos rfl, if_pos (by omega), d1]
      · rw [if_neg h1]
        by_cases h0 : j = 4 * k
        · subst h0; rw [if_pos rfl, if_pos (by omega), d0]; rfl
        · rw [if_neg h0]
          by_cases hj : j < 4 * k
          · rw [if_pos hj, if_pos (by omega)]
          · rw [if_neg hj, if_neg (by omega)]
set_option maxRecDepth 100000 in
set_option maxHeartbeats 1000000 in
theorem decode_good (b off n c : Nat) (g : Nat → Int) (w : World) (hn : 1 ≤ n) (hn2 : n ≤ 256) (hc : 8 * n ≤ c) (hg : Oct g) (h : Row w .u8 b off (8 * n) g) :
    Calls Tryz.prog 63 #[.slice (some ⟨b, off, none⟩) (8 * n) c] w fun e w' => ∃ B, e = .returned (.tuple #[.slice (some ⟨B, 0, none⟩) n n, .int .i64 0]) ∧ w.heap.size ≤ B ∧ w.grownBy w' none ∧ Blk w' B 63 (4 * n) (4 * n) (ints .i64 (decs g)) := by
  obtain ⟨i0, hi, hz0, hz1, hz2⟩ := info_parts Tryz.infoInsn
  have h0' : ((8 * (n : Int)) == 0) = false := by simp; omega
  have h8' : (((8 * (n : Int)) % 8) != 0) = false := by simp
  have h2' : ¬ (2048 : Int) < 8 * (n : Int) := by omega
  go_enter Tryz.func63, Tryz.ntmps63
  go_wp2_with (refine wpList_make_blk _ rfl _ _ 22 rfl 63 i0 (.agg #[.int .i64 0, .int .i64 0, .int .i64 0, .int .i64 0]) 4 Tryz.underlying22 hi hz0 hz1 _ _ _ _ n rfl rfl (by omega) (by omega) (by rw [hz2]; omega) (by unfold maxLen; omega) (.int .i64 0) zero4 ?_; intro w1 hb1 hg1)
  go_loopw [26] (fun i wr => ∃ k : Nat, k ≤ n ∧ i = .int .i64 k ∧ w.grownBy wr none ∧ Blk wr w.heap.size 63 (4 * n) (4 * n) (decTo g k)) (fun i _ => n - (intOf i).toNat)
  case atStart => exact ⟨0, Nat.zero_le _, rfl, hg1, by rw [Nat.mul_comm 4 n]; exact hb1.congr fun j _ => by simp [decTo]⟩
  case round =>
    obtain ⟨k, hk, rfl, hgr, hbk⟩ := hrel
    by_cases hlt : k < n
    · have R : Row wr .u8 b (off + k * 8) 8 (fun j => g (k * 8 + j)) := Row.part (h.keep hgr (by simp)) (by omega)
      have q10 : ¬ c = 8 * k := by omega
      have q12 : ¬ c = k * 8 := by omega
      go_wp2_with (go_at_call 94; refine (read_at b _ _ _ (fun j => g (k * 8 + j)) _ ?_ ?_ (fun j => hg _) R).mono ?_; omega; omega; rintro e w2 ⟨rfl, hg2⟩; have hb2 := hbk.keep hg2 (by simp); have e0 := hb2.cell (j := k * 4) (by omega); have e1 := hb2.cell (j := k * 4 + 1) (by omega); have e2 := hb2.cell (j := k * 4 + 2) (by omega); have e3 := hb2.cell (j := k * 4 + 3) (by omega); have f0 := hb2.frozen (k * 4); have f1 := hb2.frozen (k * 4 + 1); have f2 := hb2.frozen (k * 4 + 2); have f3 := hb2.frozen (k * 4 + 3))
      obtain ⟨Q1, Q2⟩ := hb2.quad (j := k * 4) (by omega) (.int .i64 (num2 (fun j => g (k * 8 + j)) 0)) (.int .i64 (g (k * 8 + 2))) (.int .i64 (g (k * 8 + 3))) (.int .i64 (num4 (fun j => g (k * 8 + j)) 4))
      go_roundw
      case rel => exact ⟨k + 1, by omega, by go_num, grown_new none (grown_trans hgr hg2) Q2 (Nat.le_refl _), Q1.congr fun j _ => decTo_succ g k j⟩
      case measure => simp [intOf]; omega
    · have : k = n := by omega
      subst this
      go_wp2
      go_ret2
      exact ⟨_, rfl, Nat.le_refl _, hgr, hbk.congr fun j hj => by simp [decTo, ints, hj]⟩
end Go.Proofs.YthbcfepbkkbjiaaGreatDoor
namespace Go.Proofs.YthbcfepbkkbjiaaGreatDoor
open Go.RowKit
attribute [local go_sem ↓] Go.wp_at_zero Go.wp_at_succ
def Src (w : World) (k : IntKind) (ao : Option Addr) (n : Nat) (g : Nat → Int) : Prop := 0 < n → ∃ b off, ao = some ⟨b, off, none⟩ ∧ Row w k b off n g
theorem Src.keep {w w' : World} {k : IntKind} {ao : Option Addr} {n : Nat} {g : Nat → Int} (h : Src w k ao n g) (hg : w.grownBy w' none) : Src w' k ao n g := fun hn => by
  obtain ⟨b, off, h1, h2⟩ := h hn
  exact ⟨b, off, h1, h2.keep hg (by simp)⟩
theorem src_of_blk {w : World} {b : Nat} {e : TypeId} {N n : Nat} {k : IntKind} {g : Nat → Int} (h : Blk w b e N n (ints k g)) {m : Nat} (hm : m ≤ n) : Src w k (some ⟨b, 0, none⟩) m g :=
  fun _ => ⟨b, 0, rfl, fun j hj => by rw [Nat.zero_add]; exact h.cell (by omega)⟩
theorem Tryz.sizeByte : (Tryz.prog.info? 5).map (·.size) = some 1 := by kernel_rfl
end Go.Proofs.YthbcfepbkkbjiaaGreatDoor
namespace Go.Proofs.YthbcfepbkkbjiaaGreatDoor
open Go.RowKit
def Held (w : World) (e : TypeId) (size : Nat) (ao : Option Addr) (n cap : Nat) (f : Nat → Value) : Prop :=
  (ao = none ∧ n = 0 ∧ cap = 0) ∨ ∃ g, ao = some ⟨g, 0, none⟩ ∧ Blk w g e (cap * size) (n * size) f ∧ n ≤ cap ∧ cap ≤ maxLen
def own? : Option Addr → Option Nat | some a => some a.block | none => none
theorem Held.keep {w w' : World} {e : TypeId} {size : Nat} {ao : Option Addr} {n cap : Nat} {f : Nat → Value} {row : Option Nat} (h : Held w e size ao n cap f) (hg : w.grownBy w' row) (hr : row = none ∨ own? ao ≠ row) : Held w' e size ao n cap f := by
  rcases h with h | ⟨g, rfl, hb, r⟩
  · exact Or.inl h
  · refine Or.inr ⟨g, rfl, hb.keep hg (fun e => ?_), r⟩
    rcases hr with hr | hr
    · rw [hr] at e; cases e
    · exact hr e
theorem Held.alloc {w : World} {e : TypeId} {size : Nat} {ao : Option Addr} {n cap : Nat} {f : Nat → Value} (h : Held w e size ao n cap f) (o : Obj) : Held (w.alloc o) e size ao n cap f := h.keep (World.grownBy_alloc w o none) (Or.inl rfl)
theorem Held.lt {w : World} {e : TypeId} {size : Nat} {ao : Option Addr} {n cap : Nat} {f : Nat → Value} (h : Held w e size ao n cap f) : ∀ g, own? ao = some g → g < w.heap.size := by
  intro g hg
  rcases h with ⟨rfl, _⟩ | ⟨g', rfl, hb, _⟩
  · cases hg
  · cases hg; exact hb.lt
def Mkd (w : World) (b L : Nat) (f : Nat → Value) : Prop := ∃ e N, Blk w b e N L f
theorem Mkd.alloc {w : World} {b L : Nat} {f : Nat → Value} (h : Mkd w b L f) (o : Obj) : Mkd (w.alloc o) b L f := by
  obtain ⟨e, N, h⟩ := h
  exact ⟨e, N, h.alloc o⟩
theorem Mkd.lt {w : World} {b L : Nat} {f : Nat → Value} (h : Mkd w b L f) : b < w.heap.size := by
  obtain ⟨e, N, h⟩ := h
  exact h.lt
theorem Mkd.cell {w : World} {b L : Nat} {f : Nat → Value} (h : Mkd w b L f) {j : Nat} (hj : j < L) : w.cell? ⟨b, j, none⟩ = some (f j) := by
  obtain ⟨e, N, h⟩ := h
  exact h.cell hj
theorem Held.congr {w : World} {e : TypeId} {size : Nat} {ao : Option Addr} {n cap : Nat} {f f' : Nat → Value} (h : Held w e size ao n cap f) (hf : ∀ j, j < n * size → f j = f' j) : Held w e size ao n cap f' := by
  rcases h with h | ⟨g, h1, h2, h3⟩
  · exact Or.inl h
  · exact Or.inr ⟨g, h1, h2.congr hf, h3⟩
end Go.Proofs.YthbcfepbkkbjiaaGreatDoor
namespace Go.Proofs.YthbcfepbkkbjiaaGreatDoor
open Go.RowKit
attribute [local go_sem ↓] Go.wp_at_zero Go.wp_at_succ
theorem gdecode_bad (ao : Option Addr) (n c : Nat) (w : World) (hm : n ≤ maxLen) (hn : badSize n) :
    Calls Tryz.prog 27 #[.slice ao n c] w fun e w' => e = .returned (.tuple #[.slice none 0 0, .int .i64 1]) ∧ w' = w := by
  go_enter Tryz.func27, Tryz.ntmps27
  go_wp2_with (go_at_call 63; refine (decode_bad _ _ _ _ hm hn).mono ?_; rintro e w1 ⟨rfl, rfl⟩)
  go_ret2
  exact ⟨rfl, rfl⟩
theorem gdecode_good (b off n c : Nat) (g : Nat → Int) (w : World) (hn : 1 ≤ n) (hn2 : n ≤ 256) (hc : 8 * n ≤ c) (hg : Oct g) (h : Row w .u8 b off (8 * n) g) :
    Calls Tryz.prog 27 #[.slice (some ⟨b, off, none⟩) (8 * n) c] w fun e w' => ∃ B, e = .returned (.tuple #[.slice (some ⟨B, 0, none⟩) n n, .int .i64 0]) ∧ w.heap.size ≤ B ∧ w.grownBy w' none ∧ Blk w' B 63 (4 * n) (4 * n) (ints .i64 (decs g)) := by
  go_enter Tryz.func27, Tryz.ntmps27
  go_wp2_with (go_at_call 63; refine (decode_good _ _ n _ g _ hn hn2 hc hg h).mono ?_; rintro e w1 ⟨B, rfl, hB, hg1, hb1⟩)
  go_ret2
  exact ⟨B, rfl, hB, hg1, hb1⟩
theorem gencode_any (b off n c : Nat) (q : Nat → Int) (w : World) (hn : n ≤ 17592186044416) (h : Row w .i64 b off (4 * n) q) :
    Calls Tryz.prog 28 #[.slice (some ⟨b, off, none⟩) n c] w fun e w' => ∃ g, e = .returned (.slice (some ⟨g, 0, none⟩) (8 * n) (8 * n)) ∧ w.heap.size ≤ g ∧ w.grownBy w' none ∧ Blk w' g 5 (8 * n) (8 * n) (ints .u8 (encs q)) := by
  go_enter Tryz.func28, Tryz.ntmps28
  go_wp2_with (go_at_call 64; refine (encode_any _ _ _ _ q _ hn h).mono ?_; rintro e w1 ⟨B, rfl, hB, hg1, hb1⟩)
  go_ret
  exact ⟨B, rfl, hB, hg1, hb1⟩
def SrcI (w : World) (ao : Option Addr) (n : Nat) (q : Nat → Int) : Prop := 0 < n → ∃ b off, ao = some ⟨b, off, none⟩ ∧ Row w .i64 b off (4 * n) q
theorem SrcI.keep {w w' : World} {ao : Option Addr} {n : Nat} {q : Nat → Int} (h : SrcI w ao n q) (hg : w.grownBy w' none) : SrcI w' ao n q := fun hn => by
  obtain ⟨b, off, h1, h2⟩ := h hn
  exact ⟨b, off, h1, h2.keep hg (by simp)⟩
theorem grown_own {a b c : World} {row : Option Nat} (h : a.grownBy b none) (k : b.grownBy c row) (hr : ∀ g, row = some g → a.heap.size ≤ g) : a.grownBy c none := by
  cases row with
  | none => exact grown_trans h k
  | some g => exact grown_new none h k (hr g rfl)
end Go.Proofs.YthbcfepbkkbjiaaGreatDoor
