/- The walks of what writes: package insn's putNumber, write, Encode. -/
import Derived.Test.YthbcfepbkkbjiaaW1
import Derived.Test.YthbcfepbkkbjiaaH
import Derived.BigQuiet
import Derived.Deep.QuietTactic
import Derived.Deep.RegionHeld3
import Derived.Deep.DrawnRows
namespace Go.Proofs.Ythbcfepbkkbjiaa
open Go.RowKit

def byt (v : Int) (i : Nat) : Int := v / 2 ^ (8 * i) % 256

theorem byt_bd (v : Int) (i : Nat) : 0 ≤ byt v i ∧ byt v i ≤ 255 := by unfold byt; omega

set_option maxRecDepth 100000 in
set_option maxHeartbeats 400000 in
theorem put_any (B off m c : Nat) (v : Int) (e0 : TypeId) (N n : Nat) (f : Nat → Value) (w : World) (hm : m ≤ 4) (hb : Blk w B e0 N n f) (hn : off + m ≤ n) :
    Calls Try.prog 36 #[.slice (some ⟨B, off, none⟩) m c, .int .i64 v] w fun e w' => e = .returned (.tuple #[]) ∧ w.grownBy w' (some B) ∧ Blk w' B e0 N n (patch f off m (fun i => .int .u8 (byt v i))) := by
  go_enter Try.func36, Try.ntmps36
  go_wp2
  go_loopw [4, 7] (fun _ i wr => ∃ k : Nat, k ≤ m ∧ i = .int .i64 k ∧ w.grownBy wr (some B) ∧ Blk wr B e0 N n (patch f off k (fun i => .int .u8 (byt v i)))) (fun _ i _ => m - (intOf i).toNat)
  case atStart => exact ⟨0, Nat.zero_le _, rfl, grown_refl _ _, hb.congr fun j _ => (patch_zero _ _ _ _).symm⟩
  case round =>
    obtain ⟨k, hk, rfl, hgr, hbk⟩ := hrel
    by_cases hlt : k < m
    · have hc := hbk.cell (j := off + k) (by omega)
      have hfz := hbk.frozen (off + k)
      have R := hbk.set' (j := off + k) (by omega) (.int .u8 (byt v k))
      clear hb
      go_wp2
      go_roundw
      case rel => exact ⟨k + 1, by omega, by go_num, grown_trans hgr (grown_setCell _ _ _), R.congr fun j _ => patch_succ _ _ _ (fun i => .int .u8 (byt v i)) j⟩
      case measure => simp [intOf]; omega
    · have : k = m := by omega
      subst this
      go_wp2
      go_end0
      exact ⟨rfl, hgr, hbk⟩

/-- the eight bytes of an instruction -/
def enc8 (a b c d : Int) (j : Nat) : Int := if j < 2 then byt a j else if j = 2 then b % 256 else if j = 3 then c % 256 else byt d (j - 4)

theorem patch8 (f : Nat → Value) (off : Nat) (x y z u : Int) (j : Nat) :
    patch (fun i => if i = off + 3 then Value.int .u8 (z % 256) else if i = off + 2 then Value.int .u8 (y % 256) else patch f off 2 (fun i => .int .u8 (byt x i)) i) (off + 4) 4 (fun i => .int .u8 (byt u i)) j =
      patch f off 8 (fun i => .int .u8 (enc8 x y z u i)) j := by
  dsimp only [patch, enc8]
  by_cases h1 : off + 4 ≤ j ∧ j < off + 4 + 4
  · rw [if_pos h1, if_pos (by omega), if_neg (by omega), if_neg (by omega), if_neg (by omega), show j - (off + 4) = j - off - 4 by omega]
  · rw [if_neg h1]
    by_cases h3 : j = off + 3
    · subst h3; simp
    · rw [if_neg h3]
      by_cases h2 : j = off + 2
      · subst h2; simp
      · rw [if_neg h2]
        by_cases h0 : off ≤ j ∧ j < off + 2
        · rw [if_pos h0, if_pos (by omega), if_pos (by omega)]
        · rw [if_neg h0, if_neg (by omega)]

theorem box4 {w w1 : World} {a b c d : Value} {t : TypeId} {B : Nat} (hg : (w.alloc (.cells #[a, b, c, d] t)).drew.grownBy w1 (some B)) (hB : B < w.heap.size) :
    w1.cell? ⟨w.heap.size, 1, none⟩ = some b ∧ w1.cell? ⟨w.heap.size, 2, none⟩ = some c ∧ w1.cell? ⟨w.heap.size, 3, none⟩ = some d := by
  have h : ∀ j v, #[a, b, c, d][j]? = some v → w1.cell? ⟨w.heap.size, j, none⟩ = some v := fun j v hj =>
    hg.cell (by show (w.alloc _).cell? _ = _; rw [World.cell?_alloc_new]; exact hj) (by simp; omega)
  exact ⟨h 1 b rfl, h 2 c rfl, h 3 d rfl⟩

set_option maxRecDepth 100000 in
set_option maxHeartbeats 1000000 in
theorem write_any (B off c : Nat) (x y z u : Int) (e0 : TypeId) (N n : Nat) (f : Nat → Value) (w : World) (hc8 : 8 ≤ c) (hb : Blk w B e0 N n f) (hn : off + 8 ≤ n) :
    Calls Try.prog 25 #[.slice (some ⟨B, off, none⟩) 8 c, .agg #[.int .i64 x, .int .i64 y, .int .i64 z, .int .i64 u]] w
      fun e w' => e = .returned (.tuple #[]) ∧ w.grownBy w' (some B) ∧ Blk w' B e0 N n (patch f off 8 (fun i => .int .u8 (enc8 x y z u i))) := by
  have hlt := hb.lt
  have hc2 : (2 : Int) ≤ (c : Int) := by omega
  have hc4 : (4 : Int) ≤ (c : Int) := by omega
  have hc4n : ¬ c = 4 := by omega
  go_enter Try.func25, Try.ntmps25
  go_wp2
  go_region_with (go_at_call 36; refine (put_any B _ _ _ _ e0 N n f _ (by omega) (hb.alloc _).drew (by omega)).mono ?_; rintro e w1 ⟨rfl, hg1, hb1⟩)
  have k0 := box4 hg1 hlt
  obtain ⟨k1, k2, k3⟩ := k0
  obtain ⟨d2, e2⟩ : ∃ v, w1.cell? ⟨B, off + 2, none⟩ = some v := ⟨_, hb1.cell (by omega)⟩
  obtain ⟨d3, e3⟩ : ∃ v, w1.cell? ⟨B, off + 3, none⟩ = some v := ⟨_, hb1.cell (by omega)⟩
  have f2 := hb1.frozen (off + 2)
  have f3 := hb1.frozen (off + 3)
  go_wp2
  go_region
  all_goals go_wp2
  have hb2 := (hb1.set' (j := off + 2) (by omega) (.int .u8 (y % 256))).set' (j := off + 3) (by omega) (.int .u8 (z % 256))
  have hg2 := grown_trans (grown_setCell w1 ⟨B, off + 2, none⟩ (.int .u8 (y % 256))) (grown_setCell _ ⟨B, off + 3, none⟩ (.int .u8 (z % 256)))
  have hoth : (⟨B, off + 3, none⟩ : Addr) ≠ ⟨w.heap.size, 3, none⟩ := by intro h; cases h; omega
  have hoth2 : (⟨B, off + 2, none⟩ : Addr) ≠ ⟨w.heap.size, 3, none⟩ := by intro h; cases h; omega
  go_region_with (go_at_call 36; refine (put_any B (off + 4) 4 _ _ e0 N n _ _ (by omega) hb2.drew.drew (by omega)).mono ?_; rintro e w3 ⟨rfl, hg3, hb3⟩)
  go_wp2
  go_end0
  refine ⟨rfl, ?_, hb3.congr fun j _ => ?_⟩
  · exact grown_trans (grown_none (grown_refl _ _) (World.grownBy_alloc w _ none)) (grown_trans (grown_trans (grown_undrew hg1) hg2) (grown_undrew (grown_undrew hg3)))
  · exact patch8 f off x y z u j

/-- an instruction's eight bytes, all the row -/
def encs (q : Nat → Int) (j : Nat) : Int := enc8 (q (4 * (j / 8))) (q (4 * (j / 8) + 1)) (q (4 * (j / 8) + 2)) (q (4 * (j / 8) + 3)) (j % 8)

theorem enc8_bd (a b c d : Int) (j : Nat) : 0 ≤ enc8 a b c d j ∧ enc8 a b c d j ≤ 255 := by
  unfold enc8
  have h1 := byt_bd a j
  have h2 := byt_bd d (j - 4)
  split <;> (try split) <;> (try split) <;> omega

theorem encs_oct (q : Nat → Int) : Oct (encs q) := fun _ => enc8_bd _ _ _ _ _

theorem encs_at (q : Nat → Int) (k i : Nat) (hi : i < 8) : encs q (8 * k + i) = enc8 (q (4 * k)) (q (4 * k + 1)) (q (4 * k + 2)) (q (4 * k + 3)) i := by
  unfold encs
  rw [show (8 * k + i) / 8 = k by omega, show (8 * k + i) % 8 = i by omega]

/-- of the first k instructions -/
def encTo (q : Nat → Int) (k : Nat) (j : Nat) : Value := if j < 8 * k then .int .u8 (encs q j) else .int .u8 0

theorem encTo_succ (q : Nat → Int) (k j : Nat) : patch (encTo q k) (8 * k) 8 (fun i => .int .u8 (enc8 (q (4 * k)) (q (4 * k + 1)) (q (4 * k + 2)) (q (4 * k + 3)) i)) j = encTo q (k + 1) j := by
  dsimp only [patch, encTo]
  by_cases h : 8 * k ≤ j ∧ j < 8 * k + 8
  · rw [if_pos h, if_pos (by omega)]
    have := encs_at q k (j - 8 * k) (by omega)
    rw [show 8 * k + (j - 8 * k) = j by omega] at this
    rw [this]
  · rw [if_neg h]
    by_cases h2 : j < 8 * k
    · rw [if_pos h2, if_pos (by omega)]
    · rw [if_neg h2, if_neg (by omega)]

theorem Try.infoByte : (Try.prog.info? 5).map (fun i => (i.zero, i.size, i.bytes)) = some (some (.int .u8 0), 1, 1) := by kernel_rfl
theorem Try.infoInsn : (Try.prog.info? 34).map (fun i => (i.zero, i.size, i.bytes)) = some (some (.agg #[.int .i64 0, .int .i64 0, .int .i64 0, .int .i64 0]), 4, 32) := by kernel_rfl

set_option maxRecDepth 100000 in
set_option maxHeartbeats 1000000 in
theorem encode_any (b off n c : Nat) (q : Nat → Int) (w : World) (hn : n ≤ 17592186044416) (h : Row w .i64 b off (4 * n) q) :
    Calls Try.prog 20 #[.slice (some ⟨b, off, none⟩) n c] w fun e w' => ∃ g, e = .returned (.slice (some ⟨g, 0, none⟩) (8 * n) (8 * n)) ∧ w.heap.size ≤ g ∧ w.grownBy w' none ∧ Blk w' g 5 (8 * n) (8 * n) (ints .u8 (encs q)) := by
  obtain ⟨i0, hi, hz0, hz1, hz2⟩ := info_parts Try.infoByte
  go_enter Try.func20, Try.ntmps20
  go_wp2_with (refine wpList_make_blk _ rfl _ _ 22 rfl 5 i0 (.int .u8 0) 1 Try.underlying22 hi hz0 hz1 _ _ _ _ (8 * n) rfl rfl (by omega) (by omega) (by rw [hz2]; omega) (by unfold maxLen; omega) (.int .u8 0) (by intro j; simp [Value.cells, Nat.mod_one]) ?_; intro w1 hb1 hg1)
  go_loopw [12] (fun i wr => ∃ k : Nat, k ≤ n ∧ i = .int .i64 k ∧ w.grownBy wr none ∧ Blk wr w.heap.size 5 (8 * n) (8 * n) (encTo q k)) (fun i _ => n - (intOf i).toNat)
  case atStart => exact ⟨0, Nat.zero_le _, rfl, hg1, by simpa using hb1.congr fun j _ => by simp [encTo]⟩
  case round =>
    obtain ⟨k, hk, rfl, hgr, hbk⟩ := hrel
    by_cases hlt : k < n
    · obtain ⟨c0, c1, c2, c3⟩ := (h.keep hgr (by simp)).insn hlt
      clear h
      go_wp2
      have q1 : IntKind.i64.wrap ((k : Int) * 8) = 8 * (k : Int) := by rw [IntKind.wrap_i64]; omega
      have q2 : IntKind.i64.wrap ((k : Int) + 1) = (k : Int) + 1 := by rw [IntKind.wrap_i64]; omega
      have q3 : IntKind.i64.wrap (((k : Int) + 1) * 8) = 8 * (k : Int) + 8 := by rw [IntKind.wrap_i64]; omega
      have q4 : (0 : Int) ≤ 8 * (k : Int) := by omega
      have q5 : (0 : Int) ≤ 8 * (k : Int) + 8 := by omega
      have q6 : 8 * (k : Int) + 8 ≤ 8 * (n : Int) := by omega
      have q7 : max (8 * (k : Int) + 8) 0 = 8 * (k : Int) + 8 := by omega
      have q8 : (8 * (k : Int)).toNat = 8 * k := by omega
      have q9 : (8 * (k : Int) + 8).toNat = 8 * k + 8 := by omega
      have q10 : ¬ 8 * n = 8 * k := by omega
      have q11 : 8 * (k : Int) ≤ 8 * (k : Int) + 8 := by omega
      go_region_with (go_at_call 25; refine (write_any w.heap.size (8 * k) _ _ _ _ _ 5 (8 * n) (8 * n) _ _ ?_ (hbk.alloc _).drew ?_).mono ?_; omega; omega; rintro e w3 ⟨rfl, hg3, hb3⟩)
      all_goals go_wp2
      go_roundw
      case rel => exact ⟨k + 1, by omega, by go_num, grown_new none (grown_none hgr (World.grownBy_alloc wr _ none)) (grown_undrew hg3) (Nat.le_refl _), hb3.congr fun j _ => encTo_succ q k j⟩
      case measure => simp [intOf]; omega
    · have : k = n := by omega
      subst this
      go_wp2
      go_ret
      exact ⟨_, rfl, Nat.le_refl _, hgr, hbk.congr fun j hj => by simp [encTo, ints, hj]⟩

end Go.Proofs.Ythbcfepbkkbjiaa
