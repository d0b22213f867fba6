/- The walks of what writes: package insn's putNumber, write, Encode. -/
import Derived.Test.YthbcfepbkkbjiaaDoorW1
import Derived.Test.YthbcfepbkkbjiaaDoorH
import Derived.BigQuiet
import Derived.Deep.QuietTactic
import Derived.Deep.RegionHeld3
import Derived.Deep.DrawnRows
namespace Go.Proofs.YthbcfepbkkbjiaaDoor
open Go.RowKit

def byt (v : Int) (i : Nat) : Int := v / 2 ^ (8 * i) % 256

theorem byt_bd (v : Int) (i : Nat) : 0 ≤ byt v i ∧ byt v i ≤ 255 := by unfold byt; omega

/-- the eight bytes of an instruction -/
def enc8 (a b c d : Int) (j : Nat) : Int := if j < 2 then byt a j else if j = 2 then b % 256 else if j = 3 then c % 256 else byt d (j - 4)

theorem patch8 (f : Nat → Value) (off : Nat) (x y z u : Int) (j : Nat) :
    patch (fun i => if i = off + 3 then Value.int .u8 (z % 256) else if i = off + 2 then Value.int .u8 (y % 256) else patch f off 2 (fun i => .int .u8 (byt x i)) i) (off + 4) 4 (fun i => .int .u8 (byt u i)) j =
      patch f off 8 (fun i => .int .u8 (enc8 x y z u i)) j := by
  dsimp only [patch, enc8]
  by_cases h1 : off + 4 ≤ j ∧ j < off + 4 + 4
  · rw [if_pos h1, if_pos (by omega), if_neg (by omega), if_neg (by omega), if_neg (by omega), show j - (off + 4) = j - off - 4 by omega]
  · rw [if_neg h1]
    by_cases h3 : j = off + 3
    · subst h3; simp
    · rw [if_neg h3]
      by_cases h2 : j = off + 2
      · subst h2; simp
      · rw [if_neg h2]
        by_cases h0 : off ≤ j ∧ j < off + 2
        · rw [if_pos h0, if_pos (by omega), if_pos (by omega)]
        · rw [if_neg h0, if_neg (by omega)]

theorem box4 {w w1 : World} {a b c d : Value} {t : TypeId} {B : Nat} (hg : (w.alloc (.cells #[a, b, c, d] t)).drew.grownBy w1 (some B)) (hB : B < w.heap.size) :
    w1.cell? ⟨w.heap.size, 1, none⟩ = some b ∧ w1.cell? ⟨w.heap.size, 2, none⟩ = some c ∧ w1.cell? ⟨w.heap.size, 3, none⟩ = some d := by
  have h : ∀ j v, #[a, b, c, d][j]? = some v → w1.cell? ⟨w.heap.size, j, none⟩ = some v := fun j v hj =>
    hg.cell (by show (w.alloc _).cell? _ = _; rw [World.cell?_alloc_new]; exact hj) (by simp; omega)
  exact ⟨h 1 b rfl, h 2 c rfl, h 3 d rfl⟩

/-- an instruction's eight bytes, all the row -/
def encs (q : Nat → Int) (j : Nat) : Int := enc8 (q (4 * (j / 8))) (q (4 * (j / 8) + 1)) (q (4 * (j / 8) + 2)) (q (4 * (j / 8) + 3)) (j % 8)

theorem enc8_bd (a b c d : Int) (j : Nat) : 0 ≤ enc8 a b c d j ∧ enc8 a b c d j ≤ 255 := by
  unfold enc8
  have h1 := byt_bd a j
  have h2 := byt_bd d (j - 4)
  split <;> (try split) <;> (try split) <;> omega

theorem encs_oct (q : Nat → Int) : Oct (encs q) := fun _ => enc8_bd _ _ _ _ _

theorem encs_at (q : Nat → Int) (k i : Nat) (hi : i < 8) : encs q (8 * k + i) = enc8 (q (4 * k)) (q (4 * k + 1)) (q (4 * k + 2)) (q (4 * k + 3)) i := by
  unfold encs
  rw [show (8 * k + i) / 8 = k by omega, show (8 * k + i) % 8 = i by omega]

/-- of the first k instructions -/
def encTo (q : Nat → Int) (k : Nat) (j : Nat) : Value := if j < 8 * k then .int .u8 (encs q j) else .int .u8 0

theorem encTo_succ (q : Nat → Int) (k j : Nat) : patch (encTo q k) (8 * k) 8 (fun i => .int .u8 (enc8 (q (4 * k)) (q (4 * k + 1)) (q (4 * k + 2)) (q (4 * k + 3)) i)) j = encTo q (k + 1) j := by
  dsimp only [patch, encTo]
  by_cases h : 8 * k ≤ j ∧ j < 8 * k + 8
  · rw [if_pos h, if_pos (by omega)]
    have := encs_at q k (j - 8 * k) (by omega)
    rw [show 8 * k + (j - 8 * k) = j by omega] at this
    rw [this]
  · rw [if_neg h]
    by_cases h2 : j < 8 * k
    · rw [if_pos h2, if_pos (by omega)]
    · rw [if_neg h2, if_neg (by omega)]

theorem Tryd.infoByte : (Tryd.prog.info? 5).map (fun i => (i.zero, i.size, i.bytes)) = some (some (.int .u8 0), 1, 1) := by kernel_rfl
theorem Tryd.infoInsn : (Tryd.prog.info? 44).map (fun i => (i.zero, i.size, i.bytes)) = some (some (.agg #[.int .i64 0, .int .i64 0, .int .i64 0, .int .i64 0]), 4, 32) := by kernel_rfl

end Go.Proofs.YthbcfepbkkbjiaaDoor
