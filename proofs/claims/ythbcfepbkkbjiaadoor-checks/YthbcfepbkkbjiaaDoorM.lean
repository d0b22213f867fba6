/- Plain mathematics of bytes and instructions; and rows of integers in memory. -/
import Derived.WalkKit
import Derived.WalkSpells
import Derived.WalkLawsBesides
namespace Go.Proofs.YthbcfepbkkbjiaaDoor
open Go.RowKit

/-- A row of integers in memory: the numbers as a function of the place. -/
def Row (w : World) (k : IntKind) (b off n : Nat) (g : Nat → Int) : Prop := ∀ j, j < n → w.cell? ⟨b, off + j, none⟩ = some (.int k (g j))

/-- bytes -/
def Oct (g : Nat → Int) : Prop := ∀ j, 0 ≤ g j ∧ g j ≤ 255

/-- the lowest first -/
def le (g : Nat → Int) : Nat → Int
  | 0 => 0
  | n + 1 => le g n + g n * 2 ^ (8 * n)

theorem le_bd {g : Nat → Int} (hg : Oct g) : ∀ n, 0 ≤ le g n ∧ le g n < 2 ^ (8 * n)
  | 0 => by simp [le]
  | n + 1 => by
    have ih := le_bd hg n
    have h := hg n
    have e : (2 : Int) ^ (8 * (n + 1)) = 2 ^ (8 * n) * 256 := by rw [Nat.mul_add, Int.pow_add]; rfl
    have p : (0 : Int) < 2 ^ (8 * n) := Int.pow_pos (by decide)
    simp only [le]
    rw [e]
    have a1 : 0 ≤ g n * 2 ^ (8 * n) := Int.mul_nonneg h.1 (by omega)
    have a2 : g n * 2 ^ (8 * n) ≤ 255 * 2 ^ (8 * n) := Int.mul_le_mul_of_nonneg_right h.2 (by omega)
    omega

theorem wraps_i64 (n : Int) (h₀ : 0 ≤ n) (h₁ : n < 2 ^ 63) : IntKind.i64.wrap n = n := by rw [IntKind.wrap_i64]; omega

theorem or_comm (x y : Int) : bits .or .i64 x y = bits .or .i64 y x := by simp only [bits]; rw [BitVec.or_comm]

theorem or_step {g : Nat → Int} (hg : Oct g) (k : Nat) (hk : k < 4) : bits .or .i64 (le g k) (wrap64 (g k * 2 ^ (8 * k))) = le g (k + 1) := by
  have b := le_bd hg k
  have h := hg k
  have p : (0 : Int) < 2 ^ (8 * k) := Int.pow_pos (by decide)
  have q : (2 : Int) ^ (8 * k) ≤ 16777216 := by
    have e1 : (2 : Int) ^ (8 * k) = ((2 ^ (8 * k) : Nat) : Int) := by rw [Int.natCast_pow]; rfl
    have e2 := Nat.pow_le_pow_right (n := 2) (by decide) (show 8 * k ≤ 24 by omega)
    have e3 : (2 : Nat) ^ 24 = 16777216 := by decide
    rw [e1]; omega
  have a1 : 0 ≤ g k * 2 ^ (8 * k) := Int.mul_nonneg h.1 (by omega)
  have a2 : g k * 2 ^ (8 * k) ≤ 255 * 2 ^ (8 * k) := Int.mul_le_mul_of_nonneg_right h.2 (by omega)
  rw [IntWalk.wrap64_in _ ⟨by omega, by omega⟩, or_comm,
    bits_join .i64 63 (by decide) wraps_i64 (8 * k) _ _ a1 (Int.mul_emod_left _ _) (by omega) b.1 b.2 (by omega)]
  simp only [le]
  omega

/-- the number of two and of four bytes -/
def num2 (g : Nat → Int) (o : Nat) : Int := g o + g (o + 1) * 256
def num4 (g : Nat → Int) (o : Nat) : Int := g o + g (o + 1) * 256 + g (o + 2) * 65536 + g (o + 3) * 16777216

theorem le_two (g : Nat → Int) (o : Nat) : le (fun j => g (o + j)) 2 = num2 g o := by simp [le, num2]
theorem le_four (g : Nat → Int) (o : Nat) : le (fun j => g (o + j)) 4 = num4 g o := by simp [le, num4]

/-- Horner's way: m bytes from k on -/
def hr (g : Nat → Int) : Nat → Nat → Int
  | 0, _ => 0
  | m + 1, k => g k + 256 * hr g m (k + 1)

theorem hr_bd {g : Nat → Int} (hg : Oct g) : ∀ m k, m ≤ 4 → 0 ≤ hr g m k ∧ hr g m k < 256 ^ m
  | 0, _, _ => by simp [hr]
  | m + 1, k, hm => by
    have ih := hr_bd hg m (k + 1) (by omega)
    have h := hg k
    have e : (256 : Int) ^ (m + 1) = 256 ^ m * 256 := Int.pow_succ _ _
    simp only [hr]
    omega

theorem hr_bd4 {g : Nat → Int} (hg : Oct g) (m k : Nat) (hm : m ≤ 4) : 0 ≤ hr g m k ∧ hr g m k < 4294967296 := by
  have h := hr_bd hg m k hm
  have e1 : (256 : Int) ^ m = ((256 ^ m : Nat) : Int) := by rw [Int.natCast_pow]; rfl
  have e2 := Nat.pow_le_pow_right (n := 256) (by decide) hm
  have e3 : (256 : Nat) ^ 4 = 4294967296 := by decide
  omega

theorem hr_two (g : Nat → Int) (o : Nat) : hr g 2 o = num2 g o := by simp [hr, num2]; omega
theorem hr_four (g : Nat → Int) (o : Nat) : hr g 4 o = num4 g o := by
  simp only [hr, num4]
  show g o + 256 * (g (o + 1) + 256 * (g (o + 1 + 1) + 256 * (g (o + 1 + 1 + 1) + 256 * 0))) = g o + g (o + 1) * 256 + g (o + 1 + 1) * 65536 + g (o + 1 + 1 + 1) * 16777216
  omega

end Go.Proofs.YthbcfepbkkbjiaaDoor
