/- Words: what is reckoned with two of them, asked of them, read from bytes; the reference's way and the program's come to the same. -/
import Derived.Test.YthbcfepbkkbjiaaM
namespace Go.Proofs.Ythbcfepbkkbjiaa
open Go.RowKit

/-- a word -/
def U32 (x : Int) : Prop := 0 ≤ x ∧ x < 4294967296

theorem wrap_u32 (n : Int) : IntKind.u32.wrap n = n % 4294967296 := by simp [IntKind.wrap, IntKind.bits, IntKind.signed]

/-- an operation of two words -/
def opv (o x y : Int) : Int :=
  if o = 0 then (x + y) % 4294967296 else if o = 1 then (x - y) % 4294967296 else if o = 2 then x * y % 4294967296 else if o = 3 then x / y else if o = 4 then x % y
  else if o = 5 then bits .or .u32 x y else if o = 6 then bits .and .u32 x y else if o = 7 then bits .xor .u32 x y else if o = 8 then x * 2 ^ min y.toNat 32 % 4294967296 else x / 2 ^ min y.toNat 32

/-- it divides by 0 -/
def div0 (o y : Int) : Bool := (o == 3 || o == 4) && y == 0

theorem div0_iff (o y : Int) : div0 o y = true ↔ (o = 3 ∨ o = 4) ∧ y = 0 := by simp [div0]

def opr (o x y : Int) : Int := if div0 o y = true then 0 else opv o x y

/-- a question of two words -/
def askv (o x y : Int) : Bool := if o = 0 then decide (x = y) else if o = 1 then decide (y < x) else if o = 2 then decide (y ≤ x) else bits .and .u32 x y != 0

theorem bits_u32 (op : BinOp) (x y : Int) : U32 (bits op .u32 x y) := by
  show U32 (IntKind.u32.wrap _)
  rw [wrap_u32]
  unfold U32; omega

theorem nat_of {x : Int} (h : U32 x) : ∃ n : Nat, x = n ∧ n < 4294967296 := ⟨x.toNat, by have := h.1; omega, by have := h.2; omega⟩

theorem ofInt_toNat (k n : Nat) (h : n < 2 ^ k) : (BitVec.ofInt k (n : Int)).toNat = n := by
  rw [BitVec.ofInt_natCast, BitVec.toNat_ofNat]; exact Nat.mod_eq_of_lt h

theorem or_nat (a b : Nat) (ha : a < 4294967296) (hb : b < 4294967296) : bits .or .u32 (a : Int) b = ((a ||| b : Nat) : Int) ∧ bits .or .i64 (a : Int) b = ((a ||| b : Nat) : Int) := by
  have hx : a ||| b < 2 ^ 32 := Nat.or_lt_two_pow (by omega) (by omega)
  constructor
  · show IntKind.u32.wrap ((BitVec.ofInt 32 (a : Int) ||| BitVec.ofInt 32 (b : Int)).toNat : Int) = _
    rw [BitVec.toNat_or, ofInt_toNat 32 a (by omega), ofInt_toNat 32 b (by omega), wrap_u32]; omega
  · show IntKind.i64.wrap ((BitVec.ofInt 64 (a : Int) ||| BitVec.ofInt 64 (b : Int)).toNat : Int) = _
    rw [BitVec.toNat_or, ofInt_toNat 64 a (by omega), ofInt_toNat 64 b (by omega), IntKind.wrap_i64]; omega

theorem and_nat (a b : Nat) (ha : a < 4294967296) (hb : b < 4294967296) : bits .and .u32 (a : Int) b = ((a &&& b : Nat) : Int) ∧ bits .and .i64 (a : Int) b = ((a &&& b : Nat) : Int) := by
  have hx : a &&& b < 2 ^ 32 := Nat.and_lt_two_pow _ (by omega)
  constructor
  · show IntKind.u32.wrap ((BitVec.ofInt 32 (a : Int) &&& BitVec.ofInt 32 (b : Int)).toNat : Int) = _
    rw [BitVec.toNat_and, ofInt_toNat 32 a (by omega), ofInt_toNat 32 b (by omega), wrap_u32]; omega
  · show IntKind.i64.wrap ((BitVec.ofInt 64 (a : Int) &&& BitVec.ofInt 64 (b : Int)).toNat : Int) = _
    rw [BitVec.toNat_and, ofInt_toNat 64 a (by omega), ofInt_toNat 64 b (by omega), IntKind.wrap_i64]; omega

theorem xor_nat (a b : Nat) (ha : a < 4294967296) (hb : b < 4294967296) : bits .xor .u32 (a : Int) b = ((a ^^^ b : Nat) : Int) ∧ bits .xor .i64 (a : Int) b = ((a ^^^ b : Nat) : Int) := by
  have hx : a ^^^ b < 2 ^ 32 := Nat.xor_lt_two_pow (by omega) (by omega)
  constructor
  · show IntKind.u32.wrap ((BitVec.ofInt 32 (a : Int) ^^^ BitVec.ofInt 32 (b : Int)).toNat : Int) = _
    rw [BitVec.toNat_xor, ofInt_toNat 32 a (by omega), ofInt_toNat 32 b (by omega), wrap_u32]; omega
  · show IntKind.i64.wrap ((BitVec.ofInt 64 (a : Int) ^^^ BitVec.ofInt 64 (b : Int)).toNat : Int) = _
    rw [BitVec.toNat_xor, ofInt_toNat 64 a (by omega), ofInt_toNat 64 b (by omega), IntKind.wrap_i64]; omega

theorem or_same {x y : Int} (hx : U32 x) (hy : U32 y) : bits .or .i64 x y = bits .or .u32 x y := by
  obtain ⟨a, rfl, ha⟩ := nat_of hx
  obtain ⟨b, rfl, hb⟩ := nat_of hy
  rw [(or_nat a b ha hb).1, (or_nat a b ha hb).2]
theorem and_same {x y : Int} (hx : U32 x) (hy : U32 y) : bits .and .i64 x y = bits .and .u32 x y := by
  obtain ⟨a, rfl, ha⟩ := nat_of hx
  obtain ⟨b, rfl, hb⟩ := nat_of hy
  rw [(and_nat a b ha hb).1, (and_nat a b ha hb).2]
theorem xor_same {x y : Int} (hx : U32 x) (hy : U32 y) : bits .xor .i64 x y = bits .xor .u32 x y := by
  obtain ⟨a, rfl, ha⟩ := nat_of hx
  obtain ⟨b, rfl, hb⟩ := nat_of hy
  rw [(xor_nat a b ha hb).1, (xor_nat a b ha hb).2]

theorem and15 {x : Int} (hx : U32 x) : bits .and .u32 x 15 = x % 16 := by
  obtain ⟨a, rfl, ha⟩ := nat_of hx
  have := (and_nat a 15 ha (by omega)).1
  rw [show ((15 : Nat) : Int) = 15 by rfl] at this
  rw [this, Nat.and_two_pow_sub_one_eq_mod a 4]
  omega

/-- w<<8 | b -/
theorem shl8_or {x b : Int} (hx : 0 ≤ x) (hx2 : x < 16777216) (hb : 0 ≤ b) (hb2 : b < 256) : bits .or .u32 (x * 256) b = x * 256 + b := by
  obtain ⟨a, rfl⟩ : ∃ n : Nat, x = n := ⟨x.toNat, by omega⟩
  obtain ⟨c, rfl⟩ : ∃ n : Nat, b = n := ⟨b.toNat, by omega⟩
  have h := (or_nat (a * 256) c (by omega) (by omega)).1
  have e : ((a * 256 : Nat) : Int) = (a : Int) * 256 := by omega
  rw [e] at h
  rw [h]
  have e2 : a * 256 ||| c = a * 256 + c := by
    have := Nat.shiftLeft_add_eq_or_of_lt (show c < 2 ^ 8 by omega) a
    rw [Nat.shiftLeft_eq] at this
    exact this.symm
  rw [e2, Int.natCast_add, Int.natCast_mul]; rfl

theorem pow_pos2 (n : Nat) : (0 : Int) < 2 ^ n := Int.pow_pos (by decide)

theorem opv_u32 {o x y : Int} (hx : U32 x) (hy : U32 y) (h0 : ¬ div0 o y = true) : U32 (opv o x y) := by
  have q := pow_pos2 (min y.toNat 32)
  have hx' := hx
  unfold U32 at hx' hy
  unfold opv
  split
  · unfold U32; omega
  split
  · unfold U32; omega
  split
  · exact ⟨Int.emod_nonneg _ (by decide), Int.emod_lt_of_pos _ (by decide)⟩
  split
  · have : y ≠ 0 := fun e => h0 ((div0_iff _ _).2 ⟨Or.inl ‹_›, e⟩)
    exact ⟨Int.ediv_nonneg hx'.1 hy.1, Int.lt_of_le_of_lt (Int.ediv_le_self _ hx'.1) hx'.2⟩
  split
  · have : y ≠ 0 := fun e => h0 ((div0_iff _ _).2 ⟨Or.inr ‹_›, e⟩)
    have h1 := Int.emod_nonneg x this
    have h2 := Int.emod_lt_of_pos x (show 0 < y by omega)
    exact ⟨h1, by omega⟩
  split
  · exact bits_u32 _ _ _
  split
  · exact bits_u32 _ _ _
  split
  · exact bits_u32 _ _ _
  split
  · exact ⟨Int.emod_nonneg _ (by decide), Int.emod_lt_of_pos _ (by decide)⟩
  · exact ⟨Int.ediv_nonneg hx'.1 (by omega), Int.lt_of_le_of_lt (Int.ediv_le_self _ hx'.1) hx'.2⟩

theorem opr_u32 {o x y : Int} (hx : U32 x) (hy : U32 y) : U32 (opr o x y) := by
  unfold opr
  split
  · exact ⟨by decide, by decide⟩
  · exact opv_u32 hx hy ‹_›

/-- a product by halves -/
theorem mul_halves (x y : Int) : (x % 65536 * y + x / 65536 * (y % 65536) % 65536 * 65536) % 4294967296 = x * y % 4294967296 := by
  have h1 : x / 65536 * (y % 65536) % 65536 = x / 65536 * y % 65536 := by rw [Int.mul_emod, Int.emod_emod_of_dvd _ (Int.dvd_refl _), ← Int.mul_emod]
  have h2 : x * y = x % 65536 * y + x / 65536 * y * 65536 := by
    have e : x = x % 65536 + x / 65536 * 65536 := by omega
    have f : (x % 65536 + x / 65536 * 65536) * y = x % 65536 * y + x / 65536 * y * 65536 := by rw [Int.add_mul, Int.mul_assoc, Int.mul_comm 65536 y, ← Int.mul_assoc]
    rw [← e] at f
    exact f
  rw [h1, h2]
  generalize x % 65536 * y = a
  generalize x / 65536 * y = b
  omega

/-- a shift past all bits -/
theorem shl_far {x y : Int} (h : 31 < y) : x * 2 ^ min y.toNat 32 % 4294967296 = 0 := by
  rw [show min y.toNat 32 = 32 by omega, show (2 : Int) ^ 32 = 4294967296 by rfl]
  exact Int.mul_emod_left _ _

theorem shr_far {x y : Int} (hx : U32 x) (h : 31 < y) : x / 2 ^ min y.toNat 32 = 0 := by
  rw [show min y.toNat 32 = 32 by omega, show (2 : Int) ^ 32 = 4294967296 by rfl]
  exact Int.ediv_eq_zero_of_lt hx.1 hx.2

theorem shl_step (x : Int) (k : Nat) : x * 2 ^ k % 4294967296 * 2 % 4294967296 = x * 2 ^ (k + 1) % 4294967296 := by
  rw [Int.pow_succ, ← Int.mul_assoc]
  generalize x * 2 ^ k = a
  omega

theorem shr_step (x : Int) (k : Nat) : x / 2 ^ k / 2 = x / 2 ^ (k + 1) := by
  rw [Int.pow_succ, Int.ediv_ediv_of_nonneg (Int.le_of_lt (pow_pos2 k))]

/-- so many bytes from a place on, the highest first -/
def be (g : Nat → Int) (o : Nat) : Nat → Int
  | 0 => 0
  | n + 1 => 256 * be g o n + g (o + n)

theorem be_bd {g : Nat → Int} (hg : Oct g) (o : Nat) : ∀ n, n ≤ 4 → 0 ≤ be g o n ∧ be g o n < 256 ^ n
  | 0, _ => by simp [be]
  | n + 1, hn => by
    have ih := be_bd hg o n (by omega)
    have h := hg (o + n)
    have e : (256 : Int) ^ (n + 1) = 256 ^ n * 256 := Int.pow_succ _ _
    simp only [be]
    omega

theorem be_u32 {g : Nat → Int} (hg : Oct g) (o n : Nat) (hn : n ≤ 4) : U32 (be g o n) := by
  have h := be_bd hg o n hn
  have e1 : (256 : Int) ^ n = ((256 ^ n : Nat) : Int) := by rw [Int.natCast_pow]; rfl
  have e2 := Nat.pow_le_pow_right (n := 256) (by decide) hn
  have e3 : (256 : Nat) ^ 4 = 4294967296 := by decide
  exact ⟨h.1, by omega⟩

theorem be_shift (g : Nat → Int) (o d : Nat) : ∀ n, be (fun j => g (d + j)) o n = be g (d + o) n
  | 0 => rfl
  | n + 1 => by simp only [be]; rw [be_shift g o d n, Nat.add_assoc]

end Go.Proofs.Ythbcfepbkkbjiaa
