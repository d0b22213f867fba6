/- The calls Decode and Encode, of every size at once. -/
import Derived.Test.YthbcfepbkkbjiaaDoorW5
import Derived.Test.YthbcfepbkkbjiaaDoorG
namespace Go.Proofs.YthbcfepbkkbjiaaDoor
open Go.RowKit
attribute [local go_sem ↓] Go.wp_at_zero Go.wp_at_succ

/-- A slice of instructions that is read. -/
def SrcI (w : World) (ao : Option Addr) (n : Nat) (q : Nat → Int) : Prop := 0 < n → ∃ b off, ao = some ⟨b, off, none⟩ ∧ Row w .i64 b off (4 * n) q

theorem SrcI.keep {w w' : World} {ao : Option Addr} {n : Nat} {q : Nat → Int} (h : SrcI w ao n q) (hg : w.grownBy w' none) : SrcI w' ao n q := fun hn => by
  obtain ⟨b, off, h1, h2⟩ := h hn
  exact ⟨b, off, h1, h2.keep hg (by simp)⟩

theorem srcI_cells {w : World} {ao : Option Addr} {n : Nat} {q : Nat → Int} (h : SrcI w ao n q) : 0 < n → ∃ b off, ao = some ⟨b, off, none⟩ ∧ ∀ j, j < n * 4 → w.cell? ⟨b, off + j, none⟩ = some (ints .i64 q j) := fun hpos => by
  obtain ⟨b, off, h1, h2⟩ := h hpos
  exact ⟨b, off, h1, fun j hj => h2 j (by omega)⟩

/-- Writes to what is new since then are nobody's business. -/
theorem grown_own {a b c : World} {row : Option Nat} (h : a.grownBy b none) (k : b.grownBy c row) (hr : ∀ g, row = some g → a.heap.size ≤ g) : a.grownBy c none := by
  cases row with
  | none => exact grown_trans h k
  | some g => exact grown_new none h k (hr g rfl)

/-- the list that is handed in, with its spare room -/
def inq (q : Nat → Int) (n : Nat) : Nat → Int := fun j => if j < 4 * n then q j else 0

theorem inq_patch (q : Nat → Int) (n j : Nat) : patch (fun _ => Value.int .i64 0) 0 (n * 4) (ints .i64 q) j = ints .i64 (inq q n) j := by
  simp only [patch, ints, inq]
  by_cases h : j < 4 * n
  · rw [if_pos (by omega), if_pos h]; simp
  · rw [if_neg (by omega), if_neg h]

theorem encs_inq (q : Nat → Int) (n j : Nat) (hj : j < 8 * n) : encs (inq q n) j = encs q j := by
  have e : ∀ i, i < 4 * n → inq q n i = q i := fun i hi => if_pos hi
  unfold encs
  rw [e _ (by omega), e _ (by omega), e _ (by omega), e _ (by omega)]

/-- how many instructions come out; which error -/
def decN (n : Nat) : Nat := if n = 0 ∨ n % 8 ≠ 0 ∨ 2048 < n then 0 else n / 8
def decE (n : Nat) : Int := if n = 0 ∨ n % 8 ≠ 0 ∨ 2048 < n then 1 else 0

theorem decN_bad {n : Nat} (h : badSize n) : decN n = 0 := by unfold decN; exact if_pos h
theorem decE_bad {n : Nat} (h : badSize n) : decE n = 1 := by unfold decE; exact if_pos h
theorem decN_good {n : Nat} (h : ¬ badSize n) : decN n = n / 8 := by unfold decN; exact if_neg h
theorem decE_good {n : Nat} (h : ¬ badSize n) : decE n = 0 := by unfold decE; exact if_neg h

theorem decN_le (n : Nat) : decN n ≤ 256 := by
  by_cases h : badSize n
  · rw [decN_bad h]; omega
  · rw [decN_good h]; unfold badSize at h; omega

theorem Oct.pad {g : Nat → Int} (hg : Oct g) (n : Nat) : Oct (pad g n) := fun j => by
  unfold Proofs.YthbcfepbkkbjiaaDoor.pad
  split
  · exact hg j
  · omega

theorem decs_pad (g : Nat → Int) (n m j : Nat) (hn : 8 * m ≤ n) (hj : j < 4 * m) : decs (pad g n) j = decs g j := by
  have e : ∀ i, i < n → pad g n i = g i := fun i hi => if_pos hi
  unfold decs num2 num4
  rw [e _ (by omega), e _ (by omega), e _ (by omega), e _ (by omega), e _ (by omega), e _ (by omega), e _ (by omega), e _ (by omega)]

theorem rdecode_all (ao : Option Addr) (n c : Nat) (g : Nat → Int) (w : World) (hm : n ≤ maxLen) (hg : Oct g) (h : Src w .u8 ao n g) :
    Calls Tryd.prog 15 #[.slice ao n c] w fun e w' => ∃ yo yc, e = .returned (.tuple #[.slice yo (decN n) yc, .int .i64 (decE n)]) ∧ SrcI w' yo (decN n) (decs g) ∧ w.grownBy w' none := by
  by_cases hbad : badSize n
  · have e1 : decN n = 0 := decN_bad hbad
    have e2 : decE n = 1 := decE_bad hbad
    rw [e1, e2]
    refine (rdecode_bad _ _ _ _ hm hbad).mono ?_
    rintro e w' ⟨rfl, rfl⟩
    exact ⟨none, 0, rfl, fun h => by omega, grown_refl _ _⟩
  · have e1 : decN n = n / 8 := decN_good hbad
    have e2 : decE n = 0 := decE_good hbad
    rw [e1, e2]
    obtain ⟨m, hm8⟩ : ∃ m, n = 8 * m := ⟨n / 8, by unfold badSize at hbad; omega⟩
    subst hm8
    have hmm : 1 ≤ m ∧ m ≤ 256 := by unfold badSize at hbad; omega
    rw [show 8 * m / 8 = m by omega]
    obtain ⟨b, off, rfl, hR⟩ := h (by omega)
    refine (rdecode_good b off m c g w hmm.1 hmm.2 hg hR).mono ?_
    rintro e w' ⟨v, rfl, hg1, ho⟩
    obtain ⟨yo, yc, rfl, ho⟩ := ho
    refine ⟨yo, yc, rfl, fun hp => ?_, hg1⟩
    rcases ho with ⟨_, h0, _⟩ | ⟨B, rfl, _, hb, _⟩
    · omega
    · exact ⟨B, 0, rfl, fun j hj => by rw [Nat.zero_add]; exact hb.cell (by omega)⟩

theorem rencode_all (ao : Option Addr) (n c : Nat) (q : Nat → Int) (w : World) (hn : n ≤ 4398046511104) (h : SrcI w ao n q) :
    Calls Tryd.prog 13 #[.slice ao n c] w fun e w' => ∃ d dc, e = .returned (.slice d (8 * n) dc) ∧ Src w' .u8 d (8 * n) (encs q) ∧ w.grownBy w' none := by
  by_cases h0 : n = 0
  · subst h0
    refine (rencode_nil ao c w).mono ?_
    rintro e w' ⟨rfl, rfl⟩
    exact ⟨none, 0, rfl, fun h => by omega, grown_refl _ _⟩
  · obtain ⟨b, off, rfl, hR⟩ := h (by omega)
    refine (rencode_any b off n c q w hn hR).mono ?_
    rintro e w' ⟨v, rfl, hg1, ho⟩
    obtain ⟨yo, yc, rfl, ho⟩ := ho
    refine ⟨yo, yc, rfl, fun hp => ?_, hg1⟩
    rcases ho with ⟨_, h0, _⟩ | ⟨B, rfl, _, hb, _⟩
    · omega
    · exact ⟨B, 0, rfl, fun j hj => by rw [Nat.zero_add]; exact hb.cell (by omega)⟩

end Go.Proofs.YthbcfepbkkbjiaaDoor
