/- The kinds of instructions, as a table. -/
import Derived.Test.YthbcfepbkkbjiaaDoorH
namespace Go.Proofs.YthbcfepbkkbjiaaDoor
open Go.RowKit

/-- Of a code: its kind, how many bytes, X or not, the operation; the class by which it is checked (0: no instruction, 1 loads, 2 takes, 3 reads, 4 writes, 5 copies, 6 reckons, 7 divides, 8 shifts, 9 goes, 10 asks, 11 returns). -/
structure KR where
  code : Int
  kind : Int
  n : Int
  x : Bool
  o : Int
  cls : Nat

def tab : List KR := [
  ⟨32, 1, 4, false, 0, 1⟩,
  ⟨40, 1, 2, false, 0, 1⟩,
  ⟨48, 1, 1, false, 0, 1⟩,
  ⟨64, 1, 4, true, 0, 1⟩,
  ⟨72, 1, 2, true, 0, 1⟩,
  ⟨80, 1, 1, true, 0, 1⟩,
  ⟨0, 2, 0, false, 0, 2⟩,
  ⟨1, 2, 0, true, 0, 2⟩,
  ⟨96, 3, 0, false, 0, 3⟩,
  ⟨97, 3, 0, true, 0, 3⟩,
  ⟨128, 4, 0, false, 0, 2⟩,
  ⟨129, 4, 0, true, 0, 2⟩,
  ⟨177, 5, 0, false, 0, 1⟩,
  ⟨2, 6, 0, false, 0, 4⟩,
  ⟨3, 6, 0, true, 0, 4⟩,
  ⟨7, 7, 0, true, 0, 5⟩,
  ⟨135, 7, 0, false, 0, 5⟩,
  ⟨132, 9, 0, false, 0, 6⟩,
  ⟨5, 10, 0, false, 0, 9⟩,
  ⟨6, 12, 0, false, 0, 11⟩,
  ⟨22, 12, 0, true, 0, 11⟩,
  ⟨4, 8, 0, false, 0, 6⟩,
  ⟨20, 8, 0, false, 1, 6⟩,
  ⟨36, 8, 0, false, 2, 6⟩,
  ⟨52, 8, 0, false, 3, 7⟩,
  ⟨148, 8, 0, false, 4, 7⟩,
  ⟨68, 8, 0, false, 5, 6⟩,
  ⟨84, 8, 0, false, 6, 6⟩,
  ⟨164, 8, 0, false, 7, 6⟩,
  ⟨100, 8, 0, false, 8, 8⟩,
  ⟨116, 8, 0, false, 9, 8⟩,
  ⟨12, 8, 0, true, 0, 6⟩,
  ⟨28, 8, 0, true, 1, 6⟩,
  ⟨44, 8, 0, true, 2, 6⟩,
  ⟨60, 8, 0, true, 3, 6⟩,
  ⟨156, 8, 0, true, 4, 6⟩,
  ⟨76, 8, 0, true, 5, 6⟩,
  ⟨92, 8, 0, true, 6, 6⟩,
  ⟨172, 8, 0, true, 7, 6⟩,
  ⟨108, 8, 0, true, 8, 6⟩,
  ⟨124, 8, 0, true, 9, 6⟩,
  ⟨21, 11, 0, false, 0, 10⟩,
  ⟨37, 11, 0, false, 1, 10⟩,
  ⟨53, 11, 0, false, 2, 10⟩,
  ⟨69, 11, 0, false, 3, 10⟩,
  ⟨29, 11, 0, true, 0, 10⟩,
  ⟨45, 11, 0, true, 1, 10⟩,
  ⟨61, 11, 0, true, 2, 10⟩,
  ⟨77, 11, 0, true, 3, 10⟩]

def look (C : Int) : Option KR := tab.find? (fun r => r.code == C)

def kd (C : Int) : KR := (look C).getD ⟨C, 0, 0, false, 0, 0⟩

def kv (r : KR) : Value := .agg #[.int .i64 r.code, .int .i64 r.kind, .int .i64 r.n, .bool r.x, .int .i64 r.o]

/-- What holds of each row of the table, and of what is in none, holds of each code. -/
theorem kd_all (P : KR → Prop) (h : ∀ r ∈ tab, P r) (C : Int) (h0 : P ⟨C, 0, 0, false, 0, 0⟩) : P (kd C) := by
  unfold kd
  cases e : look C with
  | none => exact h0
  | some r => exact h r (List.mem_of_find?_eq_some e)

theorem kd_code (C : Int) : (kd C).code = C := by
  unfold kd
  cases e : look C with
  | none => rfl
  | some r =>
    have := List.find?_some e
    simpa using this

theorem kd_none (C : Int) (h : ∀ r ∈ tab, r.code ≠ C) : kd C = ⟨C, 0, 0, false, 0, 0⟩ := by
  unfold kd look
  rw [List.find?_eq_none.2 (fun r hr => by simpa using h r hr)]
  rfl

/-- the operations' codes, in their order -/
def sums (k : Nat) : Int := ([4, 20, 36, 52, 148, 68, 84, 164, 100, 116] : List Int).getD k 0

theorem kv_sum (k : Nat) (hk : k < 10) : kv (kd (sums k)) = .agg #[.int .i64 (sums k), .int .i64 8, .int .i64 0, .bool false, .int .i64 k] := by
  match k, hk with
  | 0, _ => rfl
  | 1, _ => rfl
  | 2, _ => rfl
  | 3, _ => rfl
  | 4, _ => rfl
  | 5, _ => rfl
  | 6, _ => rfl
  | 7, _ => rfl
  | 8, _ => rfl
  | 9, _ => rfl

theorem kv_sumx (k : Nat) (hk : k < 10) : kv (kd (sums k + 8)) = .agg #[.int .i64 (sums k + 8), .int .i64 8, .int .i64 0, .bool true, .int .i64 k] := by
  match k, hk with
  | 0, _ => rfl
  | 1, _ => rfl
  | 2, _ => rfl
  | 3, _ => rfl
  | 4, _ => rfl
  | 5, _ => rfl
  | 6, _ => rfl
  | 7, _ => rfl
  | 8, _ => rfl
  | 9, _ => rfl

theorem kv_ask (k : Nat) (hk : k < 4) : kv (kd (21 + 16 * (k : Int))) = .agg #[.int .i64 (21 + 16 * (k : Int)), .int .i64 11, .int .i64 0, .bool false, .int .i64 k] := by
  match k, hk with
  | 0, _ => rfl
  | 1, _ => rfl
  | 2, _ => rfl
  | 3, _ => rfl

theorem kv_askx (k : Nat) (hk : k < 4) : kv (kd (29 + 16 * (k : Int))) = .agg #[.int .i64 (29 + 16 * (k : Int)), .int .i64 11, .int .i64 0, .bool true, .int .i64 k] := by
  match k, hk with
  | 0, _ => rfl
  | 1, _ => rfl
  | 2, _ => rfl
  | 3, _ => rfl

/-- is it a code? -/
def okk (C : Int) : Bool := (kd C).cls != 0

theorem okk_sum (k : Nat) (hk : k < 10) : okk (sums k) = true := by
  match k, hk with
  | 0, _ => rfl
  | 1, _ => rfl
  | 2, _ => rfl
  | 3, _ => rfl
  | 4, _ => rfl
  | 5, _ => rfl
  | 6, _ => rfl
  | 7, _ => rfl
  | 8, _ => rfl
  | 9, _ => rfl

theorem okk_sumx (k : Nat) (hk : k < 10) : okk (sums k + 8) = true := by
  match k, hk with
  | 0, _ => rfl
  | 1, _ => rfl
  | 2, _ => rfl
  | 3, _ => rfl
  | 4, _ => rfl
  | 5, _ => rfl
  | 6, _ => rfl
  | 7, _ => rfl
  | 8, _ => rfl
  | 9, _ => rfl

theorem okk_ask (k : Nat) (hk : k < 4) : okk (21 + 16 * (k : Int)) = true := by
  match k, hk with
  | 0, _ => rfl
  | 1, _ => rfl
  | 2, _ => rfl
  | 3, _ => rfl

theorem okk_askx (k : Nat) (hk : k < 4) : okk (29 + 16 * (k : Int)) = true := by
  match k, hk with
  | 0, _ => rfl
  | 1, _ => rfl
  | 2, _ => rfl
  | 3, _ => rfl

/-- none of the codes that stand alone -/
def Other (C : Int) : Prop := ∀ r ∈ tab.take 21, r.code ≠ C

theorem kd_other (C : Int) (h : Other C) (h1 : ∀ j, j < 10 → C ≠ sums j ∧ C ≠ sums j + 8) (h2 : ∀ j : Nat, j < 4 → C ≠ 21 + 16 * (j : Int) ∧ C ≠ 29 + 16 * (j : Int)) : kd C = ⟨C, 0, 0, false, 0, 0⟩ := by
  refine kd_none C fun r hr => ?_
  rw [← List.take_append_drop 21 tab] at hr
  rcases List.mem_append.1 hr with hr | hr
  · exact h r hr
  · have s0 := h1 0 (by omega)
    have s1 := h1 1 (by omega)
    have s2 := h1 2 (by omega)
    have s3 := h1 3 (by omega)
    have s4 := h1 4 (by omega)
    have s5 := h1 5 (by omega)
    have s6 := h1 6 (by omega)
    have s7 := h1 7 (by omega)
    have s8 := h1 8 (by omega)
    have s9 := h1 9 (by omega)
    have a0 := h2 0 (by omega)
    have a1 := h2 1 (by omega)
    have a2 := h2 2 (by omega)
    have a3 := h2 3 (by omega)
    simp [sums] at s0 s1 s2 s3 s4 s5 s6 s7 s8 s9 a0 a1 a2 a3
    simp only [tab, List.drop, List.mem_cons, List.not_mem_nil, or_false] at hr
    rcases hr with rfl | rfl | rfl | rfl | rfl | rfl | rfl | rfl | rfl | rfl | rfl | rfl | rfl | rfl | rfl | rfl | rfl | rfl | rfl | rfl | rfl | rfl | rfl | rfl | rfl | rfl | rfl | rfl <;> (dsimp only; omega)

end Go.Proofs.YthbcfepbkkbjiaaDoor
