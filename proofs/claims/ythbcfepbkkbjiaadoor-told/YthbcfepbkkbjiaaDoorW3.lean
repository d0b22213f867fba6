/- The walks of package insn's read, Decode. -/
import Derived.Test.YthbcfepbkkbjiaaDoorW2
namespace Go.Proofs.YthbcfepbkkbjiaaDoor
open Go.RowKit
attribute [local go_sem ↓] Go.wp_at_zero Go.wp_at_succ

theorem number_part (b off p m c : Nat) (g : Nat → Int) (w : World) (hg : Oct g) (h1 : off ≤ p) (h2 : p - off + m ≤ 8) (h3 : m ≤ 4) (h : Row w .u8 b off 8 g) :
    Calls Tryd.prog 49 #[.slice (some ⟨b, p, none⟩) m c] w fun e w' => e = .returned (.int .i64 (le (fun j => g (p - off + j)) m)) ∧ w' = w :=
  number_any b p m c (fun j => g (p - off + j)) w h3 (fun _ => hg _) (fun j hj => by have := h (p - off + j) (by omega); rwa [show off + (p - off + j) = p + j by omega] at this)

set_option maxRecDepth 100000 in
set_option maxHeartbeats 200000 in
theorem read_any (b off c : Nat) (g : Nat → Int) (w : World) (hc8 : 8 ≤ c) (hg : Oct g) (h : Row w .u8 b off 8 g) :
    Calls Tryd.prog 39 #[.slice (some ⟨b, off, none⟩) 8 c] w
      fun e w' => e = .returned (.agg #[.int .i64 (num2 g 0), .int .i64 (g 2), .int .i64 (g 3), .int .i64 (num4 g 4)]) ∧ w.grownBy w' none := by
  have hc2 : (2 : Int) ≤ (c : Int) := by omega
  have hc4 : (4 : Int) ≤ (c : Int) := by omega
  have hc4n : ¬ c = 4 := by omega
  have h2 := h 2 (by omega)
  have h3 := h 3 (by omega)
  have hlt : b < w.heap.size := World.block_lt_of_cell? w ⟨b, off + 2, none⟩ h2
  have g2 : IntKind.i64.wrap (g 2) = g 2 := by have := hg 2; rw [IntKind.wrap_i64]; omega
  have g3 : IntKind.i64.wrap (g 3) = g 3 := by have := hg 3; rw [IntKind.wrap_i64]; omega
  have hS0 : ∀ o, Hid ((w.alloc o).drew.cell? ⟨b, off + 2, none⟩ = some (.int .u8 (g 2)) ∧ (w.alloc o).drew.cell? ⟨b, off + 3, none⟩ = some (.int .u8 (g 3)) ∧ Row (w.alloc o).drew .u8 b off 8 g) :=
    fun o => ⟨(h.alloc o) 2 (by omega), (h.alloc o) 3 (by omega), h.alloc o⟩
  go_enter Tryd.func39, Tryd.ntmps39
  go_wp2
  go_region_held3 (fun w' => w'.cell? ⟨b, off + 2, none⟩ = some (.int .u8 (g 2)) ∧ w'.cell? ⟨b, off + 3, none⟩ = some (.int .u8 (g 3)) ∧ Row w' .u8 b off 8 g) (first | exact (hS0 _).out | assumption | (go_split_ands; exact ⟨by assumption, by assumption, by assumption⟩))
    ((go_at_call 49; refine (number_part b off _ _ _ g _ hg ?_ ?_ ?_ ?_).mono ?_; omega; omega; omega; (go_split_ands; assumption); rintro e w1 ⟨rfl, rfl⟩))
  go_wp2
  refine bodyPost_ret (v := .agg #[.int .i64 (le (fun j => g j) 2), .int .i64 (g 2), .int .i64 (g 3), .int .i64 (le (fun j => g (4 + j)) 4)]) (by simp [results, Tryd.results39, go_sem]) rfl ⟨?_, ?_⟩
  · rw [le_four g 4, show le (fun j => g j) 2 = num2 g 0 by simp [le, num2]]
  · exact grown_trans (World.grownBy_alloc w _ none) (grown_drewN _ 1 none)

theorem read_at (b p m c : Nat) (g : Nat → Int) (w : World) (hm : m = 8) (hc8 : 8 ≤ c) (hg : Oct g) (h : Row w .u8 b p 8 g) :
    Calls Tryd.prog 39 #[.slice (some ⟨b, p, none⟩) m c] w
      fun e w' => e = .returned (.agg #[.int .i64 (num2 g 0), .int .i64 (g 2), .int .i64 (g 3), .int .i64 (num4 g 4)]) ∧ w.grownBy w' none := by
  subst hm
  exact read_any b p c g w hc8 hg h

theorem zero4 (j : Nat) : (Value.agg #[.int .i64 0, .int .i64 0, .int .i64 0, .int .i64 0]).cells[j % (Value.agg #[.int .i64 0, .int .i64 0, .int .i64 0, .int .i64 0]).cells.size]! = Value.int .i64 0 := by
  have : j % 4 < 4 := Nat.mod_lt _ (by decide)
  show (#[Value.int .i64 0, .int .i64 0, .int .i64 0, .int .i64 0] : Array Value)[j % 4]! = _
  match j % 4, this with
  | 0, _ => rfl
  | 1, _ => rfl
  | 2, _ => rfl
  | 3, _ => rfl

/-- the size is none of a filter's -/
def badSize (n : Nat) : Prop := n = 0 ∨ n % 8 ≠ 0 ∨ 2048 < n

set_option maxRecDepth 100000 in
set_option maxHeartbeats 400000 in
theorem decode_bad (ao : Option Addr) (n c : Nat) (w : World) (hm : n ≤ maxLen) (hn : badSize n) :
    Calls Tryd.prog 31 #[.slice ao n c] w fun e w' => e = .returned (.tuple #[.slice none 0 0, .int .i64 1]) ∧ w' = w := by
  unfold maxLen at hm
  by_cases h0 : n = 0
  · subst h0
    go_enter Tryd.func31, Tryd.ntmps31
    go_wp2
    go_ret2
    exact ⟨rfl, rfl⟩
  · have h0' : ((n : Int) == 0) = false := by simp; omega
    by_cases h8 : n % 8 = 0
    · have h8' : (((n : Int) % 8) != 0) = false := by simp; omega
      have h2 : (2048 : Int) < (n : Int) := by rcases hn with h | h | h <;> omega
      go_enter Tryd.func31, Tryd.ntmps31
      go_wp2
      go_ret2
      exact ⟨rfl, rfl⟩
    · have h8' : (((n : Int) % 8) != 0) = true := by simp; omega
      go_enter Tryd.func31, Tryd.ntmps31
      go_wp2
      go_ret2
      exact ⟨rfl, rfl⟩

/-- the four numbers of each instruction -/
def decs (g : Nat → Int) (j : Nat) : Int :=
  if j % 4 = 0 then num2 g (8 * (j / 4)) else if j % 4 = 1 then g (8 * (j / 4) + 2) else if j % 4 = 2 then g (8 * (j / 4) + 3) else num4 g (8 * (j / 4) + 4)

theorem decs_at (g : Nat → Int) (k : Nat) : decs g (4 * k) = num2 g (8 * k) ∧ decs g (4 * k + 1) = g (8 * k + 2) ∧ decs g (4 * k + 2) = g (8 * k + 3) ∧ decs g (4 * k + 3) = num4 g (8 * k + 4) := by
  unfold decs
  refine ⟨?_, ?_, ?_, ?_⟩
  · rw [if_pos (by omega), show 4 * k / 4 = k by omega]
  · rw [if_neg (by omega), if_pos (by omega), show (4 * k + 1) / 4 = k by omega]
  · rw [if_neg (by omega), if_neg (by omega), if_pos (by omega), show (4 * k + 2) / 4 = k by omega]
  · rw [if_neg (by omega), if_neg (by omega), if_neg (by omega), show (4 * k + 3) / 4 = k by omega]

/-- of the first k instructions -/
def decTo (g : Nat → Int) (k : Nat) (j : Nat) : Value := if j < 4 * k then .int .i64 (decs g j) else .int .i64 0

theorem num2_shift (g : Nat → Int) (o p : Nat) : num2 (fun j => g (o + j)) p = num2 g (o + p) := by simp [num2, Nat.add_assoc]
theorem num4_shift (g : Nat → Int) (o p : Nat) : num4 (fun j => g (o + j)) p = num4 g (o + p) := by simp [num4, Nat.add_assoc]

theorem decTo_succ (g : Nat → Int) (k j : Nat) :
    quad (decTo g k) (k * 4) (.int .i64 (num2 (fun j => g (k * 8 + j)) 0)) (.int .i64 (g (k * 8 + 2))) (.int .i64 (g (k * 8 + 3))) (.int .i64 (num4 (fun j => g (k * 8 + j)) 4)) j = decTo g (k + 1) j := by
  rw [num2_shift, num4_shift, Nat.mul_comm k 4, Nat.mul_comm k 8]
  obtain ⟨d0, d1, d2, d3⟩ := decs_at g k
  dsimp only [quad, decTo]
  by_cases h3 : j = 4 * k + 3
  · subst h3; rw [if_pos rfl, if_pos (by omega), d3]
  · rw [if_neg h3]
    by_cases h2 : j = 4 * k + 2
    · subst h2; rw [if_pos rfl, if_pos (by omega), d2]
    · rw [if_neg h2]
      by_cases h1 : j = 4 * k + 1
      · subst h1; rw [if_pos rfl, if_pos (by omega), d1]
      · rw [if_neg h1]
        by_cases h0 : j = 4 * k
        · subst h0; rw [if_pos rfl, if_pos (by omega), d0]; rfl
        · rw [if_neg h0]
          by_cases hj : j < 4 * k
          · rw [if_pos hj, if_pos (by omega)]
          · rw [if_neg hj, if_neg (by omega)]

set_option maxRecDepth 100000 in
set_option maxHeartbeats 1000000 in
theorem decode_good (b off n c : Nat) (g : Nat → Int) (w : World) (hn : 1 ≤ n) (hn2 : n ≤ 256) (hc : 8 * n ≤ c) (hg : Oct g) (h : Row w .u8 b off (8 * n) g) :
    Calls Tryd.prog 31 #[.slice (some ⟨b, off, none⟩) (8 * n) c] w fun e w' => ∃ B, e = .returned (.tuple #[.slice (some ⟨B, 0, none⟩) n n, .int .i64 0]) ∧ w.heap.size ≤ B ∧ w.grownBy w' none ∧ Blk w' B 44 (4 * n) (4 * n) (ints .i64 (decs g)) := by
  obtain ⟨i0, hi, hz0, hz1, hz2⟩ := info_parts Tryd.infoInsn
  have h0' : ((8 * (n : Int)) == 0) = false := by simp; omega
  have h8' : (((8 * (n : Int)) % 8) != 0) = false := by simp
  have h2' : ¬ (2048 : Int) < 8 * (n : Int) := by omega
  go_enter Tryd.func31, Tryd.ntmps31
  go_wp2_with (refine wpList_make_blk _ rfl _ _ 22 rfl 44 i0 (.agg #[.int .i64 0, .int .i64 0, .int .i64 0, .int .i64 0]) 4 Tryd.underlying22 hi hz0 hz1 _ _ _ _ n rfl rfl (by omega) (by omega) (by rw [hz2]; omega) (by unfold maxLen; omega) (.int .i64 0) zero4 ?_; intro w1 hb1 hg1)
  go_loopw [26] (fun i wr => ∃ k : Nat, k ≤ n ∧ i = .int .i64 k ∧ w.grownBy wr none ∧ Blk wr w.heap.size 44 (4 * n) (4 * n) (decTo g k)) (fun i _ => n - (intOf i).toNat)
  case atStart => exact ⟨0, Nat.zero_le _, rfl, hg1, by rw [Nat.mul_comm 4 n]; exact hb1.congr fun j _ => by simp [decTo]⟩
  case round =>
    obtain ⟨k, hk, rfl, hgr, hbk⟩ := hrel
    by_cases hlt : k < n
    · have R : Row wr .u8 b (off + k * 8) 8 (fun j => g (k * 8 + j)) := Row.part (h.keep hgr (by simp)) (by omega)
      have q10 : ¬ c = 8 * k := by omega
      have q12 : ¬ c = k * 8 := by omega
      go_wp2_with (go_at_call 39; refine (read_at b _ _ _ (fun j => g (k * 8 + j)) _ ?_ ?_ (fun j => hg _) R).mono ?_; omega; omega; rintro e w2 ⟨rfl, hg2⟩; have hb2 := hbk.keep hg2 (by simp); have e0 := hb2.cell (j := k * 4) (by omega); have e1 := hb2.cell (j := k * 4 + 1) (by omega); have e2 := hb2.cell (j := k * 4 + 2) (by omega); have e3 := hb2.cell (j := k * 4 + 3) (by omega); have f0 := hb2.frozen (k * 4); have f1 := hb2.frozen (k * 4 + 1); have f2 := hb2.frozen (k * 4 + 2); have f3 := hb2.frozen (k * 4 + 3))
      obtain ⟨Q1, Q2⟩ := hb2.quad (j := k * 4) (by omega) (.int .i64 (num2 (fun j => g (k * 8 + j)) 0)) (.int .i64 (g (k * 8 + 2))) (.int .i64 (g (k * 8 + 3))) (.int .i64 (num4 (fun j => g (k * 8 + j)) 4))
      go_roundw
      case rel => exact ⟨k + 1, by omega, by go_num, grown_new none (grown_trans hgr hg2) Q2 (Nat.le_refl _), Q1.congr fun j _ => decTo_succ g k j⟩
      case measure => simp [intOf]; omega
    · have : k = n := by omega
      subst this
      go_wp2
      go_ret2
      exact ⟨_, rfl, Nat.le_refl _, hgr, hbk.congr fun j hj => by simp [decTo, ints, hj]⟩

end Go.Proofs.YthbcfepbkkbjiaaDoor
