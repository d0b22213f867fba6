import Derived.Test.YthbcfepbkkbjiabGreatDoorRows
import Derived.BigQuiet
import Derived.Deep.QuietTactic
import Derived.Deep.RegionHeld3
import Derived.Deep.DrawnRows
import Derived.Test.YthbcfepbkkbjiabGreatDoorI1
namespace Go.Proofs.YthbcfepbkkbjiabGreatDoor
open Go.RowKit
set_option maxRecDepth 100000 in
set_option maxHeartbeats 400000 in
theorem number_any (b off n c : Nat) (g : Nat → Int) (w : World) (hn : n ≤ 4) (hg : Oct g) (h : Row w .u8 b off n g) :
    Calls Tryz.prog 70 #[.slice (some ⟨b, off, none⟩) n c] w fun e w' => e = .returned (.int .i64 (le g n)) ∧ w' = w := by
  go_enter Tryz.func70, Tryz.ntmps70
  go_wp2
  go_loop [3, 4, 5, 8] (fun v _ _ i => ∃ k : Nat, k ≤ n ∧ i = .int .i64 k ∧ v = .int .i64 (le g k)) (fun _ _ _ i => n - (intOf i).toNat)
  case atStart => exact ⟨0, Nat.zero_le _, rfl, rfl⟩
  case round =>
    obtain ⟨k, hk, rfl, rfl⟩ := hrel
    by_cases hlt : k < n
    · have hc : w.cell? ⟨b, off + k, none⟩ = some (.int .u8 (g k)) := h k hlt
      have HS : Hid (bits .or .i64 (le g k) (wrap64 (g k * 2 ^ (8 * k))) = le g (k + 1)) := or_step hg k (by omega)
      have hgk := hg k
      clear hg
      go_wp2
      go_round
      case rel => exact ⟨k + 1, by omega, by go_num, by rw [HS.out]⟩
      case measure => simp [intOf]; omega
    · have : k = n := by omega
      subst this
      go_wp2
      go_ret
      exact ⟨rfl, rfl⟩
end Go.Proofs.YthbcfepbkkbjiabGreatDoor
namespace Go.Proofs.YthbcfepbkkbjiabGreatDoor
open Go.RowKit
def byt (v : Int) (i : Nat) : Int := v / 2 ^ (8 * i) % 256
theorem byt_bd (v : Int) (i : Nat) : 0 ≤ byt v i ∧ byt v i ≤ 255 := by unfold byt; omega
def enc8 (a b c d : Int) (j : Nat) : Int := if j < 2 then byt a j else if j = 2 then b % 256 else if j = 3 then c % 256 else byt d (j - 4)
def encs (q : Nat → Int) (j : Nat) : Int := enc8 (q (4 * (j / 8))) (q (4 * (j / 8) + 1)) (q (4 * (j / 8) + 2)) (q (4 * (j / 8) + 3)) (j % 8)
theorem enc8_bd (a b c d : Int) (j : Nat) : 0 ≤ enc8 a b c d j ∧ enc8 a b c d j ≤ 255 := by
  unfold enc8
  have h1 := byt_bd a j
  have h2 := byt_bd d (j - 4)
  split <;> (try split) <;> (try split) <;> omega
theorem encs_oct (q : Nat → Int) : Oct (encs q) := fun _ => enc8_bd _ _ _ _ _
theorem encs_at (q : Nat → Int) (k i : Nat) (hi : i < 8) : encs q (8 * k + i) = enc8 (q (4 * k)) (q (4 * k + 1)) (q (4 * k + 2)) (q (4 * k + 3)) i := by
  unfold encs
  rw [show (8 * k + i) / 8 = k by omega, show (8 * k + i) % 8 = i by omega]
theorem Tryz.infoByte : (Tryz.prog.info? 5).map (fun i => (i.zero, i.size, i.bytes)) = some (some (.int .u8 0), 1, 1) := by kernel_rfl
theorem Tryz.infoInsn : (Tryz.prog.info? 95).map (fun i => (i.zero, i.size, i.bytes)) = some (some (.agg #[.int .i64 0, .int .i64 0, .int .i64 0, .int .i64 0]), 4, 32) := by kernel_rfl
end Go.Proofs.YthbcfepbkkbjiabGreatDoor
namespace Go.Proofs.YthbcfepbkkbjiabGreatDoor
open Go.RowKit
attribute [local go_sem ↓] Go.wp_at_zero Go.wp_at_succ
theorem number_part (b off p m c : Nat) (g : Nat → Int) (w : World) (hg : Oct g) (h1 : off ≤ p) (h2 : p - off + m ≤ 8) (h3 : m ≤ 4) (h : Row w .u8 b off 8 g) :
    Calls Tryz.prog 70 #[.slice (some ⟨b, p, none⟩) m c] w fun e w' => e = .returned (.int .i64 (le (fun j => g (p - off + j)) m)) ∧ w' = w :=
  number_any b p m c (fun j => g (p - off + j)) w h3 (fun _ => hg _) (fun j hj => by have := h (p - off + j) (by omega); rwa [show off + (p - off + j) = p + j by omega] at this)
set_option maxRecDepth 100000 in
set_option maxHeartbeats 200000 in
theorem read_any (b off c : Nat) (g : Nat → Int) (w : World) (hc8 : 8 ≤ c) (hg : Oct g) (h : Row w .u8 b off 8 g) :
    Calls Tryz.prog 48 #[.slice (some ⟨b, off, none⟩) 8 c] w
      fun e w' => e = .returned (.agg #[.int .i64 (num2 g 0), .int .i64 (g 2), .int .i64 (g 3), .int .i64 (num4 g 4)]) ∧ w.grownBy w' none := by
  have hc2 : (2 : Int) ≤ (c : Int) := by omega
  have hc4 : (4 : Int) ≤ (c : Int) := by omega
  have hc4n : ¬ c = 4 := by omega
  have h2 := h 2 (by omega)
  have h3 := h 3 (by omega)
  have hlt : b < w.heap.size := World.block_lt_of_cell? w ⟨b, off + 2, none⟩ h2
  have g2 : IntKind.i64.wrap (g 2) = g 2 := by have := hg 2; rw [IntKind.wrap_i64]; omega
  have g3 : IntKind.i64.wrap (g 3) = g 3 := by have := hg 3; rw [IntKind.wrap_i64]; omega
  have hS0 : ∀ o, Hid ((w.alloc o).drew.cell? ⟨b, off + 2, none⟩ = some (.int .u8 (g 2)) ∧ (w.alloc o).drew.cell? ⟨b, off + 3, none⟩ = some (.int .u8 (g 3)) ∧ Row (w.alloc o).drew .u8 b off 8 g) :=
    fun o => ⟨(h.alloc o) 2 (by omega), (h.alloc o) 3 (by omega), h.alloc o⟩
  go_enter Tryz.func48, Tryz.ntmps48
  go_wp2
  go_region_held3 (fun w' => w'.cell? ⟨b, off + 2, none⟩ = some (.int .u8 (g 2)) ∧ w'.cell? ⟨b, off + 3, none⟩ = some (.int .u8 (g 3)) ∧ Row w' .u8 b off 8 g) (first | exact (hS0 _).out | assumption | (go_split_ands; exact ⟨by assumption, by assumption, by assumption⟩))
    ((go_at_call 70; refine (number_part b off _ _ _ g _ hg ?_ ?_ ?_ ?_).mono ?_; omega; omega; omega; (go_split_ands; assumption); rintro e w1 ⟨rfl, rfl⟩))
  go_wp2
  refine bodyPost_ret (v := .agg #[.int .i64 (le (fun j => g j) 2), .int .i64 (g 2), .int .i64 (g 3), .int .i64 (le (fun j => g (4 + j)) 4)]) (by simp [results, Tryz.results48, go_sem]) rfl ⟨?_, ?_⟩
  · rw [le_four g 4, show le (fun j => g j) 2 = num2 g 0 by simp [le, num2]]
  · exact grown_trans (World.grownBy_alloc w _ none) (grown_drewN _ 1 none)
theorem read_at (b p m c : Nat) (g : Nat → Int) (w : World) (hm : m = 8) (hc8 : 8 ≤ c) (hg : Oct g) (h : Row w .u8 b p 8 g) :
    Calls Tryz.prog 48 #[.slice (some ⟨b, p, none⟩) m c] w
      fun e w' => e = .returned (.agg #[.int .i64 (num2 g 0), .int .i64 (g 2), .int .i64 (g 3), .int .i64 (num4 g 4)]) ∧ w.grownBy w' none := by
  subst hm
  exact read_any b p c g w hc8 hg h
theorem zero4 (j : Nat) : (Value.agg #[.int .i64 0, .int .i64 0, .int .i64 0, .int .i64 0]).cells[j % (Value.agg #[.int .i64 0, .int .i64 0, .int .i64 0, .int .i64 0]).cells.size]! = Value.int .i64 0 := by
  have : j % 4 < 4 := Nat.mod_lt _ (by decide)
  show (#[Value.int .i64 0, .int .i64 0, .int .i64 0, .int .i64 0] : Array Value)[j % 4]! = _
  match j % 4, this with
  | 0, _ => rfl
  | 1, _ => rfl
  | 2, _ => rfl
  | 3, _ => rfl
def badSize (n : Nat) : Prop := n = 0 ∨ n % 8 ≠ 0 ∨ 2048 < n
set_option maxRecDepth 100000 in
set_option maxHeartbeats 400000 in
theorem decode_bad (ao : Option Addr) (n c : Nat) (w : World) (hm : n ≤ maxLen) (hn : badSize n) :
    Calls Tryz.prog 31 #[.slice ao n c] w fun e w' => e = .returned (.tuple #[.slice none 0 0, .int .i64 1]) ∧ w' = w := by
  unfold maxLen at hm
  by_cases h0 : n = 0
  · subst h0
    go_enter Tryz.func31, Tryz.ntmps31
    go_wp2
    go_ret2
    exact ⟨rfl, rfl⟩
  · have h0' : ((n : Int) == 0) = false := by simp; omega
    by_cases h8 : n % 8 = 0
    · have h8' : (((n : Int) % 8) != 0) = false := by simp; omega
      have h2 : (2048 : Int) < (n : Int) := by rcases hn with h | h | h <;> omega
      go_enter Tryz.func31, Tryz.ntmps31
      go_wp2
      go_ret2
      exact ⟨rfl, rfl⟩
    · have h8' : (((n : Int) % 8) != 0) = true := by simp; omega
      go_enter Tryz.func31, Tryz.ntmps31
      go_wp2
      go_ret2
      exact ⟨rfl, rfl⟩
def decs (g : Nat → Int) (j : Nat) : Int :=
  if j % 4 = 0 then num2 g (8 * (j / 4)) else if j % 4 = 1 then g (8 * (j / 4) + 2) else if j % 4 = 2 then g (8 * (j / 4) + 3) else num4 g (8 * (j / 4) + 4)
theorem decs_at (g : Nat → Int) (k : Nat) : decs g (4 * k) = num2 g (8 * k) ∧ decs g (4 * k + 1) = g (8 * k + 2) ∧ decs g (4 * k + 2) = g (8 * k + 3) ∧ decs g (4 * k + 3) = num4 g (8 * k + 4) := by
  unfold decs
  refine ⟨?_, ?_, ?_, ?_⟩
  · rw [if_pos (by omega), show 4 * k / 4 = k by omega]
  · rw [if_neg (by omega), if_pos (by omega), show (4 * k + 1) / 4 = k by omega]
  · rw [if_neg (by omega), if_neg (by omega), if_pos (by omega), show (4 * k + 2) / 4 = k by omega]
  · rw [if_neg (by omega), if_neg (by omega), if_neg (by omega), show (4 * k + 3) / 4 = k by omega]
def decTo (g : Nat → Int) (k : Nat) (j : Nat) : Value := if j < 4 * k then .int .i64 (decs g j) else .int .i64 0
theorem num2_shift (g : Nat → Int) (o p : Nat) : num2 (fun j => g (o + j)) p = num2 g (o + p) := by simp [num2, Nat.add_assoc]
theorem num4_shift (g : Nat → Int) (o p : Nat) : num4 (fun j => g (o + j)) p = num4 g (o + p) := by simp [num4, Nat.add_assoc]
theorem decTo_succ (g : Nat → Int) (k j : Nat) :
    quad (decTo g k) (k * 4) (.int .i64 (num2 (fun j => g (k * 8 + j)) 0)) (.int .i64 (g (k * 8 + 2))) (.int .i64 (g (k * 8 + 3))) (.int .i64 (num4 (fun j => g (k * 8 + j)) 4)) j = decTo g (k + 1) j := by
  rw [num2_shift, num4_shift, Nat.mul_comm k 4, Nat.mul_comm k 8]
  obtain ⟨d0, d1, d2, d3⟩ := decs_at g k
  dsimp only [quad, decTo]
  by_cases h3 : j = 4 * k + 3
  · subst h3; rw [if_pos rfl, if_pos (by omega), d3]
  · rw [if_neg h3]
    by_cases h2 : j = 4 * k + 2
    · subst h2; rw [if_pos rfl, if_pos (by omega), d2]
    · rw [if_neg h2]
      by_cases h1 : j = 4 * k + 1
      · subst h1; rw [if_pos rfl, if_pos (by omega), d1]
      · rw [if_neg h1]
        by_cases h0 : j = 4 * k
        · subst h0; rw [if_pos rfl, if_pos (by omega), d0]; rfl
        · rw [if_neg h0]
          by_cases hj : j < 4 * k
          · rw [if_pos hj, if_pos (by omega)]
          · rw [if_neg hj, if_neg (by omega)]
set_option maxRecDepth 100000 in
set_option maxHeartbeats 1000000 in
theorem decode_good (b off n c : Nat) (g : Nat → Int) (w : World) (hn : 1 ≤ n) (hn2 : n ≤ 256) (hc : 8 * n ≤ c) (hg : Oct g) (h : Row w .u8 b off (8 * n) g) :
    Calls Tryz.prog 31 #[.slice (some ⟨b, off, none⟩) (8 * n) c] w fun e w' => ∃ B, e = .returned (.tuple #[.slice (some ⟨B, 0, none⟩) n n, .int .i64 0]) ∧ w.heap.size ≤ B ∧ w.grownBy w' none ∧ Blk w' B 95 (4 * n) (4 * n) (ints .i64 (decs g)) := by
  obtain ⟨i0, hi, hz0, hz1, hz2⟩ := info_parts Tryz.infoInsn
  have h0' : ((8 * (n : Int)) == 0) = false := by simp; omega
  have h8' : (((8 * (n : Int)) % 8) != 0) = false := by simp
  have h2' : ¬ (2048 : Int) < 8 * (n : Int) := by omega
  go_enter Tryz.func31, Tryz.ntmps31
  go_wp2_with (refine wpList_make_blk _ rfl _ _ 62 rfl 95 i0 (.agg #[.int .i64 0, .int .i64 0, .int .i64 0, .int .i64 0]) 4 Tryz.underlying62 hi hz0 hz1 _ _ _ _ n rfl rfl (by omega) (by omega) (by rw [hz2]; omega) (by unfold maxLen; omega) (.int .i64 0) zero4 ?_; intro w1 hb1 hg1)
  go_loopw [26] (fun i wr => ∃ k : Nat, k ≤ n ∧ i = .int .i64 k ∧ w.grownBy wr none ∧ Blk wr w.heap.size 95 (4 * n) (4 * n) (decTo g k)) (fun i _ => n - (intOf i).toNat)
  case atStart => exact ⟨0, Nat.zero_le _, rfl, hg1, by rw [Nat.mul_comm 4 n]; exact hb1.congr fun j _ => by simp [decTo]⟩
  case round =>
    obtain ⟨k, hk, rfl, hgr, hbk⟩ := hrel
    by_cases hlt : k < n
    · have R : Row wr .u8 b (off + k * 8) 8 (fun j => g (k * 8 + j)) := Row.part (h.keep hgr (by simp)) (by omega)
      have q10 : ¬ c = 8 * k := by omega
      have q12 : ¬ c = k * 8 := by omega
      go_wp2_with (go_at_call 48; refine (read_at b _ _ _ (fun j => g (k * 8 + j)) _ ?_ ?_ (fun j => hg _) R).mono ?_; omega; omega; rintro e w2 ⟨rfl, hg2⟩; have hb2 := hbk.keep hg2 (by simp); have e0 := hb2.cell (j := k * 4) (by omega); have e1 := hb2.cell (j := k * 4 + 1) (by omega); have e2 := hb2.cell (j := k * 4 + 2) (by omega); have e3 := hb2.cell (j := k * 4 + 3) (by omega); have f0 := hb2.frozen (k * 4); have f1 := hb2.frozen (k * 4 + 1); have f2 := hb2.frozen (k * 4 + 2); have f3 := hb2.frozen (k * 4 + 3))
      obtain ⟨Q1, Q2⟩ := hb2.quad (j := k * 4) (by omega) (.int .i64 (num2 (fun j => g (k * 8 + j)) 0)) (.int .i64 (g (k * 8 + 2))) (.int .i64 (g (k * 8 + 3))) (.int .i64 (num4 (fun j => g (k * 8 + j)) 4))
      go_roundw
      case rel => exact ⟨k + 1, by omega, by go_num, grown_new none (grown_trans hgr hg2) Q2 (Nat.le_refl _), Q1.congr fun j _ => decTo_succ g k j⟩
      case measure => simp [intOf]; omega
    · have : k = n := by omega
      subst this
      go_wp2
      go_ret2
      exact ⟨_, rfl, Nat.le_refl _, hgr, hbk.congr fun j hj => by simp [decTo, ints, hj]⟩
end Go.Proofs.YthbcfepbkkbjiabGreatDoor
namespace Go.Proofs.YthbcfepbkkbjiabGreatDoor
open Go.RowKit
attribute [local go_sem ↓] Go.wp_at_zero Go.wp_at_succ
def Src (w : World) (k : IntKind) (ao : Option Addr) (n : Nat) (g : Nat → Int) : Prop := 0 < n → ∃ b off, ao = some ⟨b, off, none⟩ ∧ Row w k b off n g
theorem Src.keep {w w' : World} {k : IntKind} {ao : Option Addr} {n : Nat} {g : Nat → Int} (h : Src w k ao n g) (hg : w.grownBy w' none) : Src w' k ao n g := fun hn => by
  obtain ⟨b, off, h1, h2⟩ := h hn
  exact ⟨b, off, h1, h2.keep hg (by simp)⟩
theorem src_of_blk {w : World} {b : Nat} {e : TypeId} {N n : Nat} {k : IntKind} {g : Nat → Int} (h : Blk w b e N n (ints k g)) {m : Nat} (hm : m ≤ n) : Src w k (some ⟨b, 0, none⟩) m g :=
  fun _ => ⟨b, 0, rfl, fun j hj => by rw [Nat.zero_add]; exact h.cell (by omega)⟩
theorem Tryz.sizeByte : (Tryz.prog.info? 5).map (·.size) = some 1 := by kernel_rfl
end Go.Proofs.YthbcfepbkkbjiabGreatDoor
namespace Go.Proofs.YthbcfepbkkbjiabGreatDoor
open Go.RowKit
def Held (w : World) (e : TypeId) (size : Nat) (ao : Option Addr) (n cap : Nat) (f : Nat → Value) : Prop :=
  (ao = none ∧ n = 0 ∧ cap = 0) ∨ ∃ g, ao = some ⟨g, 0, none⟩ ∧ Blk w g e (cap * size) (n * size) f ∧ n ≤ cap ∧ cap ≤ maxLen
def own? : Option Addr → Option Nat | some a => some a.block | none => none
theorem Held.keep {w w' : World} {e : TypeId} {size : Nat} {ao : Option Addr} {n cap : Nat} {f : Nat → Value} {row : Option Nat} (h : Held w e size ao n cap f) (hg : w.grownBy w' row) (hr : row = none ∨ own? ao ≠ row) : Held w' e size ao n cap f := by
  rcases h with h | ⟨g, rfl, hb, r⟩
  · exact Or.inl h
  · refine Or.inr ⟨g, rfl, hb.keep hg (fun e => ?_), r⟩
    rcases hr with hr | hr
    · rw [hr] at e; cases e
    · exact hr e
theorem Held.alloc {w : World} {e : TypeId} {size : Nat} {ao : Option Addr} {n cap : Nat} {f : Nat → Value} (h : Held w e size ao n cap f) (o : Obj) : Held (w.alloc o) e size ao n cap f := h.keep (World.grownBy_alloc w o none) (Or.inl rfl)
theorem Held.lt {w : World} {e : TypeId} {size : Nat} {ao : Option Addr} {n cap : Nat} {f : Nat → Value} (h : Held w e size ao n cap f) : ∀ g, own? ao = some g → g < w.heap.size := by
  intro g hg
  rcases h with ⟨rfl, _⟩ | ⟨g', rfl, hb, _⟩
  · cases hg
  · cases hg; exact hb.lt
def Mkd (w : World) (b L : Nat) (f : Nat → Value) : Prop := ∃ e N, Blk w b e N L f
theorem Mkd.same {w w' : World} {b L : Nat} {f : Nat → Value} (h : Mkd w b L f) (hb : w'.heap[b]? = w.heap[b]?) : Mkd w' b L f := by
  obtain ⟨e, N, h⟩ := h
  exact ⟨e, N, h.same hb⟩
theorem Mkd.alloc {w : World} {b L : Nat} {f : Nat → Value} (h : Mkd w b L f) (o : Obj) : Mkd (w.alloc o) b L f := by
  obtain ⟨e, N, h⟩ := h
  exact ⟨e, N, h.alloc o⟩
theorem Mkd.lt {w : World} {b L : Nat} {f : Nat → Value} (h : Mkd w b L f) : b < w.heap.size := by
  obtain ⟨e, N, h⟩ := h
  exact h.lt
theorem Mkd.cell {w : World} {b L : Nat} {f : Nat → Value} (h : Mkd w b L f) {j : Nat} (hj : j < L) : w.cell? ⟨b, j, none⟩ = some (f j) := by
  obtain ⟨e, N, h⟩ := h
  exact h.cell hj
theorem Held.congr {w : World} {e : TypeId} {size : Nat} {ao : Option Addr} {n cap : Nat} {f f' : Nat → Value} (h : Held w e size ao n cap f) (hf : ∀ j, j < n * size → f j = f' j) : Held w e size ao n cap f' := by
  rcases h with h | ⟨g, h1, h2, h3⟩
  · exact Or.inl h
  · exact Or.inr ⟨g, h1, h2.congr hf, h3⟩
end Go.Proofs.YthbcfepbkkbjiabGreatDoor
namespace Go.Proofs.YthbcfepbkkbjiabGreatDoor
open Go.RowKit
attribute [local go_sem ↓] Go.wp_at_zero Go.wp_at_succ
def SrcI (w : World) (ao : Option Addr) (n : Nat) (q : Nat → Int) : Prop := 0 < n → ∃ b off, ao = some ⟨b, off, none⟩ ∧ Row w .i64 b off (4 * n) q
theorem SrcI.keep {w w' : World} {ao : Option Addr} {n : Nat} {q : Nat → Int} (h : SrcI w ao n q) (hg : w.grownBy w' none) : SrcI w' ao n q := fun hn => by
  obtain ⟨b, off, h1, h2⟩ := h hn
  exact ⟨b, off, h1, h2.keep hg (by simp)⟩
theorem grown_own {a b c : World} {row : Option Nat} (h : a.grownBy b none) (k : b.grownBy c row) (hr : ∀ g, row = some g → a.heap.size ≤ g) : a.grownBy c none := by
  cases row with
  | none => exact grown_trans h k
  | some g => exact grown_new none h k (hr g rfl)
end Go.Proofs.YthbcfepbkkbjiabGreatDoor
