/- The walks of the books: take, kept. -/
import Derived.Test.YthbcfepbkkbjiaaW6
namespace Go.Proofs.Ythbcfepbkkbjiaa
open Go.RowKit
attribute [local go_sem ↓] Go.wp_at_zero Go.wp_at_succ

/-- The books at block O: t lists were taken, four entries each; the marks; none of the rows that the books write lies among A, and all lie below N0; what the entries read lies among A. -/
def Books (w : World) (O : Nat) (A : Nat → Prop) (N0 t : Nat) : Prop :=
  ∃ (la ma : Option Addr) (lc mc : Nat) (E : Nat → Option Addr × Nat × Nat) (M : Nat → Int),
    Blk w O 27 2 2 (fun j => if j = 0 then .slice la (4 * t) lc else .slice ma (4 * t) mc) ∧ O < N0 ∧ ¬ A O ∧
    Held w 22 1 la (4 * t) lc (fun i => .slice (E i).1 (E i).2.1 (E i).2.2) ∧ (∀ g, own? la = some g → g < N0 ∧ ¬ A g ∧ g ≠ O) ∧
    Held w 5 1 ma (4 * t) mc (ints .u8 M) ∧ (∀ g, own? ma = some g → g < N0 ∧ ¬ A g ∧ g ≠ O ∧ own? la ≠ some g) ∧
    (∀ k, A k → k < w.heap.size) ∧ (∀ j, 0 ≤ M j ∧ M j ≤ 255) ∧
    ∀ i, i < 4 * t → (E i).2.1 ≤ 140737488355332 ∧ (0 < (E i).2.1 → ∃ b, (E i).1 = some ⟨b, 0, none⟩ ∧ A b ∧ Mkd w b (E i).2.1 (fun _ => .int .u8 (M i)))

/-- Others make memory: the books stand; what is new may be put among A. -/
theorem Books.grow {w w' : World} {O : Nat} {A A' : Nat → Prop} {N0 N1 t : Nat} (h : Books w O A N0 t) (hg : w.grownBy w' none) (hN : N0 ≤ N1) (hA : ∀ k, A k → A' k) (hA' : ∀ k, A' k → A k ∨ (N0 ≤ k ∧ k < w'.heap.size)) : Books w' O A' N1 t := by
  obtain ⟨la, ma, lc, mc, E, M, h1, h2, h3, h4, h5, h6, h7, h8, h9, h10⟩ := h
  refine ⟨la, ma, lc, mc, E, M, h1.keep hg (by simp), by omega, ?_, h4.keep hg (Or.inl rfl), ?_, h6.keep hg (Or.inl rfl), ?_, ?_, h9, ?_⟩
  · intro hc
    rcases hA' _ hc with hc | hc
    · exact h3 hc
    · omega
  · intro g hg'
    obtain ⟨a1, a2, a3⟩ := h5 g hg'
    refine ⟨by omega, fun hc => ?_, a3⟩
    rcases hA' _ hc with hc | hc
    · exact a2 hc
    · omega
  · intro g hg'
    obtain ⟨a1, a2, a3⟩ := h7 g hg'
    refine ⟨by omega, fun hc => ?_, a3⟩
    rcases hA' _ hc with hc | hc
    · exact a2 hc
    · omega
  · intro k hk
    rcases hA' _ hk with hc | hc
    · exact Nat.lt_of_lt_of_le (h8 k hc) hg.size
    · exact hc.2
  · intro i hi
    refine ⟨(h10 i hi).1, fun hp => ?_⟩
    obtain ⟨b, e1, e2, e3⟩ := (h10 i hi).2 hp
    exact ⟨b, e1, hA _ e2, e3.same (hg.block b e3.lt (by simp))⟩

theorem Try.infoBytes : (Try.prog.info? 22).map (fun i => (i.zero, i.size, i.bytes)) = some (some (.slice none 0 0), 1, 24) := by kernel_rfl

set_option maxRecDepth 100000 in
set_option maxHeartbeats 1000000 in
theorem bkept_any (O : Nat) (A : Nat → Prop) (N0 t : Nat) (w : World) (ht : t ≤ 1000000) (h : Books w O A N0 t) :
    Calls Try.prog 14 #[.pointer (some ⟨O, 0, none⟩)] w fun e w' => e = .returned (.bool true) ∧ w.grownBy w' none := by
  obtain ⟨la, ma, lc, mc, E, M, h1, h2, h3, h4, h5, h6, h7, h8, h9, h10⟩ := h
  go_enter Try.func14, Try.ntmps14
  go_wp2
  go_loopw [3] (fun i wr => ∃ k : Nat, k ≤ 4 * t ∧ i = .int .i64 k ∧ w.grownBy wr none) (fun i _ => 4 * t - (intOf i).toNat)
  case atStart => exact ⟨0, by omega, rfl, grown_refl _ _⟩
  case round =>
    obtain ⟨k, hk, rfl, hgr⟩ := hrel
    have hO := h1.keep hgr (by simp)
    have o0 : wr.cell? ⟨O, 0, none⟩ = some (.slice la (4 * t) lc) := hO.cell (j := 0) (by omega)
    have o1 : wr.cell? ⟨O, 1, none⟩ = some (.slice ma (4 * t) mc) := hO.cell (j := 1) (by omega)
    by_cases hlt : k < 4 * t
    · obtain ⟨hen, hM⟩ := h10 k hlt
      rcases h4.keep hgr (Or.inl rfl) with ⟨_, h0, _⟩ | ⟨gl, rfl, hbl, _⟩
      · omega
      rcases h6.keep hgr (Or.inl rfl) with ⟨_, h0, _⟩ | ⟨gm, rfl, hbm, _⟩
      · omega
      have hc : wr.cell? ⟨gl, k, none⟩ = some (.slice (E k).1 (E k).2.1 (E k).2.2) := hbl.cell (by omega)
      have hm : wr.cell? ⟨gm, k, none⟩ = some (.int .u8 (M k)) := hbm.cell (by omega)
      generalize (E k).1 = ea at hc hM
      generalize (E k).2.1 = en at hc hM hen
      generalize (E k).2.2 = ec at hc
      clear h10 h4 h6 hO hbl hbm h1
      obtain ⟨wo, hwo⟩ : ∃ x, x = wr := ⟨_, rfl⟩
      subst hwo
      go_wp2
      go_loopw [4] (fun j wq => ∃ i : Nat, i ≤ en ∧ j = .int .i64 i ∧ wo.grownBy wq none) (fun j _ => en - (intOf j).toNat)
      case atStart => exact ⟨0, by omega, rfl, grown_refl _ _⟩
      case round =>
        obtain ⟨i, hi, rfl, hgq⟩ := hrel
        have q0 := hgq.cell o0 (by simp)
        have q1 := hgq.cell o1 (by simp)
        have q2 := hgq.cell hc (by simp)
        have q3 := hgq.cell hm (by simp)
        have hgw := grown_trans hgr hgq
        by_cases hlt2 : i < en
        · obtain ⟨b, rfl, _, hMb⟩ := hM (by omega)
          have q4 : wr.cell? ⟨b, i, none⟩ = some (.int .u8 (M k)) := (hMb.same (hgw.block b hMb.lt (by simp))).cell hlt2
          have t1 : (k : Int) < 4 * (t : Int) := by omega
          have t2 : (i : Int) < (en : Int) := by omega
          clear hM hMb o0 o1 hc hm
          go_wp2
          go_quiet (fail)
          go_wp2
          go_roundw
          case rel => exact ⟨i + 1, by omega, by go_num, grown_none hgq (grown_drewN _ _ _)⟩
          case measure => simp [intOf]; omega
        · clear o0 o1 hc hm
          go_wp2
          go_roundw
          case rel => exact ⟨k + 1, by omega, by go_num, hgw⟩
          case measure => simp [intOf]; omega
    · go_wp2
      go_ret
      exact ⟨rfl, hgr⟩

theorem same1 (u : Value) (j : Nat) (hj : j < 1 * 1) : #[u].getD j .nilFunc = u := by
  match j, hj with
  | 0, _ => rfl
theorem same2 (u : Value) (j : Nat) (hj : j < 2 * 1) : #[u, u].getD j .nilFunc = u := by
  match j, hj with
  | 0, _ => rfl
  | 1, _ => rfl
theorem same3 (u : Value) (j : Nat) (hj : j < 3 * 1) : #[u, u, u].getD j .nilFunc = u := by
  match j, hj with
  | 0, _ => rfl
  | 1, _ => rfl
  | 2, _ => rfl
theorem same4 (u : Value) (j : Nat) (hj : j < 4 * 1) : #[u, u, u, u].getD j .nilFunc = u := by
  match j, hj with
  | 0, _ => rfl
  | 1, _ => rfl
  | 2, _ => rfl
  | 3, _ => rfl

/-- the mark of the next list -/
def markOf (t : Nat) : Int := 100 + (t : Int) % 150

def mbTo (f : Nat → Value) (u : Value) (k : Nat) : Nat → Value := fun j => if j < k then u else f j

theorem mbTo_succ (f : Nat → Value) (u : Value) (k j : Nat) : (if j = k then u else mbTo f u k j) = mbTo f u (k + 1) j := by
  unfold mbTo
  by_cases e : j = k
  · rw [if_pos e, if_pos (by omega)]
  · rw [if_neg e]
    by_cases e2 : j < k
    · rw [if_pos e2, if_pos (by omega)]
    · rw [if_neg e2, if_neg (by omega)]

def sl (x : Option Addr × Nat × Nat) : Value := .slice x.1 x.2.1 x.2.2

/-- the entries, four more -/
def newE (E : Nat → Option Addr × Nat × Nat) (L : Nat) (a b c d : Option Addr × Nat × Nat) : Nat → Option Addr × Nat × Nat := fun i => if i < L then E i else if i = L then a else if i = L + 1 then b else if i = L + 2 then c else d

theorem newE_old (E : Nat → Option Addr × Nat × Nat) (L : Nat) (a b c d : Option Addr × Nat × Nat) (i : Nat) (hi : i < L) : newE E L a b c d i = E i := if_pos hi
theorem newE_0 (E : Nat → Option Addr × Nat × Nat) (L : Nat) (a b c d : Option Addr × Nat × Nat) : newE E L a b c d L = a := by simp [newE]
theorem newE_z (E : Nat → Option Addr × Nat × Nat) (L : Nat) (a b c d : Option Addr × Nat × Nat) : newE E L a b c d (L + 0) = a := newE_0 E L a b c d
theorem newE_1 (E : Nat → Option Addr × Nat × Nat) (L : Nat) (a b c d : Option Addr × Nat × Nat) : newE E L a b c d (L + 1) = b := by unfold newE; rw [if_neg (by omega)]; simp
theorem newE_2 (E : Nat → Option Addr × Nat × Nat) (L : Nat) (a b c d : Option Addr × Nat × Nat) : newE E L a b c d (L + 2) = c := by unfold newE; rw [if_neg (by omega)]; simp
theorem newE_3 (E : Nat → Option Addr × Nat × Nat) (L : Nat) (a b c d : Option Addr × Nat × Nat) : newE E L a b c d (L + 3) = d := by unfold newE; rw [if_neg (by omega)]; simp

theorem newE_arr (E : Nat → Option Addr × Nat × Nat) (L : Nat) (a b c d : Option Addr × Nat × Nat) (j : Nat) (hj : j < 4 * 1) : #[sl a, sl b, sl c, sl d].getD j .nilFunc = sl (newE E L a b c d (L * 1 + j)) := by
  rw [Nat.mul_one]
  match j, hj with
  | 0, _ => rw [Nat.add_zero, newE_0]; rfl
  | 1, _ => rw [newE_1]; rfl
  | 2, _ => rw [newE_2]; rfl
  | 3, _ => rw [newE_3]; rfl

def newM (M : Nat → Int) (L : Nat) (X : Int) : Nat → Int := fun i => if i < L then M i else X

theorem newM_old (M : Nat → Int) (L : Nat) (X : Int) (j : Nat) (hj : j < L * 1) : ints .u8 M j = ints .u8 (newM M L X) j := by
  unfold ints newM
  rw [if_pos (by omega)]
theorem newM_arr (M : Nat → Int) (L : Nat) (X : Int) (j : Nat) (hj : j < 4 * 1) : #[Value.int .u8 X, .int .u8 X, .int .u8 X, .int .u8 X].getD j .nilFunc = ints .u8 (newM M L X) (L * 1 + j) := by
  rw [same4 _ j hj]
  unfold ints newM
  rw [if_neg (by omega)]

/-- The blocks of A are as they were. -/
structure Kept (A : Nat → Prop) (w w' : World) : Prop where
  os : w'.os = w.os
  tape : w'.tape = w.tape
  output : w'.output = w.output
  size : w.heap.size ≤ w'.heap.size
  block : ∀ k, A k → k < w.heap.size → w'.heap[k]? = w.heap[k]?

theorem Kept.trans {A B : Nat → Prop} {a b c : World} (h : Kept A a b) (k : Kept B b c) (hAB : ∀ k, A k → B k) : Kept A a c :=
  ⟨k.os.trans h.os, k.tape.trans h.tape, k.output.trans h.output, Nat.le_trans h.size k.size, fun i hi hl => (k.block i (hAB i hi) (Nat.lt_of_lt_of_le hl h.size)).trans (h.block i hi hl)⟩
theorem kept_of_grown {A : Nat → Prop} {w w' : World} {row : Option Nat} (h : w.grownBy w' row) (hr : ∀ k, A k → some k ≠ row) : Kept A w w' := ⟨h.os, h.tape, h.output, h.size, fun k hk hl => h.block k hl (hr k hk)⟩

theorem size_setCell (w : World) (a : Addr) (v : Value) : (w.setCell a v).heap.size = w.heap.size := by simp [World.setCell]

theorem take_end {w w3 w4 w5 : World} {O : Nat} {A : Nat → Prop} {N0 t : Nat} {ao la ma : Option Addr} {n cap : Nat} {E : Nat → Option Addr × Nat × Nat} {M : Nat → Int} {X : Int} {o4 o5 : Obj} {v4 : Value}
    {g1 p1 g2 p2 g3 p3 g4 p4 g5 p5 lc mc : Nat} (hOw : O < w.heap.size) (hn : n ≤ 140737488355320) (hX : 0 ≤ X ∧ X ≤ 255)
    (h2 : O < N0) (h3 : ¬ A O) (h4 : ∀ g, own? la = some g → g < w.heap.size) (h5 : ∀ g, own? la = some g → g < N0 ∧ ¬ A g ∧ g ≠ O) (h6 : ∀ g, own? ma = some g → g < w.heap.size)
    (h7 : ∀ g, own? ma = some g → g < N0 ∧ ¬ A g ∧ g ≠ O ∧ own? la ≠ some g) (h8 : ∀ k, A k → k < w.heap.size) (h9 : ∀ j, 0 ≤ M j ∧ M j ≤ 255)
    (h10 : ∀ i, i < 4 * t → (E i).2.1 ≤ 140737488355332 ∧ (0 < (E i).2.1 → ∃ b, (E i).1 = some ⟨b, 0, none⟩ ∧ A b ∧ Mkd w b (E i).2.1 (fun _ => .int .u8 (M i))))
    (hc : ∀ g, own? ao = some g → N0 ≤ g ∧ ¬ A g) (H3 : w.grownBy w3 (own? ao)) (hM3 : Held w3 5 1 ao n cap (fun _ => .int .u8 X))
    (M1 : Mkd w3 g1 ((n + 1) * 1) (fun _ => .int .u8 X)) (M2 : Mkd w3 g2 ((n + 2) * 1) (fun _ => .int .u8 X)) (M3 : Mkd w3 g3 ((n + 3) * 1) (fun _ => .int .u8 X))
    (r1 : own? ao = some g1 ∨ w.heap.size ≤ g1) (r2 : own? ao = some g2 ∨ w.heap.size ≤ g2) (r3 : own? ao = some g3 ∨ w.heap.size ≤ g3)
    (G4 : (w3.alloc o4).grownBy w4 (own? la))
    (B4 : Blk w4 g4 22 (p4 * 1) ((4 * t + 4) * 1) (fun i => sl (newE E (4 * t) (ao, n, cap) (some ⟨g1, 0, none⟩, n + 1, p1) (some ⟨g2, 0, none⟩, n + 2, p2) (some ⟨g3, 0, none⟩, n + 3, p3) i)))
    (c4 : 4 * t + 4 ≤ p4) (d4 : p4 ≤ maxLen) (r4 : own? la = some g4 ∨ (w3.alloc o4).heap.size ≤ g4)
    (G5 : ((w4.setCell ⟨O, 0, none⟩ v4).alloc o5).grownBy w5 (own? ma)) (B5 : Blk w5 g5 5 (p5 * 1) ((4 * t + 4) * 1) (ints .u8 (newM M (4 * t) X)))
    (c5 : 4 * t + 4 ≤ p5) (d5 : p5 ≤ maxLen) (r5 : own? ma = some g5 ∨ ((w4.setCell ⟨O, 0, none⟩ v4).alloc o5).heap.size ≤ g5)
    (O5 : Blk w5 O 27 2 2 (fun i => if i = 0 then .slice (some ⟨g4, 0, none⟩) (4 * t + 4) p4 else (if i = 0 then .slice la (4 * t) lc else .slice ma (4 * t) mc))) :
    ∃ A', (∀ k, A k → A' k) ∧ (∀ k, A' k → A k ∨ own? ao = some k ∨ (w.heap.size ≤ k ∧ k < (w5.setCell ⟨O, 1, none⟩ (.slice (some ⟨g5, 0, none⟩) (4 * t + 4) p5)).heap.size)) ∧
      Books (w5.setCell ⟨O, 1, none⟩ (.slice (some ⟨g5, 0, none⟩) (4 * t + 4) p5)) O A' (w5.setCell ⟨O, 1, none⟩ (.slice (some ⟨g5, 0, none⟩) (4 * t + 4) p5)).heap.size (t + 1) ∧
      Kept A w (w5.setCell ⟨O, 1, none⟩ (.slice (some ⟨g5, 0, none⟩) (4 * t + 4) p5)) := by
  obtain ⟨W', hW'⟩ : ∃ W', W' = w5.setCell ⟨O, 1, none⟩ (.slice (some ⟨g5, 0, none⟩) (4 * t + 4) p5) := ⟨_, rfl⟩
  have sW : W'.heap.size = w5.heap.size := by rw [hW', size_setCell]
  have s3 := H3.size
  have s4 := G4.size
  have s5 := G5.size
  simp only [World.size_alloc, size_setCell] at s4 s5 r4 r5
  have l1 := M1.lt
  have l2 := M2.lt
  have l3 := M3.lt
  have l4 := B4.lt
  have l5 := B5.lt
  -- from w3 on
  have chain3 : ∀ k, k < w3.heap.size → own? la ≠ some k → own? ma ≠ some k → k ≠ O → W'.heap[k]? = w3.heap[k]? := by
    intro k hk hl hm hO
    rw [hW', Below.heap_setCell _ _ _ _ hO, G5.block k (by simp; omega) (fun e => hm e.symm), Below.heap_alloc _ _ _ (by rw [size_setCell]; omega), Below.heap_setCell _ _ _ _ hO, G4.block k (by simp; omega) (fun e => hl e.symm), Below.heap_alloc _ _ _ hk]
  have chain4 : ∀ k, k < w4.heap.size → own? ma ≠ some k → k ≠ O → W'.heap[k]? = w4.heap[k]? := by
    intro k hk hm hO
    rw [hW', Below.heap_setCell _ _ _ _ hO, G5.block k (by simp; omega) (fun e => hm e.symm), Below.heap_alloc _ _ _ (by rw [size_setCell]; omega), Below.heap_setCell _ _ _ _ hO]
  have chain : ∀ k, A k → W'.heap[k]? = w.heap[k]? := by
    intro k hk
    have hl := h8 k hk
    rw [chain3 k (by omega) (fun e => (h5 k e).2.1 hk) (fun e => (h7 k e).2.1 hk) (fun e => h3 (e ▸ hk)), H3.block k hl (fun e => (hc k e.symm).2 hk)]
  have far : ∀ g, (own? ao = some g ∨ w.heap.size ≤ g) → own? la ≠ some g ∧ own? ma ≠ some g := by
    intro g hg
    constructor
    · intro e
      rcases hg with hg | hg
      · have := (hc g hg).1; have := (h5 g e).1; omega
      · have := h4 g e; omega
    · intro e
      rcases hg with hg | hg
      · have := (hc g hg).1; have := (h7 g e).1; omega
      · have := h6 g e; omega
  have hON : ∀ g, (own? ao = some g ∨ w.heap.size ≤ g) → g ≠ O := by
    intro g hg e
    rcases hg with hg | hg
    · have := (hc g hg).1; omega
    · omega
  have hao : ∀ g, own? ao = some g → g < w3.heap.size := hM3.lt
  have n4O : g4 ≠ O := by
    rcases r4 with h | h
    · exact (h5 g4 h).2.2
    · omega
  have n5O : g5 ≠ O := by
    rcases r5 with h | h
    · exact (h7 g5 h).2.2.1
    · omega
  have n4m : own? ma ≠ some g4 := by
    intro e
    rcases r4 with h | h
    · exact (h7 g4 e).2.2.2 h
    · have := h6 g4 e; omega
  have n45 : g4 ≠ g5 := by
    intro e
    rcases r5 with h | h
    · exact n4m (e ▸ h)
    · omega
  have A4 : ∀ g, A g ∨ own? ao = some g ∨ g = g1 ∨ g = g2 ∨ g = g3 → g ≠ g4 ∧ g ≠ g5 ∧ g ≠ O := by
    intro g hg
    have key : A g ∨ (own? ao = some g ∨ w.heap.size ≤ g) ∧ g < w3.heap.size := by
      rcases hg with h | h | rfl | rfl | rfl
      · exact Or.inl h
      · exact Or.inr ⟨Or.inl h, hao g h⟩
      · exact Or.inr ⟨r1, l1⟩
      · exact Or.inr ⟨r2, l2⟩
      · exact Or.inr ⟨r3, l3⟩
    rcases key with h | ⟨h, hl⟩
    · have := h8 g h
      refine ⟨fun e => ?_, fun e => ?_, fun e => h3 (e ▸ h)⟩
      · rcases r4 with q | q
        · exact (h5 g4 q).2.1 (e ▸ h)
        · omega
      · rcases r5 with q | q
        · exact (h7 g5 q).2.1 (e ▸ h)
        · omega
    · refine ⟨fun e => ?_, fun e => ?_, hON g h⟩
      · rcases r4 with q | q
        · exact (far g h).1 (e ▸ q)
        · omega
      · rcases r5 with q | q
        · exact (far g h).2 (e ▸ q)
        · omega
  have mk3 : ∀ g L, (own? ao = some g ∨ w.heap.size ≤ g) → Mkd w3 g L (fun _ => Value.int .u8 X) → Mkd W' g L (fun _ => Value.int .u8 X) := fun g L hg hM =>
    hM.same (chain3 g hM.lt (far g hg).1 (far g hg).2 (hON g hg))
  rw [← hW']
  refine ⟨fun g => A g ∨ own? ao = some g ∨ g = g1 ∨ g = g2 ∨ g = g3, fun k h => Or.inl h, ?_, ?_, ?_⟩
  · intro k hk
    rcases hk with h | h | rfl | rfl | rfl
    · exact Or.inl h
    · exact Or.inr (Or.inl h)
    · exact Or.inr (r1.imp id fun h => ⟨h, by omega⟩)
    · exact Or.inr (r2.imp id fun h => ⟨h, by omega⟩)
    · exact Or.inr (r3.imp id fun h => ⟨h, by omega⟩)
  · have e4 : 4 * (t + 1) = 4 * t + 4 := by omega
    refine ⟨some ⟨g4, 0, none⟩, some ⟨g5, 0, none⟩, p4, p5, newE E (4 * t) (ao, n, cap) (some ⟨g1, 0, none⟩, n + 1, p1) (some ⟨g2, 0, none⟩, n + 2, p2) (some ⟨g3, 0, none⟩, n + 3, p3), newM M (4 * t) X, ?_, by omega, fun h => (A4 O h).2.2 rfl, ?_, ?_, ?_, ?_, ?_, ?_, ?_⟩
    · rw [e4, hW']
      refine (O5.set' (j := 1) (by omega) _).congr fun j hj => ?_
      match j, hj with
      | 0, _ => rfl
      | 1, _ => rfl
    · rw [e4]
      exact Or.inr ⟨g4, rfl, B4.same (chain4 g4 l4 n4m n4O), c4, d4⟩
    · intro g hg
      cases hg
      exact ⟨by show g4 < _; omega, fun h => (A4 g4 h).1 rfl, n4O⟩
    · rw [e4, hW']
      exact Or.inr ⟨g5, rfl, B5.setOther (a := ⟨O, 1, none⟩) (fun e => n5O e.symm) _, c5, d5⟩
    · intro g hg
      cases hg
      exact ⟨by show g5 < _; omega, fun h => (A4 g5 h).2.1 rfl, n5O, fun e => by cases e; exact n45 rfl⟩
    · intro k hk
      rcases hk with h | h | rfl | rfl | rfl
      · have := h8 k h; omega
      · have := hao k h; omega
      · omega
      · omega
      · omega
    · intro j
      unfold newM
      split
      · exact h9 j
      · exact hX
    · intro i hi
      by_cases hlt : i < 4 * t
      · rw [newE_old _ _ _ _ _ _ _ hlt]
        have hm : newM M (4 * t) X i = M i := if_pos hlt
        rw [hm]
        refine ⟨(h10 i hlt).1, fun hp => ?_⟩
        obtain ⟨b, e1, e2, e3⟩ := (h10 i hlt).2 hp
        exact ⟨b, e1, Or.inl e2, e3.same (chain b e2)⟩
      · have hm : newM M (4 * t) X i = X := if_neg hlt
        rw [hm]
        obtain ⟨d, hd⟩ : ∃ d, i = 4 * t + d := ⟨i - 4 * t, by omega⟩
        subst hd
        have hd4 : d < 4 := by omega
        match d, hd4 with
        | 0, _ =>
          rw [newE_z]
          refine ⟨by show n ≤ _; omega, fun hp => ?_⟩
          rcases hM3 with ⟨_, h0, _⟩ | ⟨g, rfl, hb, _⟩
          · have : 0 < n := hp
            omega
          · exact ⟨g, rfl, Or.inr (Or.inl rfl), mk3 g n (Or.inl rfl) ⟨_, _, by simpa using hb⟩⟩
        | 1, _ => rw [newE_1]; exact ⟨by show n + 1 ≤ _; omega, fun _ => ⟨g1, rfl, Or.inr (Or.inr (Or.inl rfl)), mk3 g1 (n + 1) r1 (by simpa using M1)⟩⟩
        | 2, _ => rw [newE_2]; exact ⟨by show n + 2 ≤ _; omega, fun _ => ⟨g2, rfl, Or.inr (Or.inr (Or.inr (Or.inl rfl))), mk3 g2 (n + 2) r2 (by simpa using M2)⟩⟩
        | 3, _ => rw [newE_3]; exact ⟨by show n + 3 ≤ _; omega, fun _ => ⟨g3, rfl, Or.inr (Or.inr (Or.inr (Or.inr rfl))), mk3 g3 (n + 3) r3 (by simpa using M3)⟩⟩
  · refine ⟨?_, ?_, ?_, by omega, fun k hk _ => chain k hk⟩
    · rw [hW']; exact G5.os.trans (G4.os.trans H3.os)
    · rw [hW']; exact G5.tape.trans (G4.tape.trans H3.tape)
    · rw [hW']; exact G5.output.trans (G4.output.trans H3.output)

set_option maxRecDepth 100000 in
set_option maxHeartbeats 2000000 in
theorem take_any (O : Nat) (A : Nat → Prop) (N0 t : Nat) (ao : Option Addr) (n cap : Nat) (f : Nat → Value) (w : World) (ht : t ≤ 1000000) (hn : n ≤ 140737488355320) (h : Books w O A N0 t)
    (hv : Held w 5 1 ao n cap f) (hc : ∀ g, own? ao = some g → N0 ≤ g ∧ ¬ A g) :
    Calls Try.prog 12 #[.pointer (some ⟨O, 0, none⟩), .slice ao n cap] w
      fun e w' => e = .returned (.tuple #[]) ∧ ∃ A', (∀ k, A k → A' k) ∧ (∀ k, A' k → A k ∨ own? ao = some k ∨ (w.heap.size ≤ k ∧ k < w'.heap.size)) ∧ Books w' O A' w'.heap.size (t + 1) ∧ Kept A w w' := by
  obtain ⟨la, ma, lc, mc, E, M, h1, h2, h3, h4, h5, h6, h7, h8, h9, h10⟩ := h
  obtain ⟨i0, hi, hz0, hz1, hz2⟩ := info_parts Try.infoByte
  obtain ⟨i1, hi1, hy0, hy1, hy2⟩ := info_parts Try.infoBytes
  have o1 : w.cell? ⟨O, 1, none⟩ = some (.slice ma (4 * t) mc) := h1.cell (j := 1) (by omega)
  have hX : Hid (markOf t = markOf t) := rfl
  go_enter Try.func12, Try.ntmps12
  go_wp2
  generalize hXe : (100 + (t : Int) % 150) = X
  have hXb : 0 ≤ X ∧ X ≤ 255 := by omega
  clear hXe
  have hlo := hv.lt
  go_loopw [5] (fun i wr => ∃ k : Nat, k ≤ n ∧ i = .int .i64 k ∧ w.grownBy wr (own? ao) ∧ Held wr 5 1 ao n cap (mbTo f (.int .u8 X) k)) (fun i _ => n - (intOf i).toNat)
  case atStart => exact ⟨0, Nat.zero_le _, rfl, grown_refl _ _, hv.congr fun j _ => by simp [mbTo]⟩
  case round =>
    obtain ⟨k, hk, rfl, hgr, hh⟩ := hrel
    by_cases hlt : k < n
    · rcases hh with ⟨_, h0, _⟩ | ⟨g, rfl, hbk, hcap⟩
      · omega
      have e0 := hbk.cell (j := k) (by omega)
      have f0 := hbk.frozen k
      have Q1 := hbk.set' (j := k) (by omega) (.int .u8 X)
      clear h1 h4 h6 h10 o1
      go_wp2
      go_roundw
      case rel => exact ⟨k + 1, by omega, by go_num, grown_trans hgr (grown_setCell _ _ _), Or.inr ⟨g, rfl, Q1.congr fun j _ => mbTo_succ f _ k j, hcap⟩⟩
      case measure => simp [intOf]; omega
    · have : k = n := by omega
      subst this
      have hM : Held wr 5 1 ao k cap (fun _ => .int .u8 X) := hh.congr fun j hj => by simp only [mbTo]; rw [if_pos (by omega)]
      have hOc : ∀ g, own? ao = some g → g = O → False := fun g hg e => by have := (hc g hg).1; omega
      have hOl : ∀ g, own? la = some g → g = O → False := fun g hg e => (h5 g hg).2.2 e
      have hlc : ∀ _ : Unit, own? ao = none ∨ own? la ≠ own? ao := fun _ => by
        cases hrow : own? ao with
        | none => exact Or.inl rfl
        | some g => exact Or.inr fun e => by have := (h5 g e).1; have := (hc g hrow).1; omega
      have hmO : own? ma ≠ some O := fun e => (h7 O e).2.2.1 rfl
      have hmc : ∀ _ : Unit, own? ao = none ∨ own? ma ≠ own? ao := fun _ => by
        cases hrow : own? ao with
        | none => exact Or.inl rfl
        | some g => exact Or.inr fun e => by have := (h7 g e).1; have := (hc g hrow).1; omega
      have hml : ∀ _ : Unit, own? la = none ∨ own? ma ≠ own? la := fun _ => by
        cases hrow : own? la with
        | none => exact Or.inl rfl
        | some g => exact Or.inr fun e => (h7 g e).2.2.2 hrow
      clear hh hv o1
      go_wp2_with (first | (at_builtin; refine wpList_append_held _ rfl (.tmp 28) (.tmp 30) 22 rfl 5 i0 _ 1 1 Try.underlying22 hi hz0 hz1 hz2 rfl (by decide) ao k cap _ rfl (hM.alloc _) _ 1 1 _ _ rfl (heap_top _ _ _ (by simp)) rfl (by simp [Value.oneCell']) (by decide) (by unfold maxLen; omega) (by omega) (fun _ => .int .u8 X) (fun _ _ => rfl) (same1 _) ?_; intro g1 p1 w1 B1 c1 d1 hM1 G1 r1 K1; have H1 := grown_trans (grown_alloc hgr _) G1) | (at_builtin; refine wpList_append_held _ rfl (.tmp 32) (.tmp 35) 22 rfl 5 i0 _ 1 1 Try.underlying22 hi hz0 hz1 hz2 rfl (by decide) ao k cap _ rfl (hM1.alloc _) _ 2 2 _ _ rfl (heap_top _ _ _ (by simp)) rfl (by simp [Value.oneCell']) (by decide) (by unfold maxLen; omega) (by omega) (fun _ => .int .u8 X) (fun _ _ => rfl) (same2 _) ?_; intro g2 p2 w2 B2 c2 d2 hM2 G2 r2 K2; have H2 := grown_trans (grown_alloc H1 _) G2) | (at_builtin; refine wpList_append_held _ rfl (.tmp 37) (.tmp 41) 22 rfl 5 i0 _ 1 1 Try.underlying22 hi hz0 hz1 hz2 rfl (by decide) ao k cap _ rfl (hM2.alloc _) _ 3 3 _ _ rfl (heap_top _ _ _ (by simp)) rfl (by simp [Value.oneCell']) (by decide) (by unfold maxLen; omega) (by omega) (fun _ => .int .u8 X) (fun _ _ => rfl) (same3 _) ?_; intro g3 p3 w3 B3 c3 d3 hM3 G3 r3 K3; have H3 := grown_trans (grown_alloc H2 _) G3; have O3 := h1.keep H3 (fun e => hOc _ e.symm rfl); have o30 : w3.cell? ⟨O, 0, none⟩ = some (.slice la (4 * t) lc) := O3.cell (j := 0) (by omega); have L3 := h4.keep H3 (hlc ())) | (at_builtin; refine wpList_append_held _ rfl (.tmp 47) (.tmp 52) 25 rfl 22 i1 _ 1 24 Try.underlying25 hi1 hy0 hy1 hy2 rfl (by decide) la (4 * t) lc _ rfl (L3.alloc _) _ 4 4 _ _ rfl (heap_top _ _ _ (by simp)) rfl (by simp [Value.oneCell']) (by decide) (by unfold maxLen; omega) (by omega) (fun i => sl (newE E (4 * t) (ao, k, cap) (some ⟨g1, 0, none⟩, k + 1, p1) (some ⟨g2, 0, none⟩, k + 2, p2) (some ⟨g3, 0, none⟩, k + 3, p3) i)) (fun j hj => by rw [newE_old _ _ _ _ _ _ _ (by omega)]; rfl) (newE_arr E (4 * t) (ao, k, cap) (some ⟨g1, 0, none⟩, k + 1, p1) (some ⟨g2, 0, none⟩, k + 2, p2) (some ⟨g3, 0, none⟩, k + 3, p3)) ?_; intro g4 p4 w4 B4 c4 d4 hM4 G4 r4 K4; have O4 := (O3.alloc _).keep G4 (fun e => hOl _ e.symm rfl); have o40 := O4.cell (j := 0) (by omega); have f40 := O4.frozen 0; have O4s := O4.set' (j := 0) (by omega) (.slice (some ⟨g4, 0, none⟩) (4 * t + 4) p4); have o41 : (w4.setCell ⟨O, 0, none⟩ (.slice (some ⟨g4, 0, none⟩) (4 * t + 4) p4)).cell? ⟨O, 1, none⟩ = some (.slice ma (4 * t) mc) := O4s.cell (j := 1) (by omega); have Ma5 := (((h6.keep H3 (hmc ())).alloc _).keep G4 (hml ())).keep (grown_setCell w4 ⟨O, 0, none⟩ (.slice (some ⟨g4, 0, none⟩) (4 * t + 4) p4)) (Or.inr hmO)) | (at_builtin; refine wpList_append_held _ rfl (.tmp 60) (.tmp 65) 22 rfl 5 i0 _ 1 1 Try.underlying22 hi hz0 hz1 hz2 rfl (by decide) ma (4 * t) mc _ rfl (Ma5.alloc _) _ 4 4 _ _ rfl (heap_top _ _ _ (by simp)) rfl (by simp [Value.oneCell']) (by decide) (by unfold maxLen; omega) (by omega) (ints .u8 (newM M (4 * t) X)) (newM_old M (4 * t) X) (newM_arr M (4 * t) X) ?_; intro g5 p5 w5 B5 c5 d5 hM5 G5 r5 K5; have O5 := (O4s.alloc _).keep G5 (fun e => hmO e.symm); have o51 := O5.cell (j := 1) (by omega); have f51 := O5.frozen 1))
      go_end0
      refine ⟨rfl, ?_⟩
      have M1 : Mkd w3 g1 ((k + 1) * 1) (fun _ => .int .u8 X) := K3 _ _ ((K2 _ _ (Mkd.alloc ⟨_, _, B1⟩ _) (by omega)).alloc _) (by omega)
      have M2 : Mkd w3 g2 ((k + 2) * 1) (fun _ => .int .u8 X) := K3 _ _ (Mkd.alloc ⟨_, _, B2⟩ _) (by omega)
      have M3 : Mkd w3 g3 ((k + 3) * 1) (fun _ => .int .u8 X) := ⟨_, _, B3⟩
      have z0 := hgr.size
      have z1 := H1.size
      have z2 := H2.size
      simp only [World.size_alloc] at r1 r2 r3
      exact take_end h1.lt hn hXb h2 h3 h4.lt h5 h6.lt h7 h8 h9 h10 hc H3 hM3 M1 M2 M3 (r1.imp id fun h => by omega) (r2.imp id fun h => by omega) (r3.imp id fun h => by omega) G4 B4 c4 d4 r4 G5 B5 c5 d5 r5 O5

end Go.Proofs.Ythbcfepbkkbjiaa
