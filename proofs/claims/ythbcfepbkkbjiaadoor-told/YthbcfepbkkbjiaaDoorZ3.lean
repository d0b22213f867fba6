/- The walks of slices.Max, package check's wrong. -/
import Derived.Test.YthbcfepbkkbjiaaDoorZ2
import Derived.Test.YthbcfepbkkbjiaaDoorV6
namespace Go.Proofs.YthbcfepbkkbjiaaDoor
open Go.RowKit
set_option linter.unusedVariables false

theorem wrong_cls (q : Nat → Int) (n i : Nat) :
    ((kd (q (4 * i))).cls = 0 → wrong q n i = 2) ∧ ((kd (q (4 * i))).cls = 7 → wrong q n i = if q (4 * i + 3) = 0 then 3 else 0) ∧ ((kd (q (4 * i))).cls = 8 → wrong q n i = if 31 < q (4 * i + 3) then 4 else 0) ∧
    ((kd (q (4 * i))).cls = 3 ∨ (kd (q (4 * i))).cls = 4 → wrong q n i = if 16 ≤ q (4 * i + 3) then 5 else 0) ∧
    ((kd (q (4 * i))).cls = 9 ∨ (kd (q (4 * i))).cls = 10 → wrong q n i = if (nx q i).any (fun x => decide ((n : Int) ≤ x)) = true then 6 else 0) ∧
    ((kd (q (4 * i))).cls = 1 ∨ (kd (q (4 * i))).cls = 2 ∨ (kd (q (4 * i))).cls = 5 ∨ (kd (q (4 * i))).cls = 6 ∨ (kd (q (4 * i))).cls = 11 → wrong q n i = 0) := by
  obtain ⟨a8, a6, a7, a4, a5, a2, a3, _⟩ := cls_kind (q (4 * i))
  have hok : okk (q (4 * i)) = ((kd (q (4 * i))).cls != 0) := rfl
  unfold wrong
  generalize (nx q i) = l
  generalize q (4 * i + 3) = K
  generalize okk (q (4 * i)) = ok at hok
  generalize kd (q (4 * i)) = r at *
  subst hok
  unfold wrg
  refine ⟨fun h => ?_, fun h => ?_, fun h => ?_, fun h => ?_, fun h => ?_, fun h => ?_⟩
  · simp [h]
  · obtain ⟨b1, b2, b3⟩ := a2.1 h
    have b4 : ¬ 8 ≤ r.o := by rcases b3 with b | b <;> omega
    simp [h, b1, b2, b3, b4]
  · obtain ⟨b1, b2, b3⟩ := a3.1 h
    have b4 : ¬ (r.o = 3 ∨ r.o = 4) := by omega
    simp [h, b1, b2, b3, b4]
  · have b : r.kind = 3 ∨ r.kind = 6 := h.imp a4.1 a5.1
    have b0 : ¬ r.cls = 0 := by omega
    have b1 : ¬ r.kind = 8 := by omega
    have b2 : ¬ (r.kind = 10 ∨ r.kind = 11) := by omega
    simp [b0, b, b1, b2]
  · have b : r.kind = 10 ∨ r.kind = 11 := h.imp a6.1 a7.1
    have b0 : ¬ r.cls = 0 := by omega
    have b1 : ¬ r.kind = 8 := by omega
    have b2 : ¬ (r.kind = 3 ∨ r.kind = 6) := by omega
    simp [b0, b, b1, b2]
  · have b0 : ¬ r.cls = 0 := by omega
    have c2 : ¬ (r.kind = 8 ∧ r.x = false ∧ (r.o = 3 ∨ r.o = 4)) := fun e => by have := a2.2 e; omega
    have c3 : ¬ (r.kind = 8 ∧ r.x = false ∧ 8 ≤ r.o) := fun e => by have := a3.2 e; omega
    have c4 : ¬ (r.kind = 3 ∨ r.kind = 6) := fun e => by omega
    have c6 : ¬ (r.kind = 10 ∨ r.kind = 11) := fun e => by omega
    have d0 : (r.cls != 0) = true := by simp [b0]
    rw [d0, if_neg (by simp), if_neg (fun e => c2 ⟨e.1, e.2.1, e.2.2.1⟩), if_neg (fun e => c3 ⟨e.1, e.2.1, e.2.2.1⟩), if_neg (fun e => c4 e.1), if_neg (fun e => c6 e.1)]

theorem first_le (f : Nat → Int) : Hid (∀ j, j < 1 → f j ≤ f 0) := fun j hj => by
  have : j = 0 := by omega
  subst this
  exact Int.le_refl _

set_option maxRecDepth 100000 in
set_option maxHeartbeats 1000000 in
theorem max_any (ao : Option Addr) (L cc : Nat) (f : Nat → Int) (w : World) (hL : 1 ≤ L) (hL2 : L ≤ 1000000) (h : Src w .i64 ao L f) :
    Calls Tryd.prog 52 #[.slice ao L cc] w fun e w' => (∃ M : Int, e = .returned (.int .i64 M) ∧ (∃ j, j < L ∧ M = f j) ∧ ∀ j, j < L → f j ≤ M) ∧ w' = w := by
  obtain ⟨B, off, rfl, hR⟩ := h (by omega)
  have c0 : w.cell? ⟨B, off, none⟩ = some (.int .i64 (f 0)) := hR 0 (by omega)
  have t0 : (0 : Int) < (L : Int) := by omega
  have t1 : ¬ (L : Int) < 1 := by omega
  clear h
  go_enter Tryd.func52, Tryd.ntmps52
  go_wp2
  go_loop [3, 4] (fun v i => ∃ (k : Nat) (M : Int), 1 ≤ k ∧ k ≤ L ∧ i = .int .i64 k ∧ v = .int .i64 M ∧ (∃ j, j < L ∧ M = f j) ∧ Hid (∀ j, j < k → f j ≤ M)) (fun _ i => L - (intOf i).toNat)
  case atStart => exact ⟨1, f 0, by omega, by omega, rfl, rfl, ⟨0, by omega, rfl⟩, first_le f⟩
  case round =>
    obtain ⟨k, M, hk1, hk, rfl, rfl, hex, hall⟩ := hrel
    by_cases hlt : k < L
    · have ck : w.cell? ⟨B, off + k, none⟩ = some (.int .i64 (f k)) := hR k hlt
      clear hR c0
      go_wp2
      go_round
      case rel => exact ⟨k + 1, if M < f k then f k else M, by omega, by omega, by go_num, rfl, by
          by_cases h : M < f k
          · rw [if_pos h]; exact ⟨k, hlt, rfl⟩
          · rw [if_neg h]; exact hex, fun j hj => by
          by_cases e : j = k
          · subst e; split <;> omega
          · have := hall.out j (by omega)
            split <;> omega⟩
      case measure => simp [intOf]; omega
    · have hke : k = L := by omega
      subst hke
      go_wp2
      go_ret
      exact ⟨⟨M, rfl, hex, hall.out⟩, rfl⟩

set_option maxRecDepth 100000 in
set_option maxHeartbeats 1000000 in
theorem pwrong_0 (R B n cap MB i : Nat) (bad : Value) (q : Nat → Int) (w : World) (hi : i < n) (hn : n ≤ 1000000) (hq : Num q) (h : RowS w R B n cap MB bad q)
    (hc : (kd (q (4 * i))).cls = 0) :
    Calls Tryd.prog 42 #[.pointer (some ⟨R, 0, none⟩), .int .i64 i] w fun e w' => e = .returned (.int .i64 (wrong q n i)) ∧ w.grownBy w' none := by
  obtain ⟨r0, r1, _⟩ := h.cells
  obtain ⟨c0, c1, c2, c3⟩ := h.2.1.insn hi
  rw [Nat.zero_add] at c0 c1 c2 c3
  have z3 := hq (4 * i + 3)
  have t1 : (i : Int) < (n : Int) := by omega
  have HE : Hid (wrong q n i = 2) := (wrong_cls q n i).1 hc
  have t10 : (((kd (q (4 * i))).cls : Int) == 0) = true := by simp; omega
  clear hc
  go_enter Tryd.func42, Tryd.ntmps42
  go_wp2_with (first | (go_at_call 44; refine (pkind_any R B n cap MB i bad q _ hi hn h).mono ?_; rintro e w1 ⟨rfl, hg1⟩) | (go_at_call 51; refine (when_any _ _ _).mono ?_; rintro e w2 ⟨rfl, rfl⟩))
  go_ret
  exact ⟨ret_int HE.out.symm, hg1⟩

set_option maxRecDepth 100000 in
set_option maxHeartbeats 1000000 in
theorem pwrong_2 (R B n cap MB i : Nat) (bad : Value) (q : Nat → Int) (w : World) (hi : i < n) (hn : n ≤ 1000000) (hq : Num q) (h : RowS w R B n cap MB bad q)
    (hc : (kd (q (4 * i))).cls = 7) :
    Calls Tryd.prog 42 #[.pointer (some ⟨R, 0, none⟩), .int .i64 i] w fun e w' => e = .returned (.int .i64 (wrong q n i)) ∧ w.grownBy w' none := by
  obtain ⟨r0, r1, _⟩ := h.cells
  obtain ⟨c0, c1, c2, c3⟩ := h.2.1.insn hi
  rw [Nat.zero_add] at c0 c1 c2 c3
  have z3 := hq (4 * i + 3)
  have t1 : (i : Int) < (n : Int) := by omega
  have HE : Hid (wrong q n i = if q (4 * i + 3) = 0 then 3 else 0) := (wrong_cls q n i).2.1 hc
  have t10 : (((kd (q (4 * i))).cls : Int) == 0) = false := by simp; omega
  have t12 : (((kd (q (4 * i))).cls : Int) == 7) = true := by simp; omega
  clear hc
  go_enter Tryd.func42, Tryd.ntmps42
  go_wp2_with (first | (go_at_call 44; refine (pkind_any R B n cap MB i bad q _ hi hn h).mono ?_; rintro e w1 ⟨rfl, hg1⟩) | (go_at_call 51; refine (when_any _ _ _).mono ?_; rintro e w2 ⟨rfl, rfl⟩))
  all_goals go_ret
  all_goals exact ⟨ret_int (by rw [HE.out]; first | rw [if_pos (by omega)] | rw [if_neg (by omega)]), hg1⟩

set_option maxRecDepth 100000 in
set_option maxHeartbeats 1000000 in
theorem pwrong_3 (R B n cap MB i : Nat) (bad : Value) (q : Nat → Int) (w : World) (hi : i < n) (hn : n ≤ 1000000) (hq : Num q) (h : RowS w R B n cap MB bad q)
    (hc : (kd (q (4 * i))).cls = 8) :
    Calls Tryd.prog 42 #[.pointer (some ⟨R, 0, none⟩), .int .i64 i] w fun e w' => e = .returned (.int .i64 (wrong q n i)) ∧ w.grownBy w' none := by
  obtain ⟨r0, r1, _⟩ := h.cells
  obtain ⟨c0, c1, c2, c3⟩ := h.2.1.insn hi
  rw [Nat.zero_add] at c0 c1 c2 c3
  have z3 := hq (4 * i + 3)
  have t1 : (i : Int) < (n : Int) := by omega
  have HE : Hid (wrong q n i = if 31 < q (4 * i + 3) then 4 else 0) := (wrong_cls q n i).2.2.1 hc
  have t10 : (((kd (q (4 * i))).cls : Int) == 0) = false := by simp; omega
  have t12 : (((kd (q (4 * i))).cls : Int) == 7) = false := by simp; omega
  have t13 : (((kd (q (4 * i))).cls : Int) == 8) = true := by simp; omega
  clear hc
  go_enter Tryd.func42, Tryd.ntmps42
  go_wp2_with (first | (go_at_call 44; refine (pkind_any R B n cap MB i bad q _ hi hn h).mono ?_; rintro e w1 ⟨rfl, hg1⟩) | (go_at_call 51; refine (when_any _ _ _).mono ?_; rintro e w2 ⟨rfl, rfl⟩))
  all_goals go_ret
  all_goals exact ⟨ret_int (by rw [HE.out]; first | rw [if_pos (by omega)] | rw [if_neg (by omega)]), hg1⟩

set_option maxRecDepth 100000 in
set_option maxHeartbeats 1000000 in
theorem pwrong_4 (R B n cap MB i : Nat) (bad : Value) (q : Nat → Int) (w : World) (hi : i < n) (hn : n ≤ 1000000) (hq : Num q) (h : RowS w R B n cap MB bad q)
    (hc : (kd (q (4 * i))).cls = 3) :
    Calls Tryd.prog 42 #[.pointer (some ⟨R, 0, none⟩), .int .i64 i] w fun e w' => e = .returned (.int .i64 (wrong q n i)) ∧ w.grownBy w' none := by
  obtain ⟨r0, r1, _⟩ := h.cells
  obtain ⟨c0, c1, c2, c3⟩ := h.2.1.insn hi
  rw [Nat.zero_add] at c0 c1 c2 c3
  have z3 := hq (4 * i + 3)
  have t1 : (i : Int) < (n : Int) := by omega
  have HE : Hid (wrong q n i = if 16 ≤ q (4 * i + 3) then 5 else 0) := (wrong_cls q n i).2.2.2.1 (Or.inl hc)
  have t10 : (((kd (q (4 * i))).cls : Int) == 0) = false := by simp; omega
  have t12 : (((kd (q (4 * i))).cls : Int) == 7) = false := by simp; omega
  have t13 : (((kd (q (4 * i))).cls : Int) == 8) = false := by simp; omega
  have t14 : (((kd (q (4 * i))).cls : Int) == 3) = true := by simp; omega
  clear hc
  go_enter Tryd.func42, Tryd.ntmps42
  go_wp2_with (first | (go_at_call 44; refine (pkind_any R B n cap MB i bad q _ hi hn h).mono ?_; rintro e w1 ⟨rfl, hg1⟩) | (go_at_call 51; refine (when_any _ _ _).mono ?_; rintro e w2 ⟨rfl, rfl⟩))
  all_goals go_ret
  all_goals exact ⟨ret_int (by rw [HE.out]; first | rw [if_pos (by omega)] | rw [if_neg (by omega)]), hg1⟩

set_option maxRecDepth 100000 in
set_option maxHeartbeats 1000000 in
theorem pwrong_5 (R B n cap MB i : Nat) (bad : Value) (q : Nat → Int) (w : World) (hi : i < n) (hn : n ≤ 1000000) (hq : Num q) (h : RowS w R B n cap MB bad q)
    (hc : (kd (q (4 * i))).cls = 4) :
    Calls Tryd.prog 42 #[.pointer (some ⟨R, 0, none⟩), .int .i64 i] w fun e w' => e = .returned (.int .i64 (wrong q n i)) ∧ w.grownBy w' none := by
  obtain ⟨r0, r1, _⟩ := h.cells
  obtain ⟨c0, c1, c2, c3⟩ := h.2.1.insn hi
  rw [Nat.zero_add] at c0 c1 c2 c3
  have z3 := hq (4 * i + 3)
  have t1 : (i : Int) < (n : Int) := by omega
  have HE : Hid (wrong q n i = if 16 ≤ q (4 * i + 3) then 5 else 0) := (wrong_cls q n i).2.2.2.1 (Or.inr hc)
  have t10 : (((kd (q (4 * i))).cls : Int) == 0) = false := by simp; omega
  have t12 : (((kd (q (4 * i))).cls : Int) == 7) = false := by simp; omega
  have t13 : (((kd (q (4 * i))).cls : Int) == 8) = false := by simp; omega
  have t14 : (((kd (q (4 * i))).cls : Int) == 3) = false := by simp; omega
  have t15 : (((kd (q (4 * i))).cls : Int) == 4) = true := by simp; omega
  clear hc
  go_enter Tryd.func42, Tryd.ntmps42
  go_wp2_with (first | (go_at_call 44; refine (pkind_any R B n cap MB i bad q _ hi hn h).mono ?_; rintro e w1 ⟨rfl, hg1⟩) | (go_at_call 51; refine (when_any _ _ _).mono ?_; rintro e w2 ⟨rfl, rfl⟩))
  all_goals go_ret
  all_goals exact ⟨ret_int (by rw [HE.out]; first | rw [if_pos (by omega)] | rw [if_neg (by omega)]), hg1⟩

set_option maxRecDepth 100000 in
set_option maxHeartbeats 1000000 in
theorem pwrong_1 (R B n cap MB i : Nat) (bad : Value) (q : Nat → Int) (w : World) (hi : i < n) (hn : n ≤ 1000000) (hq : Num q) (h : RowS w R B n cap MB bad q)
    (hc : (kd (q (4 * i))).cls = 1 ∨ (kd (q (4 * i))).cls = 2 ∨ (kd (q (4 * i))).cls = 5 ∨ (kd (q (4 * i))).cls = 6 ∨ (kd (q (4 * i))).cls = 11) :
    Calls Tryd.prog 42 #[.pointer (some ⟨R, 0, none⟩), .int .i64 i] w fun e w' => e = .returned (.int .i64 (wrong q n i)) ∧ w.grownBy w' none := by
  obtain ⟨r0, r1, _⟩ := h.cells
  obtain ⟨c0, c1, c2, c3⟩ := h.2.1.insn hi
  rw [Nat.zero_add] at c0 c1 c2 c3
  have z3 := hq (4 * i + 3)
  have t1 : (i : Int) < (n : Int) := by omega
  have HE : Hid (wrong q n i = 0) := (wrong_cls q n i).2.2.2.2.2 hc
  have t10 : (((kd (q (4 * i))).cls : Int) == 0) = false := by simp; omega
  have t12 : (((kd (q (4 * i))).cls : Int) == 7) = false := by simp; omega
  have t13 : (((kd (q (4 * i))).cls : Int) == 8) = false := by simp; omega
  have t14 : (((kd (q (4 * i))).cls : Int) == 3) = false := by simp; omega
  have t15 : (((kd (q (4 * i))).cls : Int) == 4) = false := by simp; omega
  have t16 : (((kd (q (4 * i))).cls : Int) == 9) = false := by simp; omega
  have t17 : (((kd (q (4 * i))).cls : Int) == 10) = false := by simp; omega
  clear hc
  go_enter Tryd.func42, Tryd.ntmps42
  go_wp2_with (first | (go_at_call 44; refine (pkind_any R B n cap MB i bad q _ hi hn h).mono ?_; rintro e w1 ⟨rfl, hg1⟩) | (go_at_call 51; refine (when_any _ _ _).mono ?_; rintro e w2 ⟨rfl, rfl⟩))
  go_ret
  exact ⟨ret_int HE.out.symm, hg1⟩

theorem any_max {l : List Int} {n : Nat} {M : Int} (hL : 1 ≤ l.length) (hex : ∃ j, j < l.length ∧ M = l.getD j 0) (hall : ∀ j, j < l.length → l.getD j 0 ≤ M) :
    l.any (fun x => decide ((n : Int) ≤ x)) = decide ((n : Int) - 1 < M) := by
  by_cases h : (n : Int) - 1 < M
  · obtain ⟨j, hj, e⟩ := hex
    rw [any_le l n j hj (by omega)]; simp [h]
  · rw [any_lt l n (fun j hj => by have := hall j hj; omega)]; simp [h]

theorem nx_pos (q : Nat → Int) (i : Nat) (h : (kd (q (4 * i))).kind ≠ 12) : 1 ≤ (nx q i).length := by
  unfold nx
  rw [if_neg h]
  split
  · simp
  · split <;> simp

set_option maxRecDepth 100000 in
set_option maxHeartbeats 1000000 in
theorem pwrong_67 (R B n cap MB i : Nat) (bad : Value) (q : Nat → Int) (w : World) (hi : i < n) (hn : n ≤ 1000000) (hq : Num q) (h : RowS w R B n cap MB bad q)
    (hc : (kd (q (4 * i))).cls = 9 ∨ (kd (q (4 * i))).cls = 10) :
    Calls Tryd.prog 42 #[.pointer (some ⟨R, 0, none⟩), .int .i64 i] w fun e w' => e = .returned (.int .i64 (wrong q n i)) ∧ w.grownBy w' none := by
  obtain ⟨r0, r1, _⟩ := h.cells
  obtain ⟨c0, c1, c2, c3⟩ := h.2.1.insn hi
  rw [Nat.zero_add] at c0 c1 c2 c3
  have z3 := hq (4 * i + 3)
  have t1 : (i : Int) < (n : Int) := by omega
  have HE : Hid (wrong q n i = if (nx q i).any (fun x => decide ((n : Int) ≤ x)) = true then 6 else 0) := (wrong_cls q n i).2.2.2.2.1 hc
  have hL1 : 1 ≤ (nx q i).length := nx_pos q i (by obtain ⟨a8, _⟩ := cls_kind (q (4 * i)); intro e; have := a8.2 e; omega)
  have hL2 := nx_len q i
  have t10 : (((kd (q (4 * i))).cls : Int) == 0) = false := by simp; omega
  have t12 : (((kd (q (4 * i))).cls : Int) == 7) = false := by simp; omega
  have t13 : (((kd (q (4 * i))).cls : Int) == 8) = false := by simp; omega
  have t14 : (((kd (q (4 * i))).cls : Int) == 3) = false := by simp; omega
  have t15 : (((kd (q (4 * i))).cls : Int) == 4) = false := by simp; omega
  have t16 : (((kd (q (4 * i))).cls : Int) == 9) = true ∨ ((((kd (q (4 * i))).cls : Int) == 9) = false ∧ (((kd (q (4 * i))).cls : Int) == 10) = true) := by
    rcases hc with e | e <;> simp [e]
  clear hc
  rcases t16 with t16 | ⟨t16, t17⟩
  all_goals
    go_enter Tryd.func42, Tryd.ntmps42
    go_wp2_with (first | (go_at_call 44; refine (pkind_any R B n cap MB i bad q _ hi hn h).mono ?_; rintro e w1 ⟨rfl, hg1⟩) | (go_at_call 51; refine (when_any _ _ _).mono ?_; rintro e w2 ⟨rfl, rfl⟩) | (go_at_call 47; refine (pnext_any R B n cap MB i bad q _ hi hn hq (h.keep hg1)).mono ?_; rintro e w3 ⟨ao, cc, rfl, hs, hg3⟩) | (go_at_call 52; refine (max_any ao _ cc _ _ hL1 (by omega) hs).mono ?_; rintro e w4 ⟨⟨M, rfl, hex, hall⟩, rfl⟩) | (go_at_call 45; refine (last_any R B n cap MB bad q _ (by omega) hn (h.keep (grown_trans hg1 hg3))).mono ?_; rintro e w5 ⟨rfl, rfl⟩))
    all_goals go_ret
    all_goals exact ⟨ret_int (by rw [HE.out, any_max hL1 hex hall]; simp only [decide_eq_true_eq]; first | rw [if_pos (by omega)] | rw [if_neg (by omega)]), grown_trans hg1 hg3⟩

theorem pwrong_any (R B n cap MB i : Nat) (bad : Value) (q : Nat → Int) (w : World) (hi : i < n) (hn : n ≤ 1000000) (hq : Num q) (h : RowS w R B n cap MB bad q) :
    Calls Tryd.prog 42 #[.pointer (some ⟨R, 0, none⟩), .int .i64 i] w fun e w' => e = .returned (.int .i64 (wrong q n i)) ∧ w.grownBy w' none := by
  have hle := (cls_kind (q (4 * i))).2.2.2.2.2.2.2
  by_cases e0 : (kd (q (4 * i))).cls = 0
  · exact pwrong_0 R B n cap MB i bad q w hi hn hq h e0
  by_cases e2 : (kd (q (4 * i))).cls = 7
  · exact pwrong_2 R B n cap MB i bad q w hi hn hq h e2
  by_cases e3 : (kd (q (4 * i))).cls = 8
  · exact pwrong_3 R B n cap MB i bad q w hi hn hq h e3
  by_cases e4 : (kd (q (4 * i))).cls = 3
  · exact pwrong_4 R B n cap MB i bad q w hi hn hq h e4
  by_cases e5 : (kd (q (4 * i))).cls = 4
  · exact pwrong_5 R B n cap MB i bad q w hi hn hq h e5
  by_cases e6 : (kd (q (4 * i))).cls = 9 ∨ (kd (q (4 * i))).cls = 10
  · exact pwrong_67 R B n cap MB i bad q w hi hn hq h e6
  · exact pwrong_1 R B n cap MB i bad q w hi hn hq h (by omega)

end Go.Proofs.YthbcfepbkkbjiaaDoor
