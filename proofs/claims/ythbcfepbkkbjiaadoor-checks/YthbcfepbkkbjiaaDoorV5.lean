/- The walk of the reference's wrong. -/
import Derived.Test.YthbcfepbkkbjiaaDoorV4
namespace Go.Proofs.YthbcfepbkkbjiaaDoor
open Go.RowKit
set_option linter.unusedVariables false

theorem ret_int {k : IntKind} {a b : Int} (h : a = b) : Ending.returned (.int k a) = .returned (.int k b) := by rw [h]

/-- what is wrong with an instruction by itself -/
def wrg (r : KR) (ok : Bool) (K : Int) (l : List Int) (n : Int) : Int :=
  if ok = false then 2 else if r.kind = 8 ∧ r.x = false ∧ (r.o = 3 ∨ r.o = 4) ∧ K = 0 then 3 else if r.kind = 8 ∧ r.x = false ∧ 8 ≤ r.o ∧ 31 < K then 4
  else if (r.kind = 3 ∨ r.kind = 6) ∧ 16 ≤ K then 5 else if (r.kind = 10 ∨ r.kind = 11) ∧ l.any (fun x => decide (n ≤ x)) = true then 6 else 0

def wrong (q : Nat → Int) (n i : Nat) : Int := wrg (kd (q (4 * i))) (okk (q (4 * i))) (q (4 * i + 3)) (nx q i) n

set_option maxRecDepth 100000 in
set_option maxHeartbeats 1000000 in
theorem wrong_bad (b off n c i : Nat) (q : Nat → Int) (w : World) (hi : i < n) (hn : n ≤ 1000000) (hq : Num q) (h : Row w .i64 b off (4 * n) q)
    (hok : okk (q (4 * i)) = false) :
    Calls Tryd.prog 16 #[.slice (some ⟨b, off, none⟩) n c, .int .i64 i] w fun e w' => e = .returned (.int .i64 (wrong q n i)) ∧ w.grownBy w' none := by
  obtain ⟨c0, c1, c2, c3⟩ := h.insn hi
  have z3 := hq (4 * i + 3)
  have HE : Hid (wrong q n i = 2) := by unfold Hid wrong wrg; simp [hok]
  clear h
  go_enter Tryd.func16, Tryd.ntmps16
  go_wp2_with (first | (go_at_call 17; refine (kind_at _ _).mono ?_; rintro e w1 ⟨rfl, hg1⟩; obtain ⟨x0, x1, x2, x3⟩ := box_four hg1 (by simp); have hz := alloc_lt hg1) | fail)
  go_ret
  exact ⟨ret_int HE.out.symm, grown_alloc (grown_trans (grown_alloc (grown_refl w none) _) hg1) _⟩

set_option maxRecDepth 100000 in
set_option maxHeartbeats 1000000 in
theorem wrong_div3z (b off n c i : Nat) (q : Nat → Int) (w : World) (hi : i < n) (hn : n ≤ 1000000) (hq : Num q) (h : Row w .i64 b off (4 * n) q)
    (hok : okk (q (4 * i)) = true)
    (hk : (kd (q (4 * i))).kind = 8)
    (hx : (kd (q (4 * i))).x = false)
    (ho : (kd (q (4 * i))).o = 3)
    (hK : q (4 * i + 3) = 0) :
    Calls Tryd.prog 16 #[.slice (some ⟨b, off, none⟩) n c, .int .i64 i] w fun e w' => e = .returned (.int .i64 (wrong q n i)) ∧ w.grownBy w' none := by
  obtain ⟨c0, c1, c2, c3⟩ := h.insn hi
  have z3 := hq (4 * i + 3)
  have HE : Hid (wrong q n i = 3) := by unfold Hid wrong wrg; simp [hok, hk, hx, ho, hK]
  have t8 : ((kd (q (4 * i))).kind == 8) = true := by simp [hk]
  have t3 : ((kd (q (4 * i))).kind == 3) = false := by simp [hk]
  have t6 : ((kd (q (4 * i))).kind == 6) = false := by simp [hk]
  have t10 : ((kd (q (4 * i))).kind == 10) = false := by simp [hk]
  have t11 : ((kd (q (4 * i))).kind == 11) = false := by simp [hk]
  have o3 : ((kd (q (4 * i))).o == 3) = true := by simp [ho]
  have o4 : ((kd (q (4 * i))).o == 4) = false := by simp [ho]
  have o8 : decide (8 ≤ (kd (q (4 * i))).o) = false := by simp [ho]
  have kz : (q (4 * i + 3) == 0) = true := by simp [hK]
  clear hk ho hK
  clear h
  go_enter Tryd.func16, Tryd.ntmps16
  go_wp2_with (first | (go_at_call 17; refine (kind_at _ _).mono ?_; rintro e w1 ⟨rfl, hg1⟩; obtain ⟨x0, x1, x2, x3⟩ := box_four hg1 (by simp); have hz := alloc_lt hg1) | fail)
  go_ret
  exact ⟨ret_int HE.out.symm, grown_alloc (grown_trans (grown_alloc (grown_refl w none) _) hg1) _⟩

set_option maxRecDepth 100000 in
set_option maxHeartbeats 1000000 in
theorem wrong_div3 (b off n c i : Nat) (q : Nat → Int) (w : World) (hi : i < n) (hn : n ≤ 1000000) (hq : Num q) (h : Row w .i64 b off (4 * n) q)
    (hok : okk (q (4 * i)) = true)
    (hk : (kd (q (4 * i))).kind = 8)
    (hx : (kd (q (4 * i))).x = false)
    (ho : (kd (q (4 * i))).o = 3)
    (hK : q (4 * i + 3) ≠ 0) :
    Calls Tryd.prog 16 #[.slice (some ⟨b, off, none⟩) n c, .int .i64 i] w fun e w' => e = .returned (.int .i64 (wrong q n i)) ∧ w.grownBy w' none := by
  obtain ⟨c0, c1, c2, c3⟩ := h.insn hi
  have z3 := hq (4 * i + 3)
  have HE : Hid (wrong q n i = 0) := by unfold Hid wrong wrg; simp [hok, hk, hx, ho, hK]
  have t8 : ((kd (q (4 * i))).kind == 8) = true := by simp [hk]
  have t3 : ((kd (q (4 * i))).kind == 3) = false := by simp [hk]
  have t6 : ((kd (q (4 * i))).kind == 6) = false := by simp [hk]
  have t10 : ((kd (q (4 * i))).kind == 10) = false := by simp [hk]
  have t11 : ((kd (q (4 * i))).kind == 11) = false := by simp [hk]
  have o3 : ((kd (q (4 * i))).o == 3) = true := by simp [ho]
  have o4 : ((kd (q (4 * i))).o == 4) = false := by simp [ho]
  have o8 : decide (8 ≤ (kd (q (4 * i))).o) = false := by simp [ho]
  have kz : (q (4 * i + 3) == 0) = false := by simp [hK]
  clear hk ho hK
  clear h
  go_enter Tryd.func16, Tryd.ntmps16
  go_wp2_with (first | (go_at_call 17; refine (kind_at _ _).mono ?_; rintro e w1 ⟨rfl, hg1⟩; obtain ⟨x0, x1, x2, x3⟩ := box_four hg1 (by simp); have hz := alloc_lt hg1) | fail)
  go_ret
  exact ⟨ret_int HE.out.symm, grown_alloc (grown_trans (grown_alloc (grown_refl w none) _) hg1) _⟩

set_option maxRecDepth 100000 in
set_option maxHeartbeats 1000000 in
theorem wrong_div4z (b off n c i : Nat) (q : Nat → Int) (w : World) (hi : i < n) (hn : n ≤ 1000000) (hq : Num q) (h : Row w .i64 b off (4 * n) q)
    (hok : okk (q (4 * i)) = true)
    (hk : (kd (q (4 * i))).kind = 8)
    (hx : (kd (q (4 * i))).x = false)
    (ho : (kd (q (4 * i))).o = 4)
    (hK : q (4 * i + 3) = 0) :
    Calls Tryd.prog 16 #[.slice (some ⟨b, off, none⟩) n c, .int .i64 i] w fun e w' => e = .returned (.int .i64 (wrong q n i)) ∧ w.grownBy w' none := by
  obtain ⟨c0, c1, c2, c3⟩ := h.insn hi
  have z3 := hq (4 * i + 3)
  have HE : Hid (wrong q n i = 3) := by unfold Hid wrong wrg; simp [hok, hk, hx, ho, hK]
  have t8 : ((kd (q (4 * i))).kind == 8) = true := by simp [hk]
  have t3 : ((kd (q (4 * i))).kind == 3) = false := by simp [hk]
  have t6 : ((kd (q (4 * i))).kind == 6) = false := by simp [hk]
  have t10 : ((kd (q (4 * i))).kind == 10) = false := by simp [hk]
  have t11 : ((kd (q (4 * i))).kind == 11) = false := by simp [hk]
  have o3 : ((kd (q (4 * i))).o == 3) = false := by simp [ho]
  have o4 : ((kd (q (4 * i))).o == 4) = true := by simp [ho]
  have o8 : decide (8 ≤ (kd (q (4 * i))).o) = false := by simp [ho]
  have kz : (q (4 * i + 3) == 0) = true := by simp [hK]
  clear hk ho hK
  clear h
  go_enter Tryd.func16, Tryd.ntmps16
  go_wp2_with (first | (go_at_call 17; refine (kind_at _ _).mono ?_; rintro e w1 ⟨rfl, hg1⟩; obtain ⟨x0, x1, x2, x3⟩ := box_four hg1 (by simp); have hz := alloc_lt hg1) | fail)
  go_ret
  exact ⟨ret_int HE.out.symm, grown_alloc (grown_trans (grown_alloc (grown_refl w none) _) hg1) _⟩

set_option maxRecDepth 100000 in
set_option maxHeartbeats 1000000 in
theorem wrong_div4 (b off n c i : Nat) (q : Nat → Int) (w : World) (hi : i < n) (hn : n ≤ 1000000) (hq : Num q) (h : Row w .i64 b off (4 * n) q)
    (hok : okk (q (4 * i)) = true)
    (hk : (kd (q (4 * i))).kind = 8)
    (hx : (kd (q (4 * i))).x = false)
    (ho : (kd (q (4 * i))).o = 4)
    (hK : q (4 * i + 3) ≠ 0) :
    Calls Tryd.prog 16 #[.slice (some ⟨b, off, none⟩) n c, .int .i64 i] w fun e w' => e = .returned (.int .i64 (wrong q n i)) ∧ w.grownBy w' none := by
  obtain ⟨c0, c1, c2, c3⟩ := h.insn hi
  have z3 := hq (4 * i + 3)
  have HE : Hid (wrong q n i = 0) := by unfold Hid wrong wrg; simp [hok, hk, hx, ho, hK]
  have t8 : ((kd (q (4 * i))).kind == 8) = true := by simp [hk]
  have t3 : ((kd (q (4 * i))).kind == 3) = false := by simp [hk]
  have t6 : ((kd (q (4 * i))).kind == 6) = false := by simp [hk]
  have t10 : ((kd (q (4 * i))).kind == 10) = false := by simp [hk]
  have t11 : ((kd (q (4 * i))).kind == 11) = false := by simp [hk]
  have o3 : ((kd (q (4 * i))).o == 3) = false := by simp [ho]
  have o4 : ((kd (q (4 * i))).o == 4) = true := by simp [ho]
  have o8 : decide (8 ≤ (kd (q (4 * i))).o) = false := by simp [ho]
  have kz : (q (4 * i + 3) == 0) = false := by simp [hK]
  clear hk ho hK
  clear h
  go_enter Tryd.func16, Tryd.ntmps16
  go_wp2_with (first | (go_at_call 17; refine (kind_at _ _).mono ?_; rintro e w1 ⟨rfl, hg1⟩; obtain ⟨x0, x1, x2, x3⟩ := box_four hg1 (by simp); have hz := alloc_lt hg1) | fail)
  go_ret
  exact ⟨ret_int HE.out.symm, grown_alloc (grown_trans (grown_alloc (grown_refl w none) _) hg1) _⟩

set_option maxRecDepth 100000 in
set_option maxHeartbeats 1000000 in
theorem wrong_shf (b off n c i : Nat) (q : Nat → Int) (w : World) (hi : i < n) (hn : n ≤ 1000000) (hq : Num q) (h : Row w .i64 b off (4 * n) q)
    (hok : okk (q (4 * i)) = true)
    (hk : (kd (q (4 * i))).kind = 8)
    (hx : (kd (q (4 * i))).x = false)
    (ho3 : (kd (q (4 * i))).o ≠ 3)
    (ho4 : (kd (q (4 * i))).o ≠ 4)
    (ho8 : 8 ≤ (kd (q (4 * i))).o)
    (hK : 31 < q (4 * i + 3)) :
    Calls Tryd.prog 16 #[.slice (some ⟨b, off, none⟩) n c, .int .i64 i] w fun e w' => e = .returned (.int .i64 (wrong q n i)) ∧ w.grownBy w' none := by
  obtain ⟨c0, c1, c2, c3⟩ := h.insn hi
  have z3 := hq (4 * i + 3)
  have HE : Hid (wrong q n i = 4) := by unfold Hid wrong wrg; simp [hok, hk, hx, ho3, ho4, ho8, hK]
  have t8 : ((kd (q (4 * i))).kind == 8) = true := by simp [hk]
  have t3 : ((kd (q (4 * i))).kind == 3) = false := by simp [hk]
  have t6 : ((kd (q (4 * i))).kind == 6) = false := by simp [hk]
  have t10 : ((kd (q (4 * i))).kind == 10) = false := by simp [hk]
  have t11 : ((kd (q (4 * i))).kind == 11) = false := by simp [hk]
  have o3 : ((kd (q (4 * i))).o == 3) = false := by simp [ho3]
  have o4 : ((kd (q (4 * i))).o == 4) = false := by simp [ho4]
  have o8 : decide (8 ≤ (kd (q (4 * i))).o) = true := by simp [ho8]
  clear hk ho3 ho4
  clear h
  go_enter Tryd.func16, Tryd.ntmps16
  go_wp2_with (first | (go_at_call 17; refine (kind_at _ _).mono ?_; rintro e w1 ⟨rfl, hg1⟩; obtain ⟨x0, x1, x2, x3⟩ := box_four hg1 (by simp); have hz := alloc_lt hg1) | fail)
  go_ret
  exact ⟨ret_int HE.out.symm, grown_alloc (grown_trans (grown_alloc (grown_refl w none) _) hg1) _⟩

set_option maxRecDepth 100000 in
set_option maxHeartbeats 1000000 in
theorem wrong_sho (b off n c i : Nat) (q : Nat → Int) (w : World) (hi : i < n) (hn : n ≤ 1000000) (hq : Num q) (h : Row w .i64 b off (4 * n) q)
    (hok : okk (q (4 * i)) = true)
    (hk : (kd (q (4 * i))).kind = 8)
    (hx : (kd (q (4 * i))).x = false)
    (ho3 : (kd (q (4 * i))).o ≠ 3)
    (ho4 : (kd (q (4 * i))).o ≠ 4)
    (ho8 : 8 ≤ (kd (q (4 * i))).o)
    (hK : ¬ 31 < q (4 * i + 3)) :
    Calls Tryd.prog 16 #[.slice (some ⟨b, off, none⟩) n c, .int .i64 i] w fun e w' => e = .returned (.int .i64 (wrong q n i)) ∧ w.grownBy w' none := by
  obtain ⟨c0, c1, c2, c3⟩ := h.insn hi
  have z3 := hq (4 * i + 3)
  have HE : Hid (wrong q n i = 0) := by unfold Hid wrong wrg; simp [hok, hk, hx, ho3, ho4, ho8, hK]
  have t8 : ((kd (q (4 * i))).kind == 8) = true := by simp [hk]
  have t3 : ((kd (q (4 * i))).kind == 3) = false := by simp [hk]
  have t6 : ((kd (q (4 * i))).kind == 6) = false := by simp [hk]
  have t10 : ((kd (q (4 * i))).kind == 10) = false := by simp [hk]
  have t11 : ((kd (q (4 * i))).kind == 11) = false := by simp [hk]
  have o3 : ((kd (q (4 * i))).o == 3) = false := by simp [ho3]
  have o4 : ((kd (q (4 * i))).o == 4) = false := by simp [ho4]
  have o8 : decide (8 ≤ (kd (q (4 * i))).o) = true := by simp [ho8]
  have kz : decide (31 < q (4 * i + 3)) = false := by simp; omega
  clear hk ho3 ho4
  clear h
  go_enter Tryd.func16, Tryd.ntmps16
  go_wp2_with (first | (go_at_call 17; refine (kind_at _ _).mono ?_; rintro e w1 ⟨rfl, hg1⟩; obtain ⟨x0, x1, x2, x3⟩ := box_four hg1 (by simp); have hz := alloc_lt hg1) | fail)
  go_ret
  exact ⟨ret_int HE.out.symm, grown_alloc (grown_trans (grown_alloc (grown_refl w none) _) hg1) _⟩

set_option maxRecDepth 100000 in
set_option maxHeartbeats 1000000 in
theorem wrong_sum (b off n c i : Nat) (q : Nat → Int) (w : World) (hi : i < n) (hn : n ≤ 1000000) (hq : Num q) (h : Row w .i64 b off (4 * n) q)
    (hok : okk (q (4 * i)) = true)
    (hk : (kd (q (4 * i))).kind = 8)
    (hx : (kd (q (4 * i))).x = false)
    (ho3 : (kd (q (4 * i))).o ≠ 3)
    (ho4 : (kd (q (4 * i))).o ≠ 4)
    (ho8 : ¬ 8 ≤ (kd (q (4 * i))).o) :
    Calls Tryd.prog 16 #[.slice (some ⟨b, off, none⟩) n c, .int .i64 i] w fun e w' => e = .returned (.int .i64 (wrong q n i)) ∧ w.grownBy w' none := by
  obtain ⟨c0, c1, c2, c3⟩ := h.insn hi
  have z3 := hq (4 * i + 3)
  have HE : Hid (wrong q n i = 0) := by unfold Hid wrong wrg; simp [hok, hk, hx, ho3, ho4, ho8]
  have t8 : ((kd (q (4 * i))).kind == 8) = true := by simp [hk]
  have t3 : ((kd (q (4 * i))).kind == 3) = false := by simp [hk]
  have t6 : ((kd (q (4 * i))).kind == 6) = false := by simp [hk]
  have t10 : ((kd (q (4 * i))).kind == 10) = false := by simp [hk]
  have t11 : ((kd (q (4 * i))).kind == 11) = false := by simp [hk]
  have o3 : ((kd (q (4 * i))).o == 3) = false := by simp [ho3]
  have o4 : ((kd (q (4 * i))).o == 4) = false := by simp [ho4]
  have o8 : decide (8 ≤ (kd (q (4 * i))).o) = false := by simp; omega
  clear hk ho3 ho4
  clear h
  go_enter Tryd.func16, Tryd.ntmps16
  go_wp2_with (first | (go_at_call 17; refine (kind_at _ _).mono ?_; rintro e w1 ⟨rfl, hg1⟩; obtain ⟨x0, x1, x2, x3⟩ := box_four hg1 (by simp); have hz := alloc_lt hg1) | fail)
  go_ret
  exact ⟨ret_int HE.out.symm, grown_alloc (grown_trans (grown_alloc (grown_refl w none) _) hg1) _⟩

set_option maxRecDepth 100000 in
set_option maxHeartbeats 1000000 in
theorem wrong_sumx (b off n c i : Nat) (q : Nat → Int) (w : World) (hi : i < n) (hn : n ≤ 1000000) (hq : Num q) (h : Row w .i64 b off (4 * n) q)
    (hok : okk (q (4 * i)) = true)
    (hk : (kd (q (4 * i))).kind = 8)
    (hx : (kd (q (4 * i))).x = true) :
    Calls Tryd.prog 16 #[.slice (some ⟨b, off, none⟩) n c, .int .i64 i] w fun e w' => e = .returned (.int .i64 (wrong q n i)) ∧ w.grownBy w' none := by
  obtain ⟨c0, c1, c2, c3⟩ := h.insn hi
  have z3 := hq (4 * i + 3)
  have HE : Hid (wrong q n i = 0) := by unfold Hid wrong wrg; simp [hok, hk, hx]
  have t8 : ((kd (q (4 * i))).kind == 8) = true := by simp [hk]
  have t3 : ((kd (q (4 * i))).kind == 3) = false := by simp [hk]
  have t6 : ((kd (q (4 * i))).kind == 6) = false := by simp [hk]
  have t10 : ((kd (q (4 * i))).kind == 10) = false := by simp [hk]
  have t11 : ((kd (q (4 * i))).kind == 11) = false := by simp [hk]
  clear hk
  clear h
  go_enter Tryd.func16, Tryd.ntmps16
  go_wp2_with (first | (go_at_call 17; refine (kind_at _ _).mono ?_; rintro e w1 ⟨rfl, hg1⟩; obtain ⟨x0, x1, x2, x3⟩ := box_four hg1 (by simp); have hz := alloc_lt hg1) | fail)
  go_ret
  exact ⟨ret_int HE.out.symm, grown_alloc (grown_trans (grown_alloc (grown_refl w none) _) hg1) _⟩

set_option maxRecDepth 100000 in
set_option maxHeartbeats 1000000 in
theorem wrong_cell3b (b off n c i : Nat) (q : Nat → Int) (w : World) (hi : i < n) (hn : n ≤ 1000000) (hq : Num q) (h : Row w .i64 b off (4 * n) q)
    (hok : okk (q (4 * i)) = true)
    (hk : (kd (q (4 * i))).kind = 3)
    (hK : 16 ≤ q (4 * i + 3)) :
    Calls Tryd.prog 16 #[.slice (some ⟨b, off, none⟩) n c, .int .i64 i] w fun e w' => e = .returned (.int .i64 (wrong q n i)) ∧ w.grownBy w' none := by
  obtain ⟨c0, c1, c2, c3⟩ := h.insn hi
  have z3 := hq (4 * i + 3)
  have HE : Hid (wrong q n i = 5) := by unfold Hid wrong wrg; simp [hok, hk, hK]
  have t8 : ((kd (q (4 * i))).kind == 8) = false := by simp [hk]
  have t3 : ((kd (q (4 * i))).kind == 3) = true := by simp [hk]
  have t6 : ((kd (q (4 * i))).kind == 6) = false := by simp [hk]
  have t10 : ((kd (q (4 * i))).kind == 10) = false := by simp [hk]
  have t11 : ((kd (q (4 * i))).kind == 11) = false := by simp [hk]
  clear hk
  clear h
  go_enter Tryd.func16, Tryd.ntmps16
  go_wp2_with (first | (go_at_call 17; refine (kind_at _ _).mono ?_; rintro e w1 ⟨rfl, hg1⟩; obtain ⟨x0, x1, x2, x3⟩ := box_four hg1 (by simp); have hz := alloc_lt hg1) | fail)
  go_ret
  exact ⟨ret_int HE.out.symm, grown_alloc (grown_trans (grown_alloc (grown_refl w none) _) hg1) _⟩

set_option maxRecDepth 100000 in
set_option maxHeartbeats 1000000 in
theorem wrong_cell3 (b off n c i : Nat) (q : Nat → Int) (w : World) (hi : i < n) (hn : n ≤ 1000000) (hq : Num q) (h : Row w .i64 b off (4 * n) q)
    (hok : okk (q (4 * i)) = true)
    (hk : (kd (q (4 * i))).kind = 3)
    (hK : ¬ 16 ≤ q (4 * i + 3)) :
    Calls Tryd.prog 16 #[.slice (some ⟨b, off, none⟩) n c, .int .i64 i] w fun e w' => e = .returned (.int .i64 (wrong q n i)) ∧ w.grownBy w' none := by
  obtain ⟨c0, c1, c2, c3⟩ := h.insn hi
  have z3 := hq (4 * i + 3)
  have HE : Hid (wrong q n i = 0) := by unfold Hid wrong wrg; simp [hok, hk, hK]
  have t8 : ((kd (q (4 * i))).kind == 8) = false := by simp [hk]
  have t3 : ((kd (q (4 * i))).kind == 3) = true := by simp [hk]
  have t6 : ((kd (q (4 * i))).kind == 6) = false := by simp [hk]
  have t10 : ((kd (q (4 * i))).kind == 10) = false := by simp [hk]
  have t11 : ((kd (q (4 * i))).kind == 11) = false := by simp [hk]
  have kz : decide (16 ≤ q (4 * i + 3)) = false := by simp; omega
  clear hk
  clear h
  go_enter Tryd.func16, Tryd.ntmps16
  go_wp2_with (first | (go_at_call 17; refine (kind_at _ _).mono ?_; rintro e w1 ⟨rfl, hg1⟩; obtain ⟨x0, x1, x2, x3⟩ := box_four hg1 (by simp); have hz := alloc_lt hg1) | fail)
  go_ret
  exact ⟨ret_int HE.out.symm, grown_alloc (grown_trans (grown_alloc (grown_refl w none) _) hg1) _⟩

set_option maxRecDepth 100000 in
set_option maxHeartbeats 1000000 in
theorem wrong_cell6b (b off n c i : Nat) (q : Nat → Int) (w : World) (hi : i < n) (hn : n ≤ 1000000) (hq : Num q) (h : Row w .i64 b off (4 * n) q)
    (hok : okk (q (4 * i)) = true)
    (hk : (kd (q (4 * i))).kind = 6)
    (hK : 16 ≤ q (4 * i + 3)) :
    Calls Tryd.prog 16 #[.slice (some ⟨b, off, none⟩) n c, .int .i64 i] w fun e w' => e = .returned (.int .i64 (wrong q n i)) ∧ w.grownBy w' none := by
  obtain ⟨c0, c1, c2, c3⟩ := h.insn hi
  have z3 := hq (4 * i + 3)
  have HE : Hid (wrong q n i = 5) := by unfold Hid wrong wrg; simp [hok, hk, hK]
  have t8 : ((kd (q (4 * i))).kind == 8) = false := by simp [hk]
  have t3 : ((kd (q (4 * i))).kind == 3) = false := by simp [hk]
  have t6 : ((kd (q (4 * i))).kind == 6) = true := by simp [hk]
  have t10 : ((kd (q (4 * i))).kind == 10) = false := by simp [hk]
  have t11 : ((kd (q (4 * i))).kind == 11) = false := by simp [hk]
  clear hk
  clear h
  go_enter Tryd.func16, Tryd.ntmps16
  go_wp2_with (first | (go_at_call 17; refine (kind_at _ _).mono ?_; rintro e w1 ⟨rfl, hg1⟩; obtain ⟨x0, x1, x2, x3⟩ := box_four hg1 (by simp); have hz := alloc_lt hg1) | fail)
  go_ret
  exact ⟨ret_int HE.out.symm, grown_alloc (grown_trans (grown_alloc (grown_refl w none) _) hg1) _⟩

set_option maxRecDepth 100000 in
set_option maxHeartbeats 1000000 in
theorem wrong_cell6 (b off n c i : Nat) (q : Nat → Int) (w : World) (hi : i < n) (hn : n ≤ 1000000) (hq : Num q) (h : Row w .i64 b off (4 * n) q)
    (hok : okk (q (4 * i)) = true)
    (hk : (kd (q (4 * i))).kind = 6)
    (hK : ¬ 16 ≤ q (4 * i + 3)) :
    Calls Tryd.prog 16 #[.slice (some ⟨b, off, none⟩) n c, .int .i64 i] w fun e w' => e = .returned (.int .i64 (wrong q n i)) ∧ w.grownBy w' none := by
  obtain ⟨c0, c1, c2, c3⟩ := h.insn hi
  have z3 := hq (4 * i + 3)
  have HE : Hid (wrong q n i = 0) := by unfold Hid wrong wrg; simp [hok, hk, hK]
  have t8 : ((kd (q (4 * i))).kind == 8) = false := by simp [hk]
  have t3 : ((kd (q (4 * i))).kind == 3) = false := by simp [hk]
  have t6 : ((kd (q (4 * i))).kind == 6) = true := by simp [hk]
  have t10 : ((kd (q (4 * i))).kind == 10) = false := by simp [hk]
  have t11 : ((kd (q (4 * i))).kind == 11) = false := by simp [hk]
  have kz : decide (16 ≤ q (4 * i + 3)) = false := by simp; omega
  clear hk
  clear h
  go_enter Tryd.func16, Tryd.ntmps16
  go_wp2_with (first | (go_at_call 17; refine (kind_at _ _).mono ?_; rintro e w1 ⟨rfl, hg1⟩; obtain ⟨x0, x1, x2, x3⟩ := box_four hg1 (by simp); have hz := alloc_lt hg1) | fail)
  go_ret
  exact ⟨ret_int HE.out.symm, grown_alloc (grown_trans (grown_alloc (grown_refl w none) _) hg1) _⟩

set_option maxRecDepth 100000 in
set_option maxHeartbeats 1000000 in
theorem wrong_plain (b off n c i : Nat) (q : Nat → Int) (w : World) (hi : i < n) (hn : n ≤ 1000000) (hq : Num q) (h : Row w .i64 b off (4 * n) q)
    (hok : okk (q (4 * i)) = true)
    (h8 : (kd (q (4 * i))).kind ≠ 8)
    (h3 : (kd (q (4 * i))).kind ≠ 3)
    (h6 : (kd (q (4 * i))).kind ≠ 6)
    (h10 : (kd (q (4 * i))).kind ≠ 10)
    (h11 : (kd (q (4 * i))).kind ≠ 11) :
    Calls Tryd.prog 16 #[.slice (some ⟨b, off, none⟩) n c, .int .i64 i] w fun e w' => e = .returned (.int .i64 (wrong q n i)) ∧ w.grownBy w' none := by
  obtain ⟨c0, c1, c2, c3⟩ := h.insn hi
  have z3 := hq (4 * i + 3)
  have HE : Hid (wrong q n i = 0) := by unfold Hid wrong wrg; simp [hok, h8, h3, h6, h10, h11]
  have t8 : ((kd (q (4 * i))).kind == 8) = false := by simp [h8]
  have t3 : ((kd (q (4 * i))).kind == 3) = false := by simp [h3]
  have t6 : ((kd (q (4 * i))).kind == 6) = false := by simp [h6]
  have t10 : ((kd (q (4 * i))).kind == 10) = false := by simp [h10]
  have t11 : ((kd (q (4 * i))).kind == 11) = false := by simp [h11]
  clear h8 h3 h6 h10 h11
  clear h
  go_enter Tryd.func16, Tryd.ntmps16
  go_wp2_with (first | (go_at_call 17; refine (kind_at _ _).mono ?_; rintro e w1 ⟨rfl, hg1⟩; obtain ⟨x0, x1, x2, x3⟩ := box_four hg1 (by simp); have hz := alloc_lt hg1) | fail)
  go_ret
  exact ⟨ret_int HE.out.symm, grown_alloc (grown_trans (grown_alloc (grown_refl w none) _) hg1) _⟩

end Go.Proofs.YthbcfepbkkbjiaaDoor
