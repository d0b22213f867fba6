/- The walks of the reference's next, wrong. -/
import Derived.Test.YthbcfepbkkbjiaaDoorV3
import Derived.Test.YthbcfepbkkbjiaaDoorW5
namespace Go.Proofs.YthbcfepbkkbjiaaDoor
open Go.RowKit

theorem kind_at (C : Int) (w : World) :
    Calls Tryd.prog 17 #[.int .i64 C] w
      fun e w' => e = .returned (.tuple #[.agg #[.int .i64 (kd C).code, .int .i64 (kd C).kind, .int .i64 (kd C).n, .bool (kd C).x, .int .i64 (kd C).o], .bool (okk C)]) ∧ w.grownBy w' none := kind_any C w

/-- the places that may come behind one -/
def nx (q : Nat → Int) (i : Nat) : List Int :=
  if (kd (q (4 * i))).kind = 12 then [] else if (kd (q (4 * i))).kind = 10 then [(i : Int) + 1 + q (4 * i + 3)]
  else if (kd (q (4 * i))).kind = 11 then [(i : Int) + 1 + q (4 * i + 1), (i : Int) + 1 + q (4 * i + 2)] else [(i : Int) + 1]

/-- numbers of instructions -/
def Num (q : Nat → Int) : Prop := ∀ j, 0 ≤ q j ∧ q j ≤ 4294967295

theorem src_new1 (w : World) (x : Int) (e : TypeId) (B : Nat) (hB : B = w.heap.size) : Src (w.alloc (.cells #[.int .i64 x] e)) .i64 (some ⟨B, 0, none⟩) 1 (fun j => [x].getD j 0) := fun _ =>
  ⟨B, 0, rfl, fun j hj => by
    subst hB
    have : j = 0 := by omega
    subst this
    exact World.cell?_alloc_new _ _ _ _⟩

theorem src_new2 (w : World) (x y : Int) (e : TypeId) (B : Nat) (hB : B = w.heap.size) : Src (w.alloc (.cells #[.int .i64 x, .int .i64 y] e)) .i64 (some ⟨B, 0, none⟩) 2 (fun j => [x, y].getD j 0) := fun _ =>
  ⟨B, 0, rfl, fun j hj => by
    subst hB
    match j, hj with
    | 0, _ => exact World.cell?_alloc_new _ _ _ _
    | 1, _ => exact World.cell?_alloc_new _ _ _ _⟩

set_option maxRecDepth 100000 in
set_option maxHeartbeats 1000000 in
theorem next_any (b off n c i : Nat) (q : Nat → Int) (w : World) (hi : i < n) (hn : n ≤ 1000000) (hq : Num q) (h : Row w .i64 b off (4 * n) q) :
    Calls Tryd.prog 29 #[.slice (some ⟨b, off, none⟩) n c, .int .i64 i] w fun e w' => ∃ ao cc, e = .returned (.slice ao (nx q i).length cc) ∧ Src w' .i64 ao (nx q i).length (fun j => (nx q i).getD j 0) ∧ w.grownBy w' none := by
  obtain ⟨c0, c1, c2, c3⟩ := h.insn hi
  have z1 := hq (4 * i + 1)
  have z2 := hq (4 * i + 2)
  have z3 := hq (4 * i + 3)
  by_cases k12 : (kd (q (4 * i))).kind = 12
  · have t12 : ((kd (q (4 * i))).kind == 12) = true := by simp [k12]
    rw [show nx q i = [] from if_pos k12]
    clear k12 h
    go_enter Tryd.func29, Tryd.ntmps29
    go_wp2_with (go_at_call 17; refine (kind_at _ _).mono ?_; rintro e w1 ⟨rfl, hg1⟩; obtain ⟨x0, x1, x2, x3⟩ := box_four hg1 (by simp); have hz := alloc_lt hg1)
    go_ret
    exact ⟨none, 0, rfl, fun h => absurd h (by decide), grown_alloc (grown_trans (grown_alloc (grown_refl w none) _) hg1) _⟩
  have t12 : ((kd (q (4 * i))).kind == 12) = false := by simp [k12]
  by_cases k10 : (kd (q (4 * i))).kind = 10
  · have t10 : ((kd (q (4 * i))).kind == 10) = true := by simp [k10]
    rw [show nx q i = [(i : Int) + 1 + q (4 * i + 3)] from (if_neg k12).trans (if_pos k10)]
    clear k12 k10 h
    go_enter Tryd.func29, Tryd.ntmps29
    go_wp2_with (go_at_call 17; refine (kind_at _ _).mono ?_; rintro e w1 ⟨rfl, hg1⟩; obtain ⟨x0, x1, x2, x3⟩ := box_four hg1 (by simp); have hz := alloc_lt hg1)
    go_ret
    exact ⟨_, _, rfl, src_new1 _ _ _ _ (by simp), grown_alloc (grown_alloc (grown_trans (grown_alloc (grown_refl w none) _) hg1) _) _⟩
  have t10 : ((kd (q (4 * i))).kind == 10) = false := by simp [k10]
  by_cases k11 : (kd (q (4 * i))).kind = 11
  · have t11 : ((kd (q (4 * i))).kind == 11) = true := by simp [k11]
    rw [show nx q i = [(i : Int) + 1 + q (4 * i + 1), (i : Int) + 1 + q (4 * i + 2)] from (if_neg k12).trans ((if_neg k10).trans (if_pos k11))]
    clear k12 k10 k11 h
    go_enter Tryd.func29, Tryd.ntmps29
    go_wp2_with (go_at_call 17; refine (kind_at _ _).mono ?_; rintro e w1 ⟨rfl, hg1⟩; obtain ⟨x0, x1, x2, x3⟩ := box_four hg1 (by simp); have hz := alloc_lt hg1)
    go_ret
    exact ⟨_, _, rfl, src_new2 _ _ _ _ _ (by simp), grown_alloc (grown_alloc (grown_trans (grown_alloc (grown_refl w none) _) hg1) _) _⟩
  · have t11 : ((kd (q (4 * i))).kind == 11) = false := by simp [k11]
    rw [show nx q i = [(i : Int) + 1] from (if_neg k12).trans ((if_neg k10).trans (if_neg k11))]
    clear k12 k10 k11 h
    go_enter Tryd.func29, Tryd.ntmps29
    go_wp2_with (go_at_call 17; refine (kind_at _ _).mono ?_; rintro e w1 ⟨rfl, hg1⟩; obtain ⟨x0, x1, x2, x3⟩ := box_four hg1 (by simp); have hz := alloc_lt hg1)
    go_ret
    exact ⟨_, _, rfl, src_new1 _ _ _ _ (by simp), grown_alloc (grown_alloc (grown_trans (grown_alloc (grown_refl w none) _) hg1) _) _⟩

end Go.Proofs.YthbcfepbkkbjiaaDoor
