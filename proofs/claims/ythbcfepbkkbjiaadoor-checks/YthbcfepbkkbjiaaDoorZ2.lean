/- The walks of package check's small functions. -/
import Derived.Test.YthbcfepbkkbjiaaDoorZ1
import Derived.Test.YthbcfepbkkbjiaaDoorV5
import Derived.BigQuiet
import Derived.Deep.QuietTactic
namespace Go.Proofs.YthbcfepbkkbjiaaDoor
open Go.RowKit
set_option linter.unusedVariables false

/-- The row that is being checked: its instructions, the kinds, the error that all faults have in common. -/
def RowS (w : World) (R B n cap MB : Nat) (bad : Value) (q : Nat → Int) : Prop :=
  w.heap[R]? = some (.cells #[.slice (some ⟨B, 0, none⟩) n cap, .map (some MB), bad] 82 (0, 0)) ∧ Row w .i64 B 0 (4 * n) q ∧ IMap w MB kmap

theorem RowS.keep {w w' : World} {R B n cap MB : Nat} {bad : Value} {q : Nat → Int} (h : RowS w R B n cap MB bad q) (hg : w.grownBy w' none) : RowS w' R B n cap MB bad q :=
  ⟨by rw [hg.block R (Array.getElem?_eq_some_iff.1 h.1).1 (by simp)]; exact h.1, h.2.1.keep hg (by simp), h.2.2.keep hg (by simp)⟩

theorem RowS.cells {w : World} {R B n cap MB : Nat} {bad : Value} {q : Nat → Int} (h : RowS w R B n cap MB bad q) :
    w.cell? ⟨R, 0, none⟩ = some (.slice (some ⟨B, 0, none⟩) n cap) ∧ w.cell? ⟨R, 1, none⟩ = some (.map (some MB)) ∧ w.cell? ⟨R, 2, none⟩ = some bad :=
  ⟨cell_of_row w R 0 _ _ (0, 0) h.1, cell_of_row w R 1 _ _ (0, 0) h.1, cell_of_row w R 2 _ _ (0, 0) h.1⟩

theorem kmap_get (C : Int) : (kmap C).getD (.int .i64 0) = .int .i64 ((kd C).cls : Int) := by
  unfold kmap kd
  cases look C with
  | none => rfl
  | some r => rfl

theorem Tryd.zeroKind (w : World) : (zeroValue 105).run Tryd.prog w = .ok (.int .i64 0) w := by kernel_rfl

set_option maxRecDepth 100000 in
set_option maxHeartbeats 1000000 in
theorem pkind_any (R B n cap MB i : Nat) (bad : Value) (q : Nat → Int) (w : World) (hi : i < n) (hn : n ≤ 1000000) (h : RowS w R B n cap MB bad q) :
    Calls Tryd.prog 44 #[.pointer (some ⟨R, 0, none⟩), .int .i64 i] w fun e w' => e = .returned (.int .i64 ((kd (q (4 * i))).cls : Int)) ∧ w.grownBy w' none := by
  obtain ⟨r0, r1, _⟩ := h.cells
  obtain ⟨c0, c1, c2, c3⟩ := h.2.1.insn hi
  rw [Nat.zero_add] at c0 c1 c2 c3
  have hl : ∀ m, (Instr.lookup 79 (.map (some MB)) (.int .i64 (q (4 * i))) false).run Tryd.prog (w.drewN m) = .ok (.int .i64 ((kd (q (4 * i))).cls : Int)) (w.drewN m) := fun m => by
    have := (h.2.2.same (w' := w.drewN m) rfl).look (P := Tryd.prog) Tryd.underlying79 Tryd.underlying3 (Tryd.zeroKind _) (q (4 * i)) false
    rw [this, kmap_get]; rfl
  have hl0 := hl 0
  have t1 : (i : Int) < (n : Int) := by omega
  clear h
  go_enter Tryd.func44, Tryd.ntmps44
  go_wp2
  go_quiet (fail)
  go_wp2
  go_ret
  exact ⟨rfl, grown_drewN _ _ _⟩

theorem when_any (b : Bool) (c : Int) (w : World) : Calls Tryd.prog 51 #[.bool b, .int .i64 c] w fun e w' => e = .returned (.int .i64 (if b then c else 0)) ∧ w' = w := by
  cases b
  · go_enter Tryd.func51, Tryd.ntmps51
    go_wp2
    go_ret
    exact ⟨rfl, rfl⟩
  · go_enter Tryd.func51, Tryd.ntmps51
    go_wp2
    go_ret
    exact ⟨rfl, rfl⟩

theorem last_any (R B n cap MB : Nat) (bad : Value) (q : Nat → Int) (w : World) (hn1 : 1 ≤ n) (hn : n ≤ 1000000) (h : RowS w R B n cap MB bad q) :
    Calls Tryd.prog 45 #[.pointer (some ⟨R, 0, none⟩)] w fun e w' => e = .returned (.int .i64 ((n : Int) - 1)) ∧ w' = w := by
  obtain ⟨r0, r1, _⟩ := h.cells
  clear h
  go_enter Tryd.func45, Tryd.ntmps45
  go_wp2
  go_ret
  exact ⟨rfl, rfl⟩

/-- classes and kinds -/
theorem cls_kind (C : Int) : ((kd C).cls = 11 ↔ (kd C).kind = 12) ∧ ((kd C).cls = 9 ↔ (kd C).kind = 10) ∧ ((kd C).cls = 10 ↔ (kd C).kind = 11) ∧ ((kd C).cls = 3 ↔ (kd C).kind = 3) ∧ ((kd C).cls = 4 ↔ (kd C).kind = 6) ∧
    ((kd C).cls = 7 ↔ (kd C).kind = 8 ∧ (kd C).x = false ∧ ((kd C).o = 3 ∨ (kd C).o = 4)) ∧ ((kd C).cls = 8 ↔ (kd C).kind = 8 ∧ (kd C).x = false ∧ 8 ≤ (kd C).o) ∧ (kd C).cls ≤ 11 :=
  kd_all (fun r => (r.cls = 11 ↔ r.kind = 12) ∧ (r.cls = 9 ↔ r.kind = 10) ∧ (r.cls = 10 ↔ r.kind = 11) ∧ (r.cls = 3 ↔ r.kind = 3) ∧ (r.cls = 4 ↔ r.kind = 6) ∧
    (r.cls = 7 ↔ r.kind = 8 ∧ r.x = false ∧ (r.o = 3 ∨ r.o = 4)) ∧ (r.cls = 8 ↔ r.kind = 8 ∧ r.x = false ∧ 8 ≤ r.o) ∧ r.cls ≤ 11) (by decide) C (by simp)

set_option maxRecDepth 100000 in
set_option maxHeartbeats 1000000 in
theorem pnext_any (R B n cap MB i : Nat) (bad : Value) (q : Nat → Int) (w : World) (hi : i < n) (hn : n ≤ 1000000) (hq : Num q) (h : RowS w R B n cap MB bad q) :
    Calls Tryd.prog 47 #[.pointer (some ⟨R, 0, none⟩), .int .i64 i] w fun e w' => ∃ ao cc, e = .returned (.slice ao (nx q i).length cc) ∧ Src w' .i64 ao (nx q i).length (fun j => (nx q i).getD j 0) ∧ w.grownBy w' none := by
  obtain ⟨r0, r1, _⟩ := h.cells
  obtain ⟨c0, c1, c2, c3⟩ := h.2.1.insn hi
  rw [Nat.zero_add] at c0 c1 c2 c3
  obtain ⟨a8, a6, a7, _⟩ := cls_kind (q (4 * i))
  have z1 := hq (4 * i + 1)
  have z2 := hq (4 * i + 2)
  have z3 := hq (4 * i + 3)
  have t1 : (i : Int) < (n : Int) := by omega
  by_cases k12 : (kd (q (4 * i))).kind = 12
  · have t8 : (((kd (q (4 * i))).cls : Int) == 11) = true := by simp; have := a8.2 k12; omega
    rw [show nx q i = [] from if_pos k12]
    clear k12 a8 a6 a7
    go_enter Tryd.func47, Tryd.ntmps47
    go_wp2_with (go_at_call 44; refine (pkind_any R B n cap MB i bad q _ hi hn (h.keep (World.grownBy_alloc w _ none))).mono ?_; rintro e w1 ⟨rfl, hg1⟩; obtain ⟨x0, x1, x2, x3⟩ := box_four hg1 (by simp); have hz := alloc_lt hg1)
    go_ret
    exact ⟨none, 0, rfl, fun h => absurd h (by decide), grown_trans (grown_alloc (grown_refl w none) _) hg1⟩
  have t8 : (((kd (q (4 * i))).cls : Int) == 11) = false := by simp; exact fun e => k12 (a8.1 (by omega))
  by_cases k10 : (kd (q (4 * i))).kind = 10
  · have t6 : (((kd (q (4 * i))).cls : Int) == 9) = true := by simp; have := a6.2 k10; omega
    rw [show nx q i = [(i : Int) + 1 + q (4 * i + 3)] from (if_neg k12).trans (if_pos k10)]
    clear k12 k10 a8 a6 a7
    go_enter Tryd.func47, Tryd.ntmps47
    go_wp2_with (go_at_call 44; refine (pkind_any R B n cap MB i bad q _ hi hn (h.keep (World.grownBy_alloc w _ none))).mono ?_; rintro e w1 ⟨rfl, hg1⟩; obtain ⟨x0, x1, x2, x3⟩ := box_four hg1 (by simp); have hz := alloc_lt hg1)
    go_ret
    exact ⟨_, _, rfl, src_new1 _ _ _ _ (by simp), grown_alloc (grown_trans (grown_alloc (grown_refl w none) _) hg1) _⟩
  have t6 : (((kd (q (4 * i))).cls : Int) == 9) = false := by simp; exact fun e => k10 (a6.1 (by omega))
  by_cases k11 : (kd (q (4 * i))).kind = 11
  · have t7 : (((kd (q (4 * i))).cls : Int) == 10) = true := by simp; have := a7.2 k11; omega
    rw [show nx q i = [(i : Int) + 1 + q (4 * i + 1), (i : Int) + 1 + q (4 * i + 2)] from (if_neg k12).trans ((if_neg k10).trans (if_pos k11))]
    clear k12 k10 k11 a8 a6 a7
    go_enter Tryd.func47, Tryd.ntmps47
    go_wp2_with (go_at_call 44; refine (pkind_any R B n cap MB i bad q _ hi hn (h.keep (World.grownBy_alloc w _ none))).mono ?_; rintro e w1 ⟨rfl, hg1⟩; obtain ⟨x0, x1, x2, x3⟩ := box_four hg1 (by simp); have hz := alloc_lt hg1)
    go_ret
    exact ⟨_, _, rfl, src_new2 _ _ _ _ _ (by simp), grown_alloc (grown_trans (grown_alloc (grown_refl w none) _) hg1) _⟩
  · have t7 : (((kd (q (4 * i))).cls : Int) == 10) = false := by simp; exact fun e => k11 (a7.1 (by omega))
    rw [show nx q i = [(i : Int) + 1] from (if_neg k12).trans ((if_neg k10).trans (if_neg k11))]
    clear k12 k10 k11 a8 a6 a7
    go_enter Tryd.func47, Tryd.ntmps47
    go_wp2_with (go_at_call 44; refine (pkind_any R B n cap MB i bad q _ hi hn (h.keep (World.grownBy_alloc w _ none))).mono ?_; rintro e w1 ⟨rfl, hg1⟩; obtain ⟨x0, x1, x2, x3⟩ := box_four hg1 (by simp); have hz := alloc_lt hg1)
    go_ret
    exact ⟨_, _, rfl, src_new1 _ _ _ _ (by simp), grown_alloc (grown_trans (grown_alloc (grown_refl w none) _) hg1) _⟩

end Go.Proofs.YthbcfepbkkbjiaaDoor
