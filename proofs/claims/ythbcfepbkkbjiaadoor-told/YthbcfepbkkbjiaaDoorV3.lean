/- The walk of the reference's kind, at every code. -/
import Derived.Test.YthbcfepbkkbjiaaDoorV2
namespace Go.Proofs.YthbcfepbkkbjiaaDoor
open Go.RowKit

theorem other_ne {C : Int} (h : Other C) : (C == 32) = false ∧ (C == 40) = false ∧ (C == 48) = false ∧ (C == 64) = false ∧ (C == 72) = false ∧ (C == 80) = false ∧ (C == 0) = false ∧ (C == 1) = false ∧ (C == 96) = false ∧ (C == 97) = false ∧ (C == 128) = false ∧ (C == 129) = false ∧ (C == 177) = false ∧ (C == 2) = false ∧ (C == 3) = false ∧ (C == 7) = false ∧ (C == 135) = false ∧ (C == 132) = false ∧ (C == 5) = false ∧ (C == 6) = false ∧ (C == 22) = false := by
  unfold Other at h
  simp only [tab, List.take, List.mem_cons, List.not_mem_nil, or_false, forall_eq_or_imp, forall_eq] at h
  simp only [beq_eq_false_iff_ne]
  omega

theorem family_at (C : Int) (w : World) (hO : Other C) :
    Calls Tryd.prog 30 #[.agg #[.int .i64 C, .int .i64 0, .int .i64 0, .bool false, .int .i64 0]] w
      fun e w' => e = .returned (.tuple #[.agg #[.int .i64 (kd C).code, .int .i64 (kd C).kind, .int .i64 (kd C).n, .bool (kd C).x, .int .i64 (kd C).o], .bool (okk C)]) ∧ w.grownBy w' none := family_any C w hO

theorem two_below {w w1 : World} {o1 o2 : Obj} (h : ((w.alloc o1).alloc o2).grownBy w1 none) : w1.heap[w.heap.size]? = some o1 := by
  rw [h.block w.heap.size (by simp; omega) (by simp), Below.heap_alloc _ _ _ (by simp)]
  exact heap_top _ _ _ rfl

theorem fam_grown3 {w wr : World} (h : w.grownBy wr none) (v4 v5 v6 v7 v8 : Value) :
    w.grownBy (((((wr.setCell ⟨w.heap.size, 0, none⟩ v4).setCell ⟨w.heap.size, 1, none⟩ v5).setCell ⟨w.heap.size, 2, none⟩ v6).setCell ⟨w.heap.size, 3, none⟩ v7).setCell ⟨w.heap.size, 4, none⟩ v8) none :=
  grown_set (grown_set (grown_set (grown_set (grown_set h (Nat.le_refl _) _) (Nat.le_refl _) _) (Nat.le_refl _) _) (Nat.le_refl _) _) (Nat.le_refl _) _

set_option maxRecDepth 100000 in
set_option maxHeartbeats 1000000 in
theorem kind_other (C : Int) (w : World) (hO : Other C) :
    Calls Tryd.prog 17 #[.int .i64 C] w fun e w' => e = .returned (.tuple #[kv (kd C), .bool (okk C)]) ∧ w.grownBy w' none := by
  obtain ⟨h0, h1, h2, h3, h4, h5, h6, h7, h8, h9, h10, h11, h12, h13, h14, h15, h16, h17, h18, h19, h20⟩ := other_ne hO
  go_enter Tryd.func17, Tryd.ntmps17
  go_wp2_with (go_at_call 30; refine (family_at _ _ hO).mono ?_; rintro e w1 ⟨rfl, hg1⟩; obtain ⟨⟨b0, b1, b2, b3, b4⟩, fb⟩ := five (two_below hg1); have g0 := fb 0; have g1 := fb 1; have g2 := fb 2; have g3 := fb 3; have g4 := fb 4; clear fb)
  refine bodyPost_ret (v := .tuple #[kv (kd C), .bool (okk C)]) (by simp [results, Tryd.results17, go_sem, b0, b1, b2, b3, b4, kv]) rfl ⟨rfl, ?_⟩
  exact fam_grown3 (grown_trans (grown_alloc (grown_alloc (grown_refl w none) _) _) hg1) _ _ _ _ _

theorem kind_any (C : Int) (w : World) :
    Calls Tryd.prog 17 #[.int .i64 C] w fun e w' => e = .returned (.tuple #[kv (kd C), .bool (okk C)]) ∧ w.grownBy w' none := by
  by_cases e32 : C = 32
  · subst e32
    exact (kind_32 w).mono fun e w' h => ⟨h.1.trans (by rw [show okk 32 = true by rfl]), h.2⟩
  by_cases e40 : C = 40
  · subst e40
    exact (kind_40 w).mono fun e w' h => ⟨h.1.trans (by rw [show okk 40 = true by rfl]), h.2⟩
  by_cases e48 : C = 48
  · subst e48
    exact (kind_48 w).mono fun e w' h => ⟨h.1.trans (by rw [show okk 48 = true by rfl]), h.2⟩
  by_cases e64 : C = 64
  · subst e64
    exact (kind_64 w).mono fun e w' h => ⟨h.1.trans (by rw [show okk 64 = true by rfl]), h.2⟩
  by_cases e72 : C = 72
  · subst e72
    exact (kind_72 w).mono fun e w' h => ⟨h.1.trans (by rw [show okk 72 = true by rfl]), h.2⟩
  by_cases e80 : C = 80
  · subst e80
    exact (kind_80 w).mono fun e w' h => ⟨h.1.trans (by rw [show okk 80 = true by rfl]), h.2⟩
  by_cases e0 : C = 0
  · subst e0
    exact (kind_0 w).mono fun e w' h => ⟨h.1.trans (by rw [show okk 0 = true by rfl]), h.2⟩
  by_cases e1 : C = 1
  · subst e1
    exact (kind_1 w).mono fun e w' h => ⟨h.1.trans (by rw [show okk 1 = true by rfl]), h.2⟩
  by_cases e96 : C = 96
  · subst e96
    exact (kind_96 w).mono fun e w' h => ⟨h.1.trans (by rw [show okk 96 = true by rfl]), h.2⟩
  by_cases e97 : C = 97
  · subst e97
    exact (kind_97 w).mono fun e w' h => ⟨h.1.trans (by rw [show okk 97 = true by rfl]), h.2⟩
  by_cases e128 : C = 128
  · subst e128
    exact (kind_128 w).mono fun e w' h => ⟨h.1.trans (by rw [show okk 128 = true by rfl]), h.2⟩
  by_cases e129 : C = 129
  · subst e129
    exact (kind_129 w).mono fun e w' h => ⟨h.1.trans (by rw [show okk 129 = true by rfl]), h.2⟩
  by_cases e177 : C = 177
  · subst e177
    exact (kind_177 w).mono fun e w' h => ⟨h.1.trans (by rw [show okk 177 = true by rfl]), h.2⟩
  by_cases e2 : C = 2
  · subst e2
    exact (kind_2 w).mono fun e w' h => ⟨h.1.trans (by rw [show okk 2 = true by rfl]), h.2⟩
  by_cases e3 : C = 3
  · subst e3
    exact (kind_3 w).mono fun e w' h => ⟨h.1.trans (by rw [show okk 3 = true by rfl]), h.2⟩
  by_cases e7 : C = 7
  · subst e7
    exact (kind_7 w).mono fun e w' h => ⟨h.1.trans (by rw [show okk 7 = true by rfl]), h.2⟩
  by_cases e135 : C = 135
  · subst e135
    exact (kind_135 w).mono fun e w' h => ⟨h.1.trans (by rw [show okk 135 = true by rfl]), h.2⟩
  by_cases e132 : C = 132
  · subst e132
    exact (kind_132 w).mono fun e w' h => ⟨h.1.trans (by rw [show okk 132 = true by rfl]), h.2⟩
  by_cases e5 : C = 5
  · subst e5
    exact (kind_5 w).mono fun e w' h => ⟨h.1.trans (by rw [show okk 5 = true by rfl]), h.2⟩
  by_cases e6 : C = 6
  · subst e6
    exact (kind_6 w).mono fun e w' h => ⟨h.1.trans (by rw [show okk 6 = true by rfl]), h.2⟩
  by_cases e22 : C = 22
  · subst e22
    exact (kind_22 w).mono fun e w' h => ⟨h.1.trans (by rw [show okk 22 = true by rfl]), h.2⟩
  refine kind_other C w fun r hr => ?_
  simp only [tab, List.take, List.mem_cons, List.not_mem_nil, or_false] at hr
  rcases hr with rfl | rfl | rfl | rfl | rfl | rfl | rfl | rfl | rfl | rfl | rfl | rfl | rfl | rfl | rfl | rfl | rfl | rfl | rfl | rfl | rfl <;> (dsimp only; omega)

end Go.Proofs.YthbcfepbkkbjiaaDoor
