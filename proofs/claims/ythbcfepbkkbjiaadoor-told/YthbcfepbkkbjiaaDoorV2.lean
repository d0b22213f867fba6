/- The walk of the reference's family. -/
import Derived.Test.YthbcfepbkkbjiaaDoorV1
import Derived.BigQuiet
import Derived.Deep.QuietTactic
namespace Go.Proofs.YthbcfepbkkbjiaaDoor
open Go.RowKit

theorem sums_cell {w : World} {B : Nat} {e : TypeId} (h : w.heap[B]? = some (.cells #[.int .i64 4, .int .i64 20, .int .i64 36, .int .i64 52, .int .i64 148, .int .i64 68, .int .i64 84, .int .i64 164, .int .i64 100, .int .i64 116] e (0, 0))) (k : Nat) (hk : k < 10) : w.cell? ⟨B, k, none⟩ = some (.int .i64 (sums k)) := by
  rw [cell_of_row w B k _ e (0, 0) h]
  match k, hk with
  | 0, _ => rfl
  | 1, _ => rfl
  | 2, _ => rfl
  | 3, _ => rfl
  | 4, _ => rfl
  | 5, _ => rfl
  | 6, _ => rfl
  | 7, _ => rfl
  | 8, _ => rfl
  | 9, _ => rfl

/-- the two variables that hold a kind: the one that came in, the one that goes out -/
def Fam (w wr : World) (C : Int) (e : TypeId) : Prop :=
  wr.heap[w.heap.size]? = some (.cells #[.int .i64 C, .int .i64 0, .int .i64 0, .bool false, .int .i64 0] e (0, 0)) ∧
  wr.heap[w.heap.size + 1]? = some (.cells #[.int .i64 0, .int .i64 0, .int .i64 0, .bool false, .int .i64 0] e (0, 0)) ∧
  wr.heap[w.heap.size + 1 + 1]? = some (.cells #[.int .i64 4, .int .i64 20, .int .i64 36, .int .i64 52, .int .i64 148, .int .i64 68, .int .i64 84, .int .i64 164, .int .i64 100, .int .i64 116] 3 (0, 0)) ∧ w.grownBy wr none

theorem Fam.drewN {w wr : World} {C : Int} {e : TypeId} (h : Fam w wr C e) (n : Nat) : Fam w (wr.drewN n) C e := ⟨h.1, h.2.1, h.2.2.1, grown_none h.2.2.2 (grown_drewN _ _ _)⟩

theorem five {wr : World} {B : Nat} {a b c d f : Value} {e : TypeId} (h : wr.heap[B]? = some (.cells #[a, b, c, d, f] e (0, 0))) :
    (wr.cell? ⟨B, 0, none⟩ = some a ∧ wr.cell? ⟨B, 1, none⟩ = some b ∧ wr.cell? ⟨B, 2, none⟩ = some c ∧ wr.cell? ⟨B, 3, none⟩ = some d ∧ wr.cell? ⟨B, 4, none⟩ = some f) ∧ ∀ j, wr.frozen? ⟨B, j, none⟩ = false :=
  ⟨⟨cell_of_row wr B 0 _ e (0, 0) h, cell_of_row wr B 1 _ e (0, 0) h, cell_of_row wr B 2 _ e (0, 0) h, cell_of_row wr B 3 _ e (0, 0) h, cell_of_row wr B 4 _ e (0, 0) h⟩, fun j => by simp [World.frozen?, h]⟩

theorem fam_new (w : World) (C : Int) : Fam w (((w.alloc (.cells #[.int .i64 C, .int .i64 0, .int .i64 0, .bool false, .int .i64 0] 50)).alloc (.cells #[.int .i64 0, .int .i64 0, .int .i64 0, .bool false, .int .i64 0] 50)).alloc (.cells #[.int .i64 4, .int .i64 20, .int .i64 36, .int .i64 52, .int .i64 148, .int .i64 68, .int .i64 84, .int .i64 164, .int .i64 100, .int .i64 116] 3)) C 50 := by
  refine ⟨?_, ?_, heap_top _ _ _ (by simp), grown_alloc (grown_alloc (grown_alloc (grown_refl _ _) _) _) _⟩
  · rw [Below.heap_alloc _ _ _ (by simp; omega), Below.heap_alloc _ _ _ (by simp)]; exact heap_top _ _ _ rfl
  · rw [Below.heap_alloc _ _ _ (by simp)]; exact heap_top _ _ _ (by simp)

theorem sums_bd (k : Nat) : 0 ≤ sums k ∧ sums k ≤ 1000 := by
  unfold sums
  match k with
  | 0 => decide
  | 1 => decide
  | 2 => decide
  | 3 => decide
  | 4 => decide
  | 5 => decide
  | 6 => decide
  | 7 => decide
  | 8 => decide
  | 9 => decide
  | n + 10 => simp

theorem fam_grown {w wr : World} (h : w.grownBy wr none) (n : Nat) (v1 v2 v3 v4 v5 v6 v7 v8 : Value) :
    w.grownBy (((((((((wr.drewN n).setCell ⟨w.heap.size, 1, none⟩ v1).setCell ⟨w.heap.size, 4, none⟩ v2).setCell ⟨w.heap.size, 3, none⟩ v3).setCell ⟨w.heap.size + 1, 0, none⟩ v4).setCell ⟨w.heap.size + 1, 1, none⟩ v5).setCell ⟨w.heap.size + 1, 2, none⟩ v6).setCell ⟨w.heap.size + 1, 3, none⟩ v7).setCell ⟨w.heap.size + 1, 4, none⟩ v8).drew none :=
  grown_drew (grown_set (grown_set (grown_set (grown_set (grown_set (grown_set (grown_set (grown_set (grown_none h (grown_drewN _ n _)) (Nat.le_refl _) _) (Nat.le_refl _) _) (Nat.le_refl _) _) (Nat.le_succ _) _) (Nat.le_succ _) _) (Nat.le_succ _) _) (Nat.le_succ _) _) (Nat.le_succ _) _)

theorem fam_grown' {w wr : World} (h : w.grownBy wr none) (v1 v2 v3 v4 v5 v6 v7 v8 : Value) :
    w.grownBy ((((((((wr.setCell ⟨w.heap.size, 1, none⟩ v1).setCell ⟨w.heap.size, 4, none⟩ v2).setCell ⟨w.heap.size, 3, none⟩ v3).setCell ⟨w.heap.size + 1, 0, none⟩ v4).setCell ⟨w.heap.size + 1, 1, none⟩ v5).setCell ⟨w.heap.size + 1, 2, none⟩ v6).setCell ⟨w.heap.size + 1, 3, none⟩ v7).setCell ⟨w.heap.size + 1, 4, none⟩ v8) none :=
  grown_set (grown_set (grown_set (grown_set (grown_set (grown_set (grown_set (grown_set h (Nat.le_refl _) _) (Nat.le_refl _) _) (Nat.le_refl _) _) (Nat.le_succ _) _) (Nat.le_succ _) _) (Nat.le_succ _) _) (Nat.le_succ _) _) (Nat.le_succ _) _

theorem fam_grown'' {w wr : World} (h : w.grownBy wr none) (v4 v5 v6 v7 v8 : Value) :
    w.grownBy (((((wr.setCell ⟨w.heap.size + 1, 0, none⟩ v4).setCell ⟨w.heap.size + 1, 1, none⟩ v5).setCell ⟨w.heap.size + 1, 2, none⟩ v6).setCell ⟨w.heap.size + 1, 3, none⟩ v7).setCell ⟨w.heap.size + 1, 4, none⟩ v8) none :=
  grown_set (grown_set (grown_set (grown_set (grown_set h (Nat.le_succ _) _) (Nat.le_succ _) _) (Nat.le_succ _) _) (Nat.le_succ _) _) (Nat.le_succ _) _

theorem fam_end {C D : Int} {v : Value} (h : C = D) (hv : kv (kd D) = .agg #[.int .i64 D, v.cells.getD 1 .nilFunc, v.cells.getD 2 .nilFunc, v.cells.getD 3 .nilFunc, v.cells.getD 4 .nilFunc]) (ho : okk D = true) (hw : v = .agg #[.int .i64 C, v.cells.getD 1 .nilFunc, v.cells.getD 2 .nilFunc, v.cells.getD 3 .nilFunc, v.cells.getD 4 .nilFunc]) :
    Ending.returned (.tuple #[v, .bool true]) = .returned (.tuple #[kv (kd C), .bool (okk C)]) := by
  subst h
  rw [hv, ho, ← hw]

set_option maxRecDepth 100000 in
set_option maxHeartbeats 2000000 in
theorem family_any (C : Int) (w : World) (hO : Other C) :
    Calls Tryd.prog 30 #[.agg #[.int .i64 C, .int .i64 0, .int .i64 0, .bool false, .int .i64 0]] w fun e w' => e = .returned (.tuple #[kv (kd C), .bool (okk C)]) ∧ w.grownBy w' none := by
  go_enter Tryd.func30, Tryd.ntmps30
  go_wp2
  go_loopw [5] (fun i wr => ∃ k : Nat, k ≤ 10 ∧ i = .int .i64 k ∧ Fam w wr C 50 ∧ ∀ j, j < k → C ≠ sums j ∧ C ≠ sums j + 8) (fun i _ => 10 - (intOf i).toNat)
  case atStart => exact ⟨0, by omega, rfl, fam_new w C, fun j hj => by omega⟩
  case round =>
    obtain ⟨k, hk, rfl, hF, hno⟩ := hrel
    obtain ⟨⟨a0, a1, a2, a3, a4⟩, fa⟩ := five hF.1
    obtain ⟨⟨b0, b1, b2, b3, b4⟩, fb⟩ := five hF.2.1
    by_cases hlt : k < 10
    · have c0 := sums_cell hF.2.2.1 k hlt
      have hsb := sums_bd k
      by_cases hC : C = sums k
      · have t1 : (C == sums k) = true := by simp [hC]
        have t2 : decide (sums k < C) = false := by simp [hC]
        have f1 := fa 1
        have f3 := fa 3
        have f4 := fa 4
        have g0 := fb 0
        have g1 := fb 1
        have g2 := fb 2
        have g3 := fb 3
        have g4 := fb 4
        have HC : Hid (C = sums k) := hC
        have KV := kv_sum k hlt
        have OK := okk_sum k hlt
        clear hC fa fb hno hsb
        go_wp2
        go_quiet (fail)
        go_wp2
        go_region
        all_goals go_wp2
        refine bodyPost_ret (v := .tuple #[.agg #[.int .i64 C, .int .i64 8, .int .i64 0, .bool false, .int .i64 k], .bool true]) (by simp [results, Tryd.results30, go_sem, b0, b1, b2, b3, b4]) rfl ⟨?_, ?_⟩
        · exact fam_end HC.out KV OK rfl
        · exact fam_grown hF.2.2.2 _ _ _ _ _ _ _ _ _
      · by_cases hC2 : C = sums k + 8
        · have t1 : (C == sums k) = false := by simp [hC]
          have t3 : (C == sums k + 8) = true := by simp [hC2]
          have t2 : decide (sums k < C) = true := by simp; omega
          have t4 : sums k < C := by omega
          have t5 : IntKind.i64.wrap (sums k + 8) = sums k + 8 := by rw [IntKind.wrap_i64]; omega
          have f1 := fa 1
          have f3 := fa 3
          have f4 := fa 4
          have g0 := fb 0
          have g1 := fb 1
          have g2 := fb 2
          have g3 := fb 3
          have g4 := fb 4
          have HC : Hid (C = sums k + 8) := hC2
          have KV := kv_sumx k hlt
          have OK := okk_sumx k hlt
          clear hC hC2 fa fb hno
          go_wp2
          go_quiet (fail)
          go_wp2
          go_region
          all_goals go_wp2
          refine bodyPost_ret (v := .tuple #[.agg #[.int .i64 C, .int .i64 8, .int .i64 0, .bool true, .int .i64 k], .bool true]) (by simp [results, Tryd.results30, go_sem, b0, b1, b2, b3, b4]) rfl ⟨?_, ?_⟩
          · exact fam_end HC.out KV OK rfl
          · exact fam_grown hF.2.2.2 _ _ _ _ _ _ _ _ _
        · have t1 : (C == sums k) = false := by simp [hC]
          have t3 : (C == sums k + 8) = false := by simp [hC2]
          have t5 : IntKind.i64.wrap (sums k + 8) = sums k + 8 := by rw [IntKind.wrap_i64]; omega
          have HN : Hid (∀ j, j < k + 1 → C ≠ sums j ∧ C ≠ sums j + 8) := fun j hj => by
            by_cases e : j = k
            · subst e; exact ⟨hC, hC2⟩
            · exact hno j (by omega)
          clear hC hC2 fa fb hno b0 b1 b2 b3 b4
          go_wp2
          go_quiet (fail)
          go_wp2
          go_roundw
          case rel => exact ⟨k + 1, by omega, by go_num, hF.drewN _, HN.out⟩
          case measure => simp [intOf]; omega
    · have hk10 : k = 10 := by omega
      subst hk10
      obtain ⟨wo, hwo⟩ : ∃ x, x = wr := ⟨_, rfl⟩
      subst hwo
      have HN : Hid (∀ j, j < 10 → C ≠ sums j ∧ C ≠ sums j + 8) := hno
      clear a0 a1 a2 a3 a4 b0 b1 b2 b3 b4 fa fb hno
      go_wp2
      go_loop [6] (fun i => ∃ k : Nat, k ≤ 4 ∧ i = .int .i64 k ∧ ∀ j : Nat, j < k → C ≠ 21 + 16 * (j : Int) ∧ C ≠ 29 + 16 * (j : Int)) (fun i => 4 - (intOf i).toNat)
      case atStart => exact ⟨0, by omega, rfl, fun j hj => by omega⟩
      case round =>
        obtain ⟨k, hk4, rfl, hno⟩ := hrel
        obtain ⟨⟨a0, a1, a2, a3, a4⟩, fa⟩ := five hF.1
        obtain ⟨⟨b0, b1, b2, b3, b4⟩, fb⟩ := five hF.2.1
        by_cases hlt4 : k < 4
        · by_cases hC : C = 21 + 16 * (k : Int)
          · have t1 : (C == 21 + 16 * (k : Int)) = true := by simp [hC]
            have t2 : (C == 29 + 16 * (k : Int)) = false := by simp; omega
            have f1 := fa 1
            have f3 := fa 3
            have f4 := fa 4
            have g0 := fb 0
            have g1 := fb 1
            have g2 := fb 2
            have g3 := fb 3
            have g4 := fb 4
            have HC : Hid (C = 21 + 16 * (k : Int)) := hC
            have KV := kv_ask k hlt4
            have OK := okk_ask k hlt4
            clear hC fa fb hno
            go_wp2
            refine bodyPost_ret (v := .tuple #[.agg #[.int .i64 C, .int .i64 11, .int .i64 0, .bool false, .int .i64 k], .bool true]) (by simp [results, Tryd.results30, go_sem, b0, b1, b2, b3, b4]) rfl ⟨?_, ?_⟩
            · exact fam_end HC.out KV OK rfl
            · exact fam_grown' hF.2.2.2 _ _ _ _ _ _ _ _
          · by_cases hC2 : C = 29 + 16 * (k : Int)
            · have t1 : (C == 21 + 16 * (k : Int)) = false := by simp [hC]
              have t2 : (C == 29 + 16 * (k : Int)) = true := by simp [hC2]
              have f1 := fa 1
              have f3 := fa 3
              have f4 := fa 4
              have g0 := fb 0
              have g1 := fb 1
              have g2 := fb 2
              have g3 := fb 3
              have g4 := fb 4
              have HC : Hid (C = 29 + 16 * (k : Int)) := hC2
              have KV := kv_askx k hlt4
              have OK := okk_askx k hlt4
              clear hC hC2 fa fb hno
              go_wp2
              refine bodyPost_ret (v := .tuple #[.agg #[.int .i64 C, .int .i64 11, .int .i64 0, .bool true, .int .i64 k], .bool true]) (by simp [results, Tryd.results30, go_sem, b0, b1, b2, b3, b4]) rfl ⟨?_, ?_⟩
              · exact fam_end HC.out KV OK rfl
              · exact fam_grown' hF.2.2.2 _ _ _ _ _ _ _ _
            · have t1 : (C == 21 + 16 * (k : Int)) = false := by simp [hC]
              have t2 : (C == 29 + 16 * (k : Int)) = false := by simp [hC2]
              have HM : Hid (∀ j : Nat, j < k + 1 → C ≠ 21 + 16 * (j : Int) ∧ C ≠ 29 + 16 * (j : Int)) := fun j hj => by
                by_cases e : j = k
                · subst e; exact ⟨hC, hC2⟩
                · exact hno j (by omega)
              clear hC hC2 fa fb hno b0 b1 b2 b3 b4
              go_wp2
              go_round
              case rel => exact ⟨k + 1, by omega, by go_num, HM.out⟩
              case measure => simp [intOf]; omega
        · have hk5 : k = 4 := by omega
          subst hk5
          have KD := kd_other C hO HN.out hno
          have f1 := fa 1
          have f3 := fa 3
          have f4 := fa 4
          have g0 := fb 0
          have g1 := fb 1
          have g2 := fb 2
          have g3 := fb 3
          have g4 := fb 4
          have HK : Hid (kd C = ⟨C, 0, 0, false, 0, 0⟩) := KD
          clear KD fa fb hno
          go_wp2
          refine bodyPost_ret (v := .tuple #[.agg #[.int .i64 C, .int .i64 0, .int .i64 0, .bool false, .int .i64 0], .bool false]) (by simp [results, Tryd.results30, go_sem, b0, b1, b2, b3, b4]) rfl ⟨?_, ?_⟩
          · unfold okk; rw [HK.out]; rfl
          · exact fam_grown'' hF.2.2.2 _ _ _ _ _

end Go.Proofs.YthbcfepbkkbjiaaDoor
