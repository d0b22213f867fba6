/- The walk of the statements' fit. -/
import Derived.Test.YthbcfepbkkbjiaaDoorX1
import Derived.Deep.Cut
namespace Go.Proofs.YthbcfepbkkbjiaaDoor
open Go.RowKit
attribute [local go_sem ↓] Go.wp_at_zero Go.wp_at_succ

theorem fit_box {w w1 : World} {o1 o2 : Obj} (h : ((w.alloc o1).alloc o2).grownBy w1 none) : w1.heap[w.heap.size]? = some o1 ∧ w1.heap[w.heap.size + 1]? = some o2 := by
  constructor
  · rw [h.block w.heap.size (by simp; omega) (by simp), Below.heap_alloc _ _ _ (by simp)]
    exact heap_top _ _ _ rfl
  · rw [h.block (w.heap.size + 1) (by simp) (by simp)]
    exact heap_top _ _ _ (by simp)

theorem four {wr : World} {B : Nat} {a b c d : Value} {e : TypeId} (h : wr.heap[B]? = some (.cells #[a, b, c, d] e (0, 0))) :
    (wr.cell? ⟨B, 0, none⟩ = some a ∧ wr.cell? ⟨B, 1, none⟩ = some b ∧ wr.cell? ⟨B, 2, none⟩ = some c ∧ wr.cell? ⟨B, 3, none⟩ = some d) ∧ ∀ j, wr.frozen? ⟨B, j, none⟩ = false :=
  ⟨⟨cell_of_row wr B 0 _ e (0, 0) h, cell_of_row wr B 1 _ e (0, 0) h, cell_of_row wr B 2 _ e (0, 0) h, cell_of_row wr B 3 _ e (0, 0) h⟩, fun j => by simp [World.frozen?, h]⟩

theorem fit_grown {w w1 : World} (h : w.grownBy w1 none) (v1 v2 v3 v4 : Value) (o : Obj) :
    w.grownBy (((((w1.setCell ⟨w.heap.size + 1, 0, none⟩ v1).setCell ⟨w.heap.size + 1, 1, none⟩ v2).setCell ⟨w.heap.size + 1, 2, none⟩ v3).setCell ⟨w.heap.size + 1, 3, none⟩ v4).alloc o).drew none :=
  grown_drew (grown_alloc (grown_set (grown_set (grown_set (grown_set h (Nat.le_succ _) _) (Nat.le_succ _) _) (Nat.le_succ _) _) (Nat.le_succ _) _) _)

set_option maxRecDepth 100000 in
set_option maxHeartbeats 4000000 in
theorem fit_any (a b c d : Int) (n : Nat) (w : World) (ha : I64 a) (hb : I64 b) (hc : I64 c) (hd : I64 d) (hn : 1 ≤ n) (hn2 : n ≤ 200) :
    Calls Tryd.prog 14 #[.agg #[.int .i64 a, .int .i64 b, .int .i64 c, .int .i64 d], .int .i64 n] w fun e w' => (∃ a b c d : Int, e = .returned (.agg #[.int .i64 a, .int .i64 b, .int .i64 c, .int .i64 d])) ∧ w.grownBy w' none := by
  go_enter Tryd.func14, Tryd.ntmps14
  go_wp2_with (go_at_call 26; refine (codes_any _).mono ?_; rintro e w1 ⟨ao, L, cc, f, rfl, hL1, hL2, hs, hg1⟩)
  obtain ⟨CB, coff, rfl, hR⟩ := hs (by omega)
  obtain ⟨k1, k2⟩ := fit_box hg1
  obtain ⟨⟨x0, x1, x2, x3⟩, _⟩ := four k1
  obtain ⟨⟨y0, y1, y2, y3⟩, fy⟩ := four k2
  have hSG : ∀ w', w1.grownBy w' none → Hid (w'.cell? ⟨w.heap.size, 0, none⟩ = some (.int .i64 a) ∧ w'.cell? ⟨w.heap.size, 1, none⟩ = some (.int .i64 b) ∧ w'.cell? ⟨w.heap.size, 2, none⟩ = some (.int .i64 c) ∧ w'.cell? ⟨w.heap.size, 3, none⟩ = some (.int .i64 d) ∧ ∀ j, j < L → w'.cell? ⟨CB, coff + j, none⟩ = some (.int .i64 (f j))) :=
    fun w' hw => ⟨hw.cell x0 (by simp), hw.cell x1 (by simp), hw.cell x2 (by simp), hw.cell x3 (by simp), hR.keep hw (by simp)⟩
  have G0 := grown_refl w1 none
  have f0 := fy 0
  have f1 := fy 1
  have f2 := fy 2
  have f3 := fy 3
  clear fy
  have hz : w.heap.size + 1 < w1.heap.size := by have := alloc_lt hg1; simp at this; omega
  have G1 := grown_trans (grown_alloc (grown_alloc (grown_refl w none) _) _) hg1
  clear hg1
  go_cut [6] from 7 (fun y wc => ∃ (v0 : Int) (r1 r2 r : Nat), y = .pointer (some ⟨w1.heap.size, 0, none⟩) ∧ (r : Int) < 4294967296 ∧ wc = (w1.alloc (.cells #[.int .i64 v0, .int .i64 r1, .int .i64 r2, .int .i64 r] 44)).drew)
  case first =>
    go_region_held3 (fun w' => w'.cell? ⟨w.heap.size, 0, none⟩ = some (.int .i64 a) ∧ w'.cell? ⟨w.heap.size, 1, none⟩ = some (.int .i64 b) ∧ w'.cell? ⟨w.heap.size, 2, none⟩ = some (.int .i64 c) ∧ w'.cell? ⟨w.heap.size, 3, none⟩ = some (.int .i64 d) ∧ ∀ j, j < L → w'.cell? ⟨CB, coff + j, none⟩ = some (.int .i64 (f j)))
      (first | assumption | exact (hSG _ (grown_drew G0)).out | exact (hSG _ (grown_drew (grown_alloc G0 _))).out)
      ((go_at_call 27; refine (pick_any _ _ _ (by assumption) ?_ ?_).mono ?_; omega; omega; rintro e w2 ⟨⟨r, rfl, hr⟩, rfl⟩; (first | (have hrL : r < L := by omega) | skip)))
    all_goals
      rename_i r0 hr0 r1 hr1 r2 hr2 hh
      clear hh hSG
      go_wp2
      go_meet
      case rel => exact ⟨f r0, r1, r2, r, rfl, hr, rfl⟩
  case rest =>
    obtain ⟨v0, r1, r2, r, rfl, hr, rfl⟩ := hcut
    clear hSG hR hs k1 k2 x0 x1 x2 x3 G0 ha hb hc hd
    by_cases e96 : v0 = 96
    · subst e96
      go_wp2
      refine bodyPost_ret (v := .agg #[.int .i64 96, .int .i64 r1, .int .i64 r2, .int .i64 ((r : Int) % 16)]) (by simp [results, Tryd.results14, go_sem, y0, y1, y2, y3, hz]) rfl ⟨⟨_, _, _, _, rfl⟩, ?_⟩
      exact fit_grown G1 _ _ _ _ _
    by_cases e97 : v0 = 97
    · subst e97
      go_wp2
      refine bodyPost_ret (v := .agg #[.int .i64 97, .int .i64 r1, .int .i64 r2, .int .i64 ((r : Int) % 16)]) (by simp [results, Tryd.results14, go_sem, y0, y1, y2, y3, hz]) rfl ⟨⟨_, _, _, _, rfl⟩, ?_⟩
      exact fit_grown G1 _ _ _ _ _
    by_cases e2 : v0 = 2
    · subst e2
      go_wp2
      refine bodyPost_ret (v := .agg #[.int .i64 2, .int .i64 r1, .int .i64 r2, .int .i64 ((r : Int) % 16)]) (by simp [results, Tryd.results14, go_sem, y0, y1, y2, y3, hz]) rfl ⟨⟨_, _, _, _, rfl⟩, ?_⟩
      exact fit_grown G1 _ _ _ _ _
    by_cases e3 : v0 = 3
    · subst e3
      go_wp2
      refine bodyPost_ret (v := .agg #[.int .i64 3, .int .i64 r1, .int .i64 r2, .int .i64 ((r : Int) % 16)]) (by simp [results, Tryd.results14, go_sem, y0, y1, y2, y3, hz]) rfl ⟨⟨_, _, _, _, rfl⟩, ?_⟩
      exact fit_grown G1 _ _ _ _ _
    by_cases e52 : v0 = 52
    · subst e52
      go_wp2
      refine bodyPost_ret (v := .agg #[.int .i64 52, .int .i64 r1, .int .i64 r2, .int .i64 ((r : Int) + 1 - (r : Int) / 2147483648)]) (by simp [results, Tryd.results14, go_sem, y0, y1, y2, y3, hz]) rfl ⟨⟨_, _, _, _, rfl⟩, ?_⟩
      exact fit_grown G1 _ _ _ _ _
    by_cases e148 : v0 = 148
    · subst e148
      go_wp2
      refine bodyPost_ret (v := .agg #[.int .i64 148, .int .i64 r1, .int .i64 r2, .int .i64 ((r : Int) + 1 - (r : Int) / 2147483648)]) (by simp [results, Tryd.results14, go_sem, y0, y1, y2, y3, hz]) rfl ⟨⟨_, _, _, _, rfl⟩, ?_⟩
      exact fit_grown G1 _ _ _ _ _
    by_cases e100 : v0 = 100
    · subst e100
      go_wp2
      refine bodyPost_ret (v := .agg #[.int .i64 100, .int .i64 r1, .int .i64 r2, .int .i64 ((r : Int) % 32)]) (by simp [results, Tryd.results14, go_sem, y0, y1, y2, y3, hz]) rfl ⟨⟨_, _, _, _, rfl⟩, ?_⟩
      exact fit_grown G1 _ _ _ _ _
    by_cases e116 : v0 = 116
    · subst e116
      go_wp2
      refine bodyPost_ret (v := .agg #[.int .i64 116, .int .i64 r1, .int .i64 r2, .int .i64 ((r : Int) % 32)]) (by simp [results, Tryd.results14, go_sem, y0, y1, y2, y3, hz]) rfl ⟨⟨_, _, _, _, rfl⟩, ?_⟩
      exact fit_grown G1 _ _ _ _ _
    by_cases e5 : v0 = 5
    · subst e5
      go_wp2
      refine bodyPost_ret (v := .agg #[.int .i64 5, .int .i64 r1, .int .i64 r2, .int .i64 ((r : Int) % (n : Int))]) (by simp [results, Tryd.results14, go_sem, y0, y1, y2, y3, hz]) rfl ⟨⟨_, _, _, _, rfl⟩, ?_⟩
      exact fit_grown G1 _ _ _ _ _
    have t96 : (v0 == 96) = false := by simp [e96]
    have t97 : (v0 == 97) = false := by simp [e97]
    have t2 : (v0 == 2) = false := by simp [e2]
    have t3 : (v0 == 3) = false := by simp [e3]
    have t52 : (v0 == 52) = false := by simp [e52]
    have t148 : (v0 == 148) = false := by simp [e148]
    have t100 : (v0 == 100) = false := by simp [e100]
    have t116 : (v0 == 116) = false := by simp [e116]
    have t5 : (v0 == 5) = false := by simp [e5]
    clear e96 e97 e2 e3 e52 e148 e100 e116 e5
    go_wp2
    refine bodyPost_ret (v := .agg #[.int .i64 v0, .int .i64 r1, .int .i64 r2, .int .i64 r]) (by simp [results, Tryd.results14, go_sem, y0, y1, y2, y3, hz]) rfl ⟨⟨_, _, _, _, rfl⟩, ?_⟩
    exact fit_grown G1 _ _ _ _ _

end Go.Proofs.YthbcfepbkkbjiaaDoor
