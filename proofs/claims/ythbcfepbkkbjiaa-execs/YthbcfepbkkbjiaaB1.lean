/- The program's machine of code: fetch, where not all bytes of an instruction are there. -/
import Derived.Test.YthbcfepbkkbjiaaA4
namespace Go.Proofs.Ythbcfepbkkbjiaa
open Go.RowKit
set_option linter.unusedVariables false

theorem Load_nat (ao : Option Addr) (n c p s : Nat) (v : Int) (w : World) (hm : n ≤ 140737488355328) (hp : p ≤ 4611686018427387904) (hs : s ≤ 4) (h : n < p + s) (hv : v = p) :
    Calls Try.prog 37 #[.slice ao n c, .int .i64 v, .int .i64 s] w fun e w' => e = .returned (.tuple #[.int .u32 0, .bool false]) ∧ w' = w := by
  subst hv
  exact Load_no ao n c p s w (by unfold maxLen; omega) hp hs h

set_option maxRecDepth 100000 in
set_option maxHeartbeats 4000000 in
theorem fetch_shortA (w0 w : World) (M MB b off n c : Nat) (g : Nat → Int) (pv sv : Value) (S : Mst) (sd : Bool) (res : Int) (s : Shp) (hn : n ≤ 140737488355328) (hc : n ≤ c) (hg : Oct g) (hR : Row w0 .u8 b off n g)
    (h : PM w0 w M MB (.slice (some ⟨b, off, none⟩) n c) pv sv S sd res) (hpc : S.pc < n) (hs : shp (g S.pc) = some s) (hA : n < S.pc + 1 + s.wh + s.nb) (hw : S.pc + 1 + s.wh ≤ n) :
    Calls Try.prog 27 #[.pointer (some ⟨M, 0, none⟩)] w fun e w' => NoIn w0 e w' := by
  obtain ⟨pc, sp, st, cs⟩ := S
  dsimp only at *
  obtain ⟨c0, c1, c2, c3, c4, c5, c6⟩ := h.cells
  obtain ⟨z3, z4, z5, z6⟩ := h.free
  dsimp only at c3
  obtain ⟨sz1, sz2⟩ := shp_siz hs
  obtain ⟨k4, p2, u1⟩ := shp_bd hs
  have lM := h.m.lt
  have HH : Hid (PM w0 w M MB (.slice (some ⟨b, off, none⟩) n c) pv sv ⟨pc, sp, st, cs⟩ sd res) := h
  have HS : Hid (shp (g pc) = some s) := hs
  have hb := hg pc
  have B1 : g pc = be g pc 1 := (be_one g pc).symm
  have HB1 : Hid (g pc = be g pc 1) := B1
  clear h hs B1
  have hlA : ∀ k O, (Instr.lookup 57 (.map (some MB)) (.int .u8 (g pc)) true).run Try.prog ((((w.alloc (.cells #[.int .u8 0, .int .u32 0, .int .u32 0] 64)).drewN k).setCell ⟨w.heap.size, 0, none⟩ (.int .u8 (g pc))).alloc O).drew = _ := fun k O => (look_shape (HH.out.keep (by repeat (first | exact grown_refl _ _ | refine grown_drew ?_ | refine grown_alloc ?_ _ | refine grown_none ?_ (grown_drewN _ _ _) | refine grown_set ?_ (Nat.le_refl _) _))).mp HS.out).2
  have hlB : ∀ k, (Instr.lookup 57 (.map (some MB)) (.int .u8 (g pc)) true).run Try.prog (((w.alloc (.cells #[.int .u8 0, .int .u32 0, .int .u32 0] 64)).drewN k).setCell ⟨w.heap.size, 0, none⟩ (.int .u8 (g pc))).drew = _ := fun k => (look_shape (HH.out.keep (by repeat (first | exact grown_refl _ _ | refine grown_drew ?_ | refine grown_alloc ?_ _ | refine grown_none ?_ (grown_drewN _ _ _) | refine grown_set ?_ (Nat.le_refl _) _))).mp HS.out).2
  have F0 := fun k1 k2 a b c v x O => (in_cells w #[.int .u8 0, .int .u32 0, .int .u32 0] rfl 64 M lM k1 k2 a b c v x x x O).1
  have F1 := fun k1 k2 a b c v x y O => (in_cells w #[.int .u8 0, .int .u32 0, .int .u32 0] rfl 64 M lM k1 k2 a b c v x y y O).2.1
  have F2 := fun k1 k2 a b c v x y z O => (in_cells w #[.int .u8 0, .int .u32 0, .int .u32 0] rfl 64 M lM k1 k2 a b c v x y z O).2.2
  have W1 : IntKind.i64.wrap ((pc : Int) + 1) = (pc : Int) + 1 := by rw [IntKind.wrap_i64]; omega
  have W2 : IntKind.i64.wrap ((pc : Int) + 1 + (s.wh : Int)) = (pc : Int) + 1 + (s.wh : Int) := by rw [IntKind.wrap_i64]; omega
  have W3 : IntKind.i64.wrap ((pc : Int) + 1 + (s.wh : Int) + (s.nb : Int)) = (pc : Int) + 1 + (s.wh : Int) + (s.nb : Int) := by rw [IntKind.wrap_i64]; omega
  go_enter Try.func27, Try.ntmps27
  go_wp2
  go_quiet ((go_at_call 37; refine Calls.quiet_of_same (Load_at w0 _ b off n c pc 1 g (g pc) _ (Or.inr (Or.inl rfl)) hn hc (by omega) hg hR (by repeat (first | exact HH.out.gr | refine grown_drew ?_ | refine grown_alloc ?_ _ | refine grown_none ?_ (grown_drewN _ _ _))) HB1.out rfl)))
  go_wp2
  go_region
  all_goals go_wp2
  go_quiet (fail)
  go_wp2
  go_region_with (go_at_call 37; refine (Load_at w0 _ b off n c (pc + 1) s.wh g (be g (pc + 1) s.wh) _ sz1 hn hc (by omega) hg hR (by repeat (first | exact HH.out.gr | refine grown_drew ?_ | refine grown_alloc ?_ _ | refine grown_none ?_ (grown_drewN _ _ _) | refine grown_set ?_ (Nat.le_trans HH.out.gr.size (Nat.le_refl _)) _ | refine grown_set ?_ (Nat.le_trans HH.out.gr.size (Nat.le_succ _)) _)) rfl (by omega)).mono ?_; rintro e w1 ⟨rfl, rfl⟩)
  all_goals (first | exact ?main | refine ?main)
  go_wp2
  go_region_with (go_at_call 37; refine (Load_nat _ n c (pc + 1 + s.wh) s.nb _ _ hn (by omega) (by omega) (by omega) (by omega)).mono ?_; rintro e w1 ⟨rfl, rfl⟩)
  all_goals (first | exact ?main2 | refine ?main2)
  go_wp2
  have n1 : w.heap.size ≠ M := by omega
  have n2 : w.heap.size ≠ MB := by have := HH.out.mp.lt; omega
  have n3 : ∀ g, sv.ownBlock = some g → g ≠ w.heap.size := fun g e => by have := (HH.out.st.own g e).2; omega
  have n0 := HH.out.gr.size
  refine bodyPost_ret (v := .tuple #[.agg #[.int .u8 (g pc), .int .u32 (be g (pc + 1) s.wh), .int .u32 0], .bool false]) (by simp only [results, Try.results27]; go_simp) rfl ⟨⟨_, _, _, rfl⟩, ?_⟩
  have G0 := HH.out.gr
  have hMw := HH.out.hM
  exact grown_drew (grown_set (grown_set (grown_set (grown_set (grown_set (grown_set (grown_none (grown_alloc (grown_set (grown_none (grown_alloc G0 _) (grown_drewN _ _ _)) n0 _) _) (grown_drewN _ _ _)) n0 _) n0 _) hMw _) n0 _) n0 _) n0 _)

end Go.Proofs.Ythbcfepbkkbjiaa
