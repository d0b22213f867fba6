import Derived.Test.YthbcfepbkkbjiabGreatDoorIA2
namespace Go.Proofs.YthbcfepbkkbjiabGreatDoor
open Go.RowKit
set_option linter.unusedVariables false
theorem shp_siz {c : Int} {s : Shp} (h : shp c = some s) : Siz s.wh ∧ Siz s.nb := by
  rcases shp_cases h with ⟨rfl, rfl⟩ | ⟨rfl, rfl⟩ | ⟨rfl, rfl⟩ | ⟨rfl, rfl⟩ | ⟨rfl, rfl⟩ | ⟨rfl, rfl⟩ | ⟨rfl, rfl⟩ | ⟨rfl, rfl⟩ | ⟨rfl, rfl⟩ <;> simp [Siz]
theorem Load_at (w0 w : World) (b off n c p s : Nat) (g : Nat → Int) (X v : Int) (hs : Siz s) (hm : n ≤ 140737488355328) (hc : n ≤ c) (h : p + s ≤ n) (hg : Oct g) (hR : Row w0 .u8 b off n g) (hgr : w0.grownBy w none) (hX : X = be g p s) (hv : v = p) :
    Calls Tryz.prog 57 #[.slice (some ⟨b, off, none⟩) n c, .int .i64 v, .int .i64 s] w fun e w' => e = .returned (.tuple #[.int .u32 X, .bool true]) ∧ w' = w := by
  subst hv
  exact Load_ok b off n c p s g X w hs (by unfold maxLen; omega) hc h hg (hR.keep hgr (by simp)) hX
theorem box_heap {w wr : World} {o : Obj} (hg : (w.alloc o).grownBy wr none) : wr.heap[w.heap.size]? = some o := by
  rw [hg.block w.heap.size (by simp) (by simp)]; exact heap_top _ _ _ rfl
theorem three {wr : World} {B : Nat} {a b c : Value} {e : TypeId} (h : wr.heap[B]? = some (.cells #[a, b, c] e (0, 0))) :
    wr.cell? ⟨B, 0, none⟩ = some a ∧ wr.cell? ⟨B, 1, none⟩ = some b ∧ wr.cell? ⟨B, 2, none⟩ = some c ∧ wr.frozen? ⟨B, 0, none⟩ = false ∧ wr.frozen? ⟨B, 1, none⟩ = false ∧ wr.frozen? ⟨B, 2, none⟩ = false :=
  ⟨cell_of_row wr B 0 _ e (0, 0) h, cell_of_row wr B 1 _ e (0, 0) h, cell_of_row wr B 2 _ e (0, 0) h, by simp [World.frozen?, h], by simp [World.frozen?, h], by simp [World.frozen?, h]⟩
theorem PM.loc {w0 w : World} {M MB : Nat} {cv pv sv : Value} {S : Mst} {sd : Bool} {res : Int} (h : PM w0 w M MB cv pv sv S sd res) {B : Nat} (hB : w0.heap.size ≤ B) (n1 : B ≠ M) (n2 : B ≠ MB) (n3 : ∀ g, sv.ownBlock = some g → g ≠ B) (j : Nat) (v : Value) :
    PM w0 (w.setCell ⟨B, j, none⟩ v) M MB cv pv sv S sd res := by
  have hg := grown_setCell w ⟨B, j, none⟩ v
  exact ⟨grown_set h.gr hB _, h.hM, h.hB, h.ne, h.m.keep hg (by simp; exact fun e => n1 e.symm), h.st.other hg n3, h.own, h.mp.keep hg (by simp; exact fun e => n2 e.symm)⟩
theorem in_cells (w : World) (I : Array Value) (hI : I.size = 3) (t : TypeId) (M : Nat) (lM : M < w.heap.size) (k1 k2 : Nat) (a b c v x y z : Value) (O : Obj) :
    ((((((((((w.alloc (.cells I t)).drewN k1).setCell ⟨w.heap.size, 0, none⟩ a).alloc O).drewN k2).setCell ⟨w.heap.size, 1, none⟩ b).setCell ⟨w.heap.size, 2, none⟩ c).setCell ⟨M, 3, none⟩ v).setCell ⟨w.heap.size, 0, none⟩ x).cell? ⟨w.heap.size, 0, none⟩ = some x) ∧
    (((((((((((w.alloc (.cells I t)).drewN k1).setCell ⟨w.heap.size, 0, none⟩ a).alloc O).drewN k2).setCell ⟨w.heap.size, 1, none⟩ b).setCell ⟨w.heap.size, 2, none⟩ c).setCell ⟨M, 3, none⟩ v).setCell ⟨w.heap.size, 0, none⟩ x).setCell ⟨w.heap.size, 1, none⟩ y).cell? ⟨w.heap.size, 1, none⟩ = some y) ∧
    ((((((((((((w.alloc (.cells I t)).drewN k1).setCell ⟨w.heap.size, 0, none⟩ a).alloc O).drewN k2).setCell ⟨w.heap.size, 1, none⟩ b).setCell ⟨w.heap.size, 2, none⟩ c).setCell ⟨M, 3, none⟩ v).setCell ⟨w.heap.size, 0, none⟩ x).setCell ⟨w.heap.size, 1, none⟩ y).setCell ⟨w.heap.size, 2, none⟩ z).cell? ⟨w.heap.size, 2, none⟩ = some z) := by
  have B := blk_new w I t
  rw [hI] at B
  have B1 := (((((B.drewN k1).set' (j := 0) (by omega) a).alloc O).drewN k2).set' (j := 1) (by omega) b).set' (j := 2) (by omega) c
  have B2 := B1.setOther (a := ⟨M, 3, none⟩) (by simp; omega) v
  have B3 := B2.set' (j := 0) (by omega) x
  have B4 := B3.set' (j := 1) (by omega) y
  have B5 := B4.set' (j := 2) (by omega) z
  exact ⟨B3.cell (j := 0) (by omega), B4.cell (j := 1) (by omega), B5.cell (j := 2) (by omega)⟩
set_option maxRecDepth 100000 in
set_option maxHeartbeats 1000000 in
theorem fetch_ok (w0 w : World) (M MB b off n c : Nat) (g : Nat → Int) (pv sv : Value) (S : Mst) (sd : Bool) (res : Int) (s : Shp) (hn : n ≤ 140737488355328) (hc : n ≤ c) (hg : Oct g) (hR : Row w0 .u8 b off n g)
    (h : PM w0 w M MB (.slice (some ⟨b, off, none⟩) n c) pv sv S sd res) (hpc : S.pc < n) (hs : shp (g S.pc) = some s) (hA : S.pc + 1 + s.wh + s.nb ≤ n) :
    Calls Tryz.prog 41 #[.pointer (some ⟨M, 0, none⟩)] w fun e w' => e = .returned (.tuple #[.agg #[.int .u8 (g S.pc), .int .u32 (be g (S.pc + 1) s.wh), .int .u32 (be g (S.pc + 1 + s.wh) s.nb)], .bool true]) ∧ PM w0 w' M MB (.slice (some ⟨b, off, none⟩) n c) pv sv ⟨S.pc + 1 + s.wh + s.nb, S.sp, S.st, S.cs⟩ sd res := by
  obtain ⟨pc, sp, st, cs⟩ := S
  dsimp only at *
  obtain ⟨c0, c1, c2, c3, c4, c5, c6⟩ := h.cells
  obtain ⟨z3, z4, z5, z6⟩ := h.free
  dsimp only at c3
  obtain ⟨sz1, sz2⟩ := shp_siz hs
  obtain ⟨k4, p2, u1⟩ := shp_bd hs
  have lM := h.m.lt
  have HH : Hid (PM w0 w M MB (.slice (some ⟨b, off, none⟩) n c) pv sv ⟨pc, sp, st, cs⟩ sd res) := h
  have HS : Hid (shp (g pc) = some s) := hs
  have hb := hg pc
  have B1 : g pc = be g pc 1 := (be_one g pc).symm
  have HB1 : Hid (g pc = be g pc 1) := B1
  clear h hs B1
  have hlA : ∀ k O, (Instr.lookup 97 (.map (some MB)) (.int .u8 (g pc)) true).run Tryz.prog ((((w.alloc (.cells #[.int .u8 0, .int .u32 0, .int .u32 0] 104)).drewN k).setCell ⟨w.heap.size, 0, none⟩ (.int .u8 (g pc))).alloc O).drew = _ := fun k O => (look_shape (HH.out.keep (by repeat (first | exact grown_refl _ _ | refine grown_drew ?_ | refine grown_alloc ?_ _ | refine grown_none ?_ (grown_drewN _ _ _) | refine grown_set ?_ (Nat.le_refl _) _))).mp HS.out).2
  have hlB : ∀ k, (Instr.lookup 97 (.map (some MB)) (.int .u8 (g pc)) true).run Tryz.prog (((w.alloc (.cells #[.int .u8 0, .int .u32 0, .int .u32 0] 104)).drewN k).setCell ⟨w.heap.size, 0, none⟩ (.int .u8 (g pc))).drew = _ := fun k => (look_shape (HH.out.keep (by repeat (first | exact grown_refl _ _ | refine grown_drew ?_ | refine grown_alloc ?_ _ | refine grown_none ?_ (grown_drewN _ _ _) | refine grown_set ?_ (Nat.le_refl _) _))).mp HS.out).2
  have F0 := fun k1 k2 a b c v x O => (in_cells w #[.int .u8 0, .int .u32 0, .int .u32 0] rfl 104 M lM k1 k2 a b c v x x x O).1
  have F1 := fun k1 k2 a b c v x y O => (in_cells w #[.int .u8 0, .int .u32 0, .int .u32 0] rfl 104 M lM k1 k2 a b c v x y y O).2.1
  have F2 := fun k1 k2 a b c v x y z O => (in_cells w #[.int .u8 0, .int .u32 0, .int .u32 0] rfl 104 M lM k1 k2 a b c v x y z O).2.2
  have W1 : IntKind.i64.wrap ((pc : Int) + 1) = (pc : Int) + 1 := by rw [IntKind.wrap_i64]; omega
  have W2 : IntKind.i64.wrap ((pc : Int) + 1 + (s.wh : Int)) = (pc : Int) + 1 + (s.wh : Int) := by rw [IntKind.wrap_i64]; omega
  have W3 : IntKind.i64.wrap ((pc : Int) + 1 + (s.wh : Int) + (s.nb : Int)) = (pc : Int) + 1 + (s.wh : Int) + (s.nb : Int) := by rw [IntKind.wrap_i64]; omega
  go_enter Tryz.func41, Tryz.ntmps41
  go_wp2
  go_quiet ((go_at_call 57; refine Calls.quiet_of_same (Load_at w0 _ b off n c pc 1 g (g pc) _ (Or.inr (Or.inl rfl)) hn hc (by omega) hg hR (by repeat (first | exact HH.out.gr | refine grown_drew ?_ | refine grown_alloc ?_ _ | refine grown_none ?_ (grown_drewN _ _ _))) HB1.out rfl)))
  go_wp2
  go_region
  all_goals go_wp2
  go_quiet (fail)
  go_wp2
  go_region_with (go_at_call 57; refine (Load_at w0 _ b off n c (pc + 1) s.wh g (be g (pc + 1) s.wh) _ sz1 hn hc (by omega) hg hR (by repeat (first | exact HH.out.gr | refine grown_drew ?_ | refine grown_alloc ?_ _ | refine grown_none ?_ (grown_drewN _ _ _) | refine grown_set ?_ (Nat.le_trans HH.out.gr.size (Nat.le_refl _)) _ | refine grown_set ?_ (Nat.le_trans HH.out.gr.size (Nat.le_succ _)) _)) rfl (by omega)).mono ?_; rintro e w1 ⟨rfl, rfl⟩)
  all_goals (first | exact ?main | refine ?main)
  go_wp2
  go_region_with (go_at_call 57; refine (Load_at w0 _ b off n c (pc + 1 + s.wh) s.nb g (be g (pc + 1 + s.wh) s.nb) _ sz2 hn hc (by omega) hg hR (by repeat (first | exact HH.out.gr | refine grown_drew ?_ | refine grown_alloc ?_ _ | refine grown_none ?_ (grown_drewN _ _ _) | refine grown_set ?_ (Nat.le_trans HH.out.gr.size (Nat.le_refl _)) _ | refine grown_set ?_ (Nat.le_trans HH.out.gr.size (Nat.le_succ _)) _)) rfl (by omega)).mono ?_; rintro e w1 ⟨rfl, rfl⟩)
  all_goals (first | exact ?main2 | refine ?main2)
  go_wp2
  have n1 : w.heap.size ≠ M := by omega
  have n2 : w.heap.size ≠ MB := by have := HH.out.mp.lt; omega
  have n3 : ∀ g, sv.ownBlock = some g → g ≠ w.heap.size := fun g e => by have := (HH.out.st.own g e).2; omega
  have n0 := HH.out.gr.size
  refine bodyPost_ret (v := .tuple #[.agg #[.int .u8 (g pc), .int .u32 (be g (pc + 1) s.wh), .int .u32 (be g (pc + 1 + s.wh) s.nb)], .bool true]) (by simp only [results, Tryz.results41]; go_simp) rfl ⟨rfl, ?_⟩
  refine PM.drew (PM.loc (PM.loc (PM.loc (PM.setPc (S := ⟨pc, sp, st, cs⟩) (HH.out.keep ?_) (pc + 1 + s.wh + s.nb) _ (by omega)) n0 n1 n2 n3 _ _) n0 n1 n2 n3 _ _) n0 n1 n2 n3 _ _)
  (repeat (first | exact grown_refl _ _ | refine grown_drew ?_ | refine grown_alloc ?_ _ | refine grown_none ?_ (grown_drewN _ _ _) | refine grown_set ?_ (Nat.le_refl _) _))
end Go.Proofs.YthbcfepbkkbjiabGreatDoor
