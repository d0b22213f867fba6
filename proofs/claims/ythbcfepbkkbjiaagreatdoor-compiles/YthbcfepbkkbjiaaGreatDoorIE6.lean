import Derived.BigQuiet
import Derived.Deep.QuietTactic
import Derived.Deep.RegionLaw
import Derived.Test.YthbcfepbkkbjiaaGreatDoorI8
import Derived.Test.YthbcfepbkkbjiaaGreatDoorI2
namespace Go.Proofs.YthbcfepbkkbjiaaGreatDoor
open Go.RowKit
set_option linter.unusedVariables false
def mrow (cv pv sv : Value) (CB pc : Nat) : Nat → Value := fun j => if j = 0 then cv else if j = 1 then pv else if j = 2 then sv else if j = 3 then .slice (some ⟨CB, 0, none⟩) 18 18 else .int .i64 pc
structure RM (w0 w : World) (M CB : Nat) (cv pv sv : Value) (S : Mst) : Prop where
  gr : w0.grownBy w none
  hM : w0.heap.size ≤ M
  hC : w0.heap.size ≤ CB
  ne : M ≠ CB
  m : Blk w M 90 5 5 (mrow cv pv sv CB S.pc)
  st : Out w w0.heap.size 3 1 sv S.sp (ints .i64 S.st)
  own : ∀ g, sv.ownBlock = some g → g ≠ M ∧ g ≠ CB
  cs : Blk w CB 3 18 18 (ints .i64 S.cs)
section
variable {w0 w w' : World} {M CB : Nat} {cv pv sv : Value} {S : Mst}
theorem RM.cells (h : RM w0 w M CB cv pv sv S) :
    (w.cell? ⟨M, 0, none⟩ = some cv ∧ w.cell? ⟨M, 1, none⟩ = some pv ∧ w.cell? ⟨M, 2, none⟩ = some sv ∧ w.cell? ⟨M, 3, none⟩ = some (.slice (some ⟨CB, 0, none⟩) 18 18) ∧ w.cell? ⟨M, 4, none⟩ = some (.int .i64 S.pc)) ∧
    w.frozen? ⟨M, 2, none⟩ = false ∧ w.frozen? ⟨M, 4, none⟩ = false :=
  ⟨⟨h.m.cell (j := 0) (by omega), h.m.cell (j := 1) (by omega), h.m.cell (j := 2) (by omega), h.m.cell (j := 3) (by omega), h.m.cell (j := 4) (by omega)⟩, h.m.frozen 2, h.m.frozen 4⟩
theorem Out.other {w w' : World} {base : Nat} {e : TypeId} {size : Nat} {v : Value} {n : Nat} {f : Nat → Value} {k : Nat} (h : Out w base e size v n f) (hg : w.grownBy w' (some k)) (hk : ∀ g, v.ownBlock = some g → g ≠ k) : Out w' base e size v n f := by
  obtain ⟨ao, cap, rfl, h2⟩ := h
  refine ⟨ao, cap, rfl, ?_⟩
  rcases h2 with h2 | ⟨g, rfl, h4, h5, h6⟩
  · exact Or.inl h2
  · exact Or.inr ⟨g, rfl, h4, h5.keep hg (fun e => hk g rfl (by cases e; rfl)), h6⟩
theorem RM.keep (h : RM w0 w M CB cv pv sv S) (hg : w.grownBy w' none) : RM w0 w' M CB cv pv sv S :=
  ⟨grown_trans h.gr hg, h.hM, h.hC, h.ne, h.m.keep hg (by simp), h.st.keep hg (by simp), h.own, h.cs.keep hg (by simp)⟩
theorem RM.setPc (h : RM w0 w M CB cv pv sv S) (pc : Nat) : RM w0 (w.setCell ⟨M, 4, none⟩ (.int .i64 pc)) M CB cv pv sv ⟨pc, S.sp, S.st, S.cs⟩ := by
  have hg := grown_setCell w ⟨M, 4, none⟩ (.int .i64 pc)
  refine ⟨grown_set h.gr h.hM _, h.hM, h.hC, h.ne, (h.m.set' (j := 4) (by omega) _).congr fun j hj => ?_, h.st.other hg (fun g e => (h.own g e).1), h.own, h.cs.keep hg (by simp; exact fun e => h.ne e.symm)⟩
  match j, hj with
  | 0, _ => rfl
  | 1, _ => rfl
  | 2, _ => rfl
  | 3, _ => rfl
  | 4, _ => rfl
theorem RM.setSt (h : RM w0 w M CB cv pv sv S) (sv' : Value) (sp : Nat) (st : Nat → Int) (ho : Out w w0.heap.size 3 1 sv' sp (ints .i64 st)) (hown : ∀ g, sv'.ownBlock = some g → g ≠ M ∧ g ≠ CB) :
    RM w0 (w.setCell ⟨M, 2, none⟩ sv') M CB cv pv sv' ⟨S.pc, sp, st, S.cs⟩ := by
  have hg := grown_setCell w ⟨M, 2, none⟩ sv'
  refine ⟨grown_set h.gr h.hM _, h.hM, h.hC, h.ne, (h.m.set' (j := 2) (by omega) _).congr fun j hj => ?_, ho.other hg (fun g e => (hown g e).1), hown, h.cs.keep hg (by simp; exact fun e => h.ne e.symm)⟩
  match j, hj with
  | 0, _ => rfl
  | 1, _ => rfl
  | 2, _ => rfl
  | 3, _ => rfl
  | 4, _ => rfl
theorem RM.setCs (h : RM w0 w M CB cv pv sv S) (i : Nat) (hi : i < 18) (v : Int) : RM w0 (w.setCell ⟨CB, i, none⟩ (.int .i64 v)) M CB cv pv sv ⟨S.pc, S.sp, S.st, upd S.cs i v⟩ := by
  have hg := grown_setCell w ⟨CB, i, none⟩ (.int .i64 v)
  refine ⟨grown_set h.gr h.hC _, h.hM, h.hC, h.ne, h.m.keep hg (by simp; exact h.ne), h.st.other hg (fun g e => (h.own g e).2), h.own, (h.cs.set' hi _).congr fun j hj => ?_⟩
  show (if j = i then Value.int .i64 v else .int .i64 (S.cs j)) = .int .i64 (upd S.cs i v j)
  unfold upd; split <;> rfl
end
theorem Out.pop {w : World} {base : Nat} {e : TypeId} {k : IntKind} {v : Value} {n : Nat} {f : Nat → Int} (h : Out w base e 1 v n (ints k f)) (hn : 1 ≤ n) :
    ∃ G cap, v = .slice (some ⟨G, 0, none⟩) n cap ∧ n ≤ cap ∧ cap ≤ maxLen ∧ (∀ j, j < n → w.cell? ⟨G, j, none⟩ = some (.int k (f j))) ∧ ∀ m, m ≤ n → Out w base e 1 (.slice (some ⟨G, 0, none⟩) m cap) m (ints k f) := by
  obtain ⟨ao, cap, rfl, h2⟩ := h
  rcases h2 with ⟨_, h0, _⟩ | ⟨g, rfl, h4, h5, h6, h7⟩
  · omega
  · exact ⟨g, cap, rfl, h6, h7, fun j hj => h5.cell (by omega), fun m hm => ⟨_, cap, rfl, Or.inr ⟨g, rfl, h4, h5.less (by omega), by omega, h7⟩⟩⟩
set_option maxRecDepth 100000 in
set_option maxHeartbeats 400000 in
theorem rpop_any (w0 w : World) (M CB : Nat) (cv pv sv : Value) (S : Mst) (h : RM w0 w M CB cv pv sv S) (hs : 1 ≤ S.sp) :
    Calls Tryz.prog 82 #[.pointer (some ⟨M, 0, none⟩)] w fun e w' => e = .returned (.int .i64 (S.st (S.sp - 1))) ∧ ∃ sv', RM w0 w' M CB cv pv sv' ⟨S.pc, S.sp - 1, S.st, S.cs⟩ := by
  obtain ⟨⟨c0, c1, c2, c3, c4⟩, f2, f4⟩ := h.cells
  obtain ⟨G, cap, hv, hcap, hmax, hc, ho⟩ := h.st.pop hs
  have HR : ∀ k, Hid (RM w0 ((w.drewN k).setCell ⟨M, 2, none⟩ (.slice (some ⟨G, 0, none⟩) (S.sp - 1) cap)) M CB cv pv (.slice (some ⟨G, 0, none⟩) (S.sp - 1) cap) ⟨S.pc, S.sp - 1, S.st, S.cs⟩) := fun k =>
    (h.keep (grown_drewN w k none)).setSt _ _ _ ((ho (S.sp - 1) (by omega)).keep (grown_drewN w k none) (by simp)) (fun g e => h.own g (by rw [hv]; exact e))
  have ct := hc (S.sp - 1) (by omega)
  rw [hv] at c2
  clear h hc ho hv
  generalize S.sp = sp at *
  unfold maxLen at hmax
  go_enter Tryz.func82, Tryz.ntmps82
  go_wp2
  go_quiet (fail)
  go_wp2
  go_region
  all_goals go_wp2
  all_goals go_ret
  exact ⟨rfl, _, (HR _).out⟩
theorem Src.cell {w : World} {k : IntKind} {ao : Option Addr} {n : Nat} {g : Nat → Int} (h : Src w k ao n g) {j : Nat} (hj : j < n) : ∃ b off, ao = some ⟨b, off, none⟩ ∧ Row w k b off n g := h (by omega)
set_option maxRecDepth 100000 in
set_option maxHeartbeats 400000 in
theorem rfits_end (w0 w : World) (M CB : Nat) (co : Option Addr) (n c : Nat) (pv sv : Value) (S : Mst) (h : RM w0 w M CB (.slice co n c) pv sv S) (hpc : ¬ S.pc < n) :
    Calls Tryz.prog 50 #[.pointer (some ⟨M, 0, none⟩)] w fun e w' => e = .returned (.bool false) ∧ w.grownBy w' none := by
  obtain ⟨⟨c0, c1, c2, c3, c4⟩, f2, f4⟩ := h.cells
  clear h
  go_enter Tryz.func50, Tryz.ntmps50
  go_wp2
  go_quiet (fail)
  go_wp2
  go_ret
  exact ⟨rfl, grown_drewN _ _ _⟩
set_option maxRecDepth 100000 in
set_option maxHeartbeats 400000 in
theorem rfits_none (w0 w : World) (M CB b off n c : Nat) (g : Nat → Int) (pv sv : Value) (S : Mst) (h : RM w0 w M CB (.slice (some ⟨b, off, none⟩) n c) pv sv S) (hg : Oct g) (hR : Row w .u8 b off n g) (hpc : S.pc < n) (hc : shp (g S.pc) = none) :
    Calls Tryz.prog 50 #[.pointer (some ⟨M, 0, none⟩)] w fun e w' => e = .returned (.bool false) ∧ w.grownBy w' none := by
  obtain ⟨⟨c0, c1, c2, c3, c4⟩, f2, f4⟩ := h.cells
  have cc := hR S.pc hpc
  have hb := hg S.pc
  clear h hR
  generalize g S.pc = C at *
  go_enter Tryz.func50, Tryz.ntmps50
  go_wp2
  go_quiet (fail)
  go_wp2
  go_quiet (fail)
  go_wp2_with (go_at_call 81; refine (operands_none _ _ hc).mono ?_; rintro e w1 ⟨rfl, hg1⟩)
  go_quiet (fail)
  go_wp2
  go_ret
  exact ⟨rfl, grown_none (grown_undrewN hg1) (grown_drewN _ _ _)⟩
theorem RM.slice {w0 w : World} {M CB : Nat} {cv pv sv : Value} {S : Mst} (h : RM w0 w M CB cv pv sv S) : ∃ ao cap, sv = .slice ao S.sp cap := by
  obtain ⟨ao, cap, h1, _⟩ := h.st
  exact ⟨ao, cap, h1⟩
theorem shp_bd {c : Int} {s : Shp} (h : shp c = some s) : s.wh + s.nb ≤ 4 ∧ s.po ≤ 2 ∧ s.pu ≤ 1 := by
  rcases shp_cases h with ⟨rfl, rfl⟩ | ⟨rfl, rfl⟩ | ⟨rfl, rfl⟩ | ⟨rfl, rfl⟩ | ⟨rfl, rfl⟩ | ⟨rfl, rfl⟩ | ⟨rfl, rfl⟩ | ⟨rfl, rfl⟩ | ⟨rfl, rfl⟩ <;> simp
theorem RM.facts {w0 w : World} {M CB b off n c : Nat} {g : Nat → Int} {pv : Value} {ao : Option Addr} {cap : Nat} {S : Mst} (h : RM w0 w M CB (.slice (some ⟨b, off, none⟩) n c) pv (.slice ao S.sp cap) S) (hR : Row w .u8 b off n g) :
    (∀ (k : Nat) (w' : World), (w.drewN k).grownBy w' none → w'.cell? ⟨M, 0, none⟩ = some (.slice (some ⟨b, off, none⟩) n c) ∧ w'.cell? ⟨M, 2, none⟩ = some (.slice ao S.sp cap) ∧ w'.cell? ⟨M, 4, none⟩ = some (.int .i64 S.pc)) ∧
    (∀ (k : Nat) (w' : World), (w.drewN k).grownBy w' none → S.pc + 2 ≤ n → w'.cell? ⟨b, off + (S.pc + 1), none⟩ = some (.int .u8 (g (S.pc + 1)))) := by
  obtain ⟨⟨c0, c1, c2, c3, c4⟩, f2, f4⟩ := h.cells
  exact ⟨fun k w' hw => ⟨hw.cell c0 (by simp), hw.cell c2 (by simp), hw.cell c4 (by simp)⟩, fun k w' hw hl => hw.cell (hR (S.pc + 1) (by omega)) (by simp)⟩
theorem wrap_nat (k : Nat) (h : k ≤ 9223372036854775807) : IntKind.i64.wrap (k : Int) = k := by rw [IntKind.wrap_i64]; omega
set_option maxRecDepth 100000 in
set_option maxHeartbeats 1000000 in
theorem rfits_no (w0 w : World) (M CB b off n c : Nat) (g : Nat → Int) (pv sv : Value) (S : Mst) (s : Shp) (hn : n ≤ 140737488355328) (h8 : S.sp ≤ 8) (h : RM w0 w M CB (.slice (some ⟨b, off, none⟩) n c) pv sv S) (hR : Row w .u8 b off n g) (hg : Oct g) (hpc : S.pc < n) (hc : shp (g S.pc) = some s)
    (hno : ¬ S.pc + 1 + s.wh + s.nb ≤ n ∨ ¬ s.po ≤ S.sp ∨ ¬ S.sp - s.po + s.pu ≤ 8) :
    Calls Tryz.prog 50 #[.pointer (some ⟨M, 0, none⟩)] w fun e w' => e = .returned (.bool false) ∧ w.grownBy w' none := by
  obtain ⟨ao, cap, rfl⟩ := h.slice
  obtain ⟨⟨c0, c1, c2, c3, c4⟩, f2, f4⟩ := h.cells
  obtain ⟨cM, _⟩ := h.facts hR
  have cc := hR S.pc hpc
  have hb := hg S.pc
  obtain ⟨k4, p2, u1⟩ := shp_bd hc
  have HC : Hid (shp (g S.pc) = some s) := hc
  obtain ⟨k, hk⟩ : ∃ k, k = s.wh + s.nb := ⟨_, rfl⟩
  have hno' : ¬ S.pc + 1 + k ≤ n ∨ ¬ s.po ≤ S.sp ∨ ¬ S.sp - s.po + s.pu ≤ 8 := by rw [hk, ← Nat.add_assoc]; exact hno
  have HO : Hid (∀ w, Calls Tryz.prog 81 #[.int .i64 (g S.pc)] w fun e w' => e = .returned (.tuple #[.int .i64 k, .int .i64 s.po, .int .i64 s.pu]) ∧ w.grownBy w' none) := fun w => by rw [hk]; exact operands_some _ _ w hc
  rw [← hk] at k4
  clear h hR hc hk HC hno hg
  generalize g S.pc = C at *
  generalize S.pc = pc at *
  generalize S.sp = sp at *
  generalize s.po = po at *
  generalize s.pu = pu at *
  have W1 : IntKind.i64.wrap ((pc : Int) + 1) = (pc : Int) + 1 := by rw [IntKind.wrap_i64]; omega
  have W2 : IntKind.i64.wrap ((pc : Int) + 1 + (k : Int)) = (pc : Int) + 1 + (k : Int) := by rw [IntKind.wrap_i64]; omega
  have t0 : decide ((k : Int) < 0) = false := by simp
  by_cases hA : pc + 1 + k ≤ n
  · have tA : decide (n < pc + 1 + k) = false := by simp; omega
    have tA' : decide ((n : Int) < (pc : Int) + 1 + (k : Int)) = false := by simp; omega
    by_cases hB : po ≤ sp
    · have tB : decide (sp < po) = false := by simp; omega
      have tB' : decide ((sp : Int) < (po : Int)) = false := by simp; omega
      have V1 : IntKind.i64.wrap ((sp : Int) - (po : Int)) = (sp : Int) - (po : Int) := by rw [IntKind.wrap_i64]; omega
      have V2 : IntKind.i64.wrap ((sp : Int) - (po : Int) + (pu : Int)) = (sp : Int) - (po : Int) + (pu : Int) := by rw [IntKind.wrap_i64]; omega
      have tC' : decide ((8 : Int) < (sp : Int) - (po : Int) + (pu : Int)) = true := by simp; omega
      clear hno'
      go_enter Tryz.func50, Tryz.ntmps50
      go_wp2
      go_quiet (fail)
      go_wp2
      go_quiet (fail)
      go_wp2_with (go_at_call 81; refine (HO.out _).mono ?_; rintro e w1 ⟨rfl, hg1⟩; obtain ⟨d0, d2, d4⟩ := cM _ _ hg1)
      go_quiet (fail)
      go_wp2
      go_ret
      exact ⟨rfl, grown_none (grown_undrewN hg1) (grown_drewN _ _ _)⟩
    · have tB : decide (sp < po) = true := by simp; omega
      have tB' : decide ((sp : Int) < (po : Int)) = true := by simp; omega
      clear hno'
      go_enter Tryz.func50, Tryz.ntmps50
      go_wp2
      go_quiet (fail)
      go_wp2
      go_quiet (fail)
      go_wp2_with (go_at_call 81; refine (HO.out _).mono ?_; rintro e w1 ⟨rfl, hg1⟩; obtain ⟨d0, d2, d4⟩ := cM _ _ hg1)
      go_quiet (fail)
      go_wp2
      go_ret
      exact ⟨rfl, grown_none (grown_undrewN hg1) (grown_drewN _ _ _)⟩
  · have tA : decide (n < pc + 1 + k) = true := by simp; omega
    have tA' : decide ((n : Int) < (pc : Int) + 1 + (k : Int)) = true := by simp; omega
    clear hno'
    go_enter Tryz.func50, Tryz.ntmps50
    go_wp2
    go_quiet (fail)
    go_wp2
    go_quiet (fail)
    go_wp2_with (go_at_call 81; refine (HO.out _).mono ?_; rintro e w1 ⟨rfl, hg1⟩; obtain ⟨d0, d2, d4⟩ := cM _ _ hg1)
    go_quiet (fail)
    go_wp2
    go_ret
    exact ⟨rfl, grown_none (grown_undrewN hg1) (grown_drewN _ _ _)⟩
end Go.Proofs.YthbcfepbkkbjiaaGreatDoor
namespace Go.Proofs.YthbcfepbkkbjiaaGreatDoor
open Go.RowKit
set_option linter.unusedVariables false
set_option maxRecDepth 100000 in
set_option maxHeartbeats 2000000 in
theorem rfits_yes (w0 w : World) (M CB b off n c : Nat) (g : Nat → Int) (pv sv : Value) (S : Mst) (s : Shp) (hn : n ≤ 140737488355328) (h8 : S.sp ≤ 8) (h : RM w0 w M CB (.slice (some ⟨b, off, none⟩) n c) pv sv S) (hR : Row w .u8 b off n g) (hg : Oct g) (hpc : S.pc < n) (hc : shp (g S.pc) = some s)
    (hA : S.pc + 1 + s.wh + s.nb ≤ n) (hB : s.po ≤ S.sp) (hC : S.sp - s.po + s.pu ≤ 8) :
    Calls Tryz.prog 50 #[.pointer (some ⟨M, 0, none⟩)] w fun e w' => e = .returned (.bool (knw (g S.pc) (g (S.pc + 1)))) ∧ w.grownBy w' none := by
  obtain ⟨ao, cap, rfl⟩ := h.slice
  obtain ⟨⟨c0, c1, c2, c3, c4⟩, f2, f4⟩ := h.cells
  obtain ⟨cM, cO⟩ := h.facts hR
  have cc := hR S.pc hpc
  have hb := hg (S.pc + 1)
  obtain ⟨k4, p2, u1⟩ := shp_bd hc
  obtain ⟨k, hk⟩ : ∃ k, k = s.wh + s.nb := ⟨_, rfl⟩
  have HO : Hid (∀ w, Calls Tryz.prog 81 #[.int .i64 (g S.pc)] w fun e w' => e = .returned (.tuple #[.int .i64 k, .int .i64 s.po, .int .i64 s.pu]) ∧ w.grownBy w' none) := fun w => by rw [hk]; exact operands_some _ _ w hc
  have hcs : (g S.pc = 1 ∧ 0 < k) ∨ (g S.pc = 2 ∧ 0 < k) ∨ (g S.pc = 3 ∧ 0 < k) ∨ (g S.pc = 4 ∧ 0 < k) ∨ (g S.pc = 5 ∧ 0 < k) ∨ (g S.pc = 6 ∧ k = 0) ∨ (g S.pc = 7 ∧ 0 < k) ∨ (g S.pc = 8 ∧ 0 < k) ∨ (g S.pc = 9 ∧ k = 0) := by
    rw [hk]
    rcases shp_cases hc with ⟨h, rfl⟩ | ⟨h, rfl⟩ | ⟨h, rfl⟩ | ⟨h, rfl⟩ | ⟨h, rfl⟩ | ⟨h, rfl⟩ | ⟨h, rfl⟩ | ⟨h, rfl⟩ | ⟨h, rfl⟩ <;> simp [h]
  have hA' : S.pc + 1 + k ≤ n := by rw [hk, ← Nat.add_assoc]; exact hA
  rw [← hk] at k4
  clear h hR hc hk hg hA
  generalize g (S.pc + 1) = o at *
  generalize g S.pc = C at *
  generalize S.pc = pc at *
  generalize S.sp = sp at *
  generalize s.po = po at *
  generalize s.pu = pu at *
  have W1 : IntKind.i64.wrap ((pc : Int) + 1) = (pc : Int) + 1 := by rw [IntKind.wrap_i64]; omega
  have W2 : IntKind.i64.wrap ((pc : Int) + 1 + (k : Int)) = (pc : Int) + 1 + (k : Int) := by rw [IntKind.wrap_i64]; omega
  have t0 : decide ((k : Int) < 0) = false := by simp
  have tA : decide (n < pc + 1 + k) = false := by simp; omega
  have tA' : decide ((n : Int) < (pc : Int) + 1 + (k : Int)) = false := by simp; omega
  have tB : decide (sp < po) = false := by simp; omega
  have tB' : decide ((sp : Int) < (po : Int)) = false := by simp; omega
  have V1 : IntKind.i64.wrap ((sp : Int) - (po : Int)) = (sp : Int) - (po : Int) := by rw [IntKind.wrap_i64]; omega
  have V2 : IntKind.i64.wrap ((sp : Int) - (po : Int) + (pu : Int)) = (sp : Int) - (po : Int) + (pu : Int) := by rw [IntKind.wrap_i64]; omega
  have tC' : decide ((8 : Int) < (sp : Int) - (po : Int) + (pu : Int)) = false := by simp; omega
  have kn : ∀ o, knw 2 o = decide (o ≤ 17) ∧ knw 3 o = decide (o ≤ 17) ∧ knw 4 o = decide (o ≤ 9) ∧ knw 8 o = decide (o ≤ 3) := fun o => ⟨rfl, rfl, rfl, rfl⟩
  rcases hcs with ⟨rfl, hk0⟩ | ⟨rfl, hk0⟩ | ⟨rfl, hk0⟩ | ⟨rfl, hk0⟩ | ⟨rfl, hk0⟩ | ⟨rfl, hk0⟩ | ⟨rfl, hk0⟩ | ⟨rfl, hk0⟩ | ⟨rfl, hk0⟩
  · clear kn
    go_enter Tryz.func50, Tryz.ntmps50
    go_wp2
    go_quiet (fail)
    go_wp2
    go_quiet (fail)
    go_wp2_with (go_at_call 81; refine (HO.out _).mono ?_; rintro e w1 ⟨rfl, hg1⟩; obtain ⟨d0, d2, d4⟩ := cM _ _ hg1; have d5 := cO _ _ hg1 (by omega))
    go_quiet (fail)
    go_wp2
    go_quiet (fail)
    go_wp2
    go_ret
    exact ⟨rfl, grown_none (grown_undrewN hg1) (grown_drewN _ _ _)⟩
  · clear kn
    go_enter Tryz.func50, Tryz.ntmps50
    go_wp2
    go_quiet (fail)
    go_wp2
    go_quiet (fail)
    go_wp2_with (go_at_call 81; refine (HO.out _).mono ?_; rintro e w1 ⟨rfl, hg1⟩; obtain ⟨d0, d2, d4⟩ := cM _ _ hg1; have d5 := cO _ _ hg1 (by omega))
    go_quiet (fail)
    go_wp2
    go_quiet (fail)
    go_wp2
    go_ret
    exact ⟨rfl, grown_none (grown_undrewN hg1) (grown_drewN _ _ _)⟩
  · clear kn
    go_enter Tryz.func50, Tryz.ntmps50
    go_wp2
    go_quiet (fail)
    go_wp2
    go_quiet (fail)
    go_wp2_with (go_at_call 81; refine (HO.out _).mono ?_; rintro e w1 ⟨rfl, hg1⟩; obtain ⟨d0, d2, d4⟩ := cM _ _ hg1; have d5 := cO _ _ hg1 (by omega))
    go_quiet (fail)
    go_wp2
    go_quiet (fail)
    go_wp2
    go_ret
    exact ⟨rfl, grown_none (grown_undrewN hg1) (grown_drewN _ _ _)⟩
  · clear kn
    go_enter Tryz.func50, Tryz.ntmps50
    go_wp2
    go_quiet (fail)
    go_wp2
    go_quiet (fail)
    go_wp2_with (go_at_call 81; refine (HO.out _).mono ?_; rintro e w1 ⟨rfl, hg1⟩; obtain ⟨d0, d2, d4⟩ := cM _ _ hg1; have d5 := cO _ _ hg1 (by omega))
    go_quiet (fail)
    go_wp2
    go_quiet (fail)
    go_wp2
    go_ret
    exact ⟨rfl, grown_none (grown_undrewN hg1) (grown_drewN _ _ _)⟩
  · by_cases o1 : o = 1
    · subst o1
      clear kn
      go_enter Tryz.func50, Tryz.ntmps50
      go_wp2
      go_quiet (fail)
      go_wp2
      go_quiet (fail)
      go_wp2_with (go_at_call 81; refine (HO.out _).mono ?_; rintro e w1 ⟨rfl, hg1⟩; obtain ⟨d0, d2, d4⟩ := cM _ _ hg1; have d5 := cO _ _ hg1 (by omega))
      go_quiet (fail)
      go_wp2
      go_quiet (fail)
      go_wp2
      go_ret
      exact ⟨rfl, grown_none (grown_undrewN hg1) (grown_drewN _ _ _)⟩
    by_cases o2 : o = 2
    · subst o2
      clear kn
      go_enter Tryz.func50, Tryz.ntmps50
      go_wp2
      go_quiet (fail)
      go_wp2
      go_quiet (fail)
      go_wp2_with (go_at_call 81; refine (HO.out _).mono ?_; rintro e w1 ⟨rfl, hg1⟩; obtain ⟨d0, d2, d4⟩ := cM _ _ hg1; have d5 := cO _ _ hg1 (by omega))
      go_quiet (fail)
      go_wp2
      go_quiet (fail)
      go_wp2
      go_ret
      exact ⟨rfl, grown_none (grown_undrewN hg1) (grown_drewN _ _ _)⟩
    by_cases o4 : o = 4
    · subst o4
      clear kn
      go_enter Tryz.func50, Tryz.ntmps50
      go_wp2
      go_quiet (fail)
      go_wp2
      go_quiet (fail)
      go_wp2_with (go_at_call 81; refine (HO.out _).mono ?_; rintro e w1 ⟨rfl, hg1⟩; obtain ⟨d0, d2, d4⟩ := cM _ _ hg1; have d5 := cO _ _ hg1 (by omega))
      go_quiet (fail)
      go_wp2
      go_quiet (fail)
      go_wp2
      go_ret
      exact ⟨rfl, grown_none (grown_undrewN hg1) (grown_drewN _ _ _)⟩
    have q1 : (o == 1) = false := by simp [o1]
    have q2 : (o == 2) = false := by simp [o2]
    have q4 : (o == 4) = false := by simp [o4]
    have KN : knw 5 o = false := by simp [knw, o1, o2, o4]
    rw [KN]
    clear kn
    go_enter Tryz.func50, Tryz.ntmps50
    go_wp2
    go_quiet (fail)
    go_wp2
    go_quiet (fail)
    go_wp2_with (go_at_call 81; refine (HO.out _).mono ?_; rintro e w1 ⟨rfl, hg1⟩; obtain ⟨d0, d2, d4⟩ := cM _ _ hg1; have d5 := cO _ _ hg1 (by omega))
    go_quiet (fail)
    go_wp2
    go_quiet (fail)
    go_wp2
    go_ret
    exact ⟨rfl, grown_none (grown_undrewN hg1) (grown_drewN _ _ _)⟩
  · have tk : decide (0 < (k : Int)) = false := by simp; omega
    have tk' : decide (0 < k) = false := by simp; omega
    clear kn hk0 k4
    go_enter Tryz.func50, Tryz.ntmps50
    go_wp2
    go_quiet (fail)
    go_wp2
    go_quiet (fail)
    go_wp2_with (go_at_call 81; refine (HO.out _).mono ?_; rintro e w1 ⟨rfl, hg1⟩; obtain ⟨d0, d2, d4⟩ := cM _ _ hg1)
    go_quiet (fail)
    go_wp2
    go_ret
    exact ⟨rfl, grown_none (grown_undrewN hg1) (grown_drewN _ _ _)⟩
  · clear kn
    go_enter Tryz.func50, Tryz.ntmps50
    go_wp2
    go_quiet (fail)
    go_wp2
    go_quiet (fail)
    go_wp2_with (go_at_call 81; refine (HO.out _).mono ?_; rintro e w1 ⟨rfl, hg1⟩; obtain ⟨d0, d2, d4⟩ := cM _ _ hg1; have d5 := cO _ _ hg1 (by omega))
    go_quiet (fail)
    go_wp2
    go_quiet (fail)
    go_wp2
    go_ret
    exact ⟨rfl, grown_none (grown_undrewN hg1) (grown_drewN _ _ _)⟩
  · clear kn
    go_enter Tryz.func50, Tryz.ntmps50
    go_wp2
    go_quiet (fail)
    go_wp2
    go_quiet (fail)
    go_wp2_with (go_at_call 81; refine (HO.out _).mono ?_; rintro e w1 ⟨rfl, hg1⟩; obtain ⟨d0, d2, d4⟩ := cM _ _ hg1; have d5 := cO _ _ hg1 (by omega))
    go_quiet (fail)
    go_wp2
    go_quiet (fail)
    go_wp2
    go_ret
    exact ⟨rfl, grown_none (grown_undrewN hg1) (grown_drewN _ _ _)⟩
  · have tk : decide (0 < (k : Int)) = false := by simp; omega
    have tk' : decide (0 < k) = false := by simp; omega
    clear kn hk0 k4
    go_enter Tryz.func50, Tryz.ntmps50
    go_wp2
    go_quiet (fail)
    go_wp2
    go_quiet (fail)
    go_wp2_with (go_at_call 81; refine (HO.out _).mono ?_; rintro e w1 ⟨rfl, hg1⟩; obtain ⟨d0, d2, d4⟩ := cM _ _ hg1)
    go_quiet (fail)
    go_wp2
    go_ret
    exact ⟨rfl, grown_none (grown_undrewN hg1) (grown_drewN _ _ _)⟩
theorem rfits_any (w0 w : World) (M CB : Nat) (co : Option Addr) (n c : Nat) (g : Nat → Int) (pv sv : Value) (S : Mst) (hn : n ≤ 140737488355328) (h8 : S.sp ≤ 8) (h : RM w0 w M CB (.slice co n c) pv sv S) (hs : Src w .u8 co n g) (hg : Oct g) :
    Calls Tryz.prog 50 #[.pointer (some ⟨M, 0, none⟩)] w fun e w' => e = .returned (.bool (fitB g n S)) ∧ w.grownBy w' none := by
  by_cases hpc : S.pc < n
  · obtain ⟨b, off, rfl, hR⟩ := hs (by omega)
    cases hc : shp (g S.pc) with
    | none => rw [fit_none hc]; exact rfits_none w0 w M CB b off n c g pv sv S h hg hR hpc hc
    | some s =>
      by_cases hno : ¬ S.pc + 1 + s.wh + s.nb ≤ n ∨ ¬ s.po ≤ S.sp ∨ ¬ S.sp - s.po + s.pu ≤ 8
      · have : fitB g n S = false := by
          rw [fit_some hpc hc]
          rcases hno with h | h | h <;> simp [h]
        rw [this]
        exact rfits_no w0 w M CB b off n c g pv sv S s hn h8 h hR hg hpc hc hno
      · simp only [not_or, Classical.not_not] at hno
        obtain ⟨hA, hB, hC⟩ := hno
        have : fitB g n S = knw (g S.pc) (g (S.pc + 1)) := by rw [fit_some hpc hc]; simp [hA, hB, hC]
        rw [this]
        exact rfits_yes w0 w M CB b off n c g pv sv S s hn h8 h hR hg hpc hc hA hB hC
  · rw [fit_end hpc]
    exact rfits_end w0 w M CB co n c pv sv S h hpc
end Go.Proofs.YthbcfepbkkbjiaaGreatDoor
namespace Go.Proofs.YthbcfepbkkbjiaaGreatDoor
open Go.RowKit
set_option linter.unusedVariables false
theorem push_fun (k : IntKind) (f : Nat → Int) (n : Nat) (x : Int) (j : Nat) (hj : j < (n + 1) * 1) : (if j < n * 1 then ints k f j else (#[Value.int k x] : Array Value).getD (j - n * 1) .nilFunc) = ints k (upd f n x) j := by
  by_cases h : j < n
  · rw [if_pos (by omega)]
    show Value.int k (f j) = .int k (upd f n x j)
    unfold upd; rw [if_neg (by omega)]
  · have e : j = n := by omega
    subst e
    rw [if_neg (by omega)]
    show (#[Value.int k x] : Array Value).getD (j - j * 1) .nilFunc = .int k (upd f j x j)
    rw [show j - j * 1 = 0 by omega]
    unfold upd; rw [if_pos rfl]; rfl
theorem wp_push {P : Program} (w w0 : World) {o : Oper} {a : Act} {K : Act → World → Prop} {Q : Exit → Act → World → Prop}
    (s x : Operand) (t : TypeId) (ho : o.op = .call { callee := .builtin .append, args := #[s, x], argTypes := #[t, t] })
    (e : TypeId) (i : TypeInfo) (z : Value) (bytes : Nat) (ht : P.underlying t = some (.slice e)) (hi : P.info? e = some i) (hz : i.zero = some z)
    (hsize : i.size = 1) (hby : i.bytes = bytes) (hzs : z.cells.size = 1)
    (k : IntKind) (v : Value) (n : Nat) (f : Nat → Int) (hs : a.eval s = v) (hv : Out w w0.heap.size e 1 v n (ints k f)) (hgr : w0.grownBy w none)
    (B c : Nat) (X : Int) (te : TypeId) (hx : a.eval x = .slice (some ⟨B, 0, none⟩) 1 c) (hB : w.heap[B]? = some (.cells #[.int k X] te (0, 0)))
    (h63 : n ≤ 100) (hbb : bytes ≤ 100)
    (h : ∀ g' cap' w', Out w' w0.heap.size e 1 (.slice (some ⟨g', 0, none⟩) (n + 1) cap') (n + 1) (ints k (upd f n X)) → w0.grownBy w' none → w.grownBy w' v.ownBlock → (v.ownBlock = some g' ∨ w.heap.size ≤ g') →
      K (a.put o.dst (.slice (some ⟨g', 0, none⟩) (n + 1) cap')) w') : o.wp P a w K Q := by
  obtain ⟨ao, cap, rfl, h2⟩ := hv
  have hbytes : (n + 1) * bytes ≤ 140737488355328 := by
    have := Nat.mul_le_mul (show n + 1 ≤ 101 by omega) hbb
    omega
  refine wp_append_blk w s x t ho e i z 1 bytes ht hi hz hsize hby hzs (by decide) ao n cap (ints k f) hs ?_ B 1 c #[.int k X] te hx hB rfl (by simp [Value.oneCell']) (by decide) (by unfold maxLen; omega) hbytes fun g' cap' w' hb hc hm' hor => ?_
  · rcases h2 with h2 | ⟨g, h3, h4, h5, h6⟩
    · exact Or.inl h2
    · exact Or.inr ⟨g, h3, h5, h6⟩
  · have hb' := hb.congr fun j hj => push_fun k f n X j hj
    rcases hor with ⟨_, e1, rfl, hg⟩ | ⟨_, hlt, hg⟩
    · rcases h2 with ⟨e2, _⟩ | ⟨g, h3, h4, h5, h6⟩
      · rw [e2] at e1; cases e1
      · rw [h3] at e1; cases e1
        exact h g' cap' w' ⟨_, cap', rfl, Or.inr ⟨g', rfl, h4, hb', hc, hm'⟩⟩ (grown_new none hgr hg h4) (by rw [h3]; exact hg) (Or.inl (by rw [h3]; rfl))
    · exact h g' cap' w' ⟨_, cap', rfl, Or.inr ⟨g', rfl, Nat.le_trans hgr.size hlt, hb', hc, hm'⟩⟩ (grown_trans hgr hg) (grown_weak hg _) (Or.inr hlt)
theorem wpList_push {P : Program} (w w0 : World) {ops : Array Oper} {rest : List Oper} {o : Oper} {a : Act} {Q : Exit → Act → World → Prop} (hgd : o.guard = none)
    (s x : Operand) (t : TypeId) (ho : o.op = .call { callee := .builtin .append, args := #[s, x], argTypes := #[t, t] })
    (e : TypeId) (i : TypeInfo) (z : Value) (bytes : Nat) (ht : P.underlying t = some (.slice e)) (hi : P.info? e = some i) (hz : i.zero = some z)
    (hsize : i.size = 1) (hby : i.bytes = bytes) (hzs : z.cells.size = 1)
    (k : IntKind) (v : Value) (n : Nat) (f : Nat → Int) (hs : a.eval s = v) (hv : Out w w0.heap.size e 1 v n (ints k f)) (hgr : w0.grownBy w none)
    (B c : Nat) (X : Int) (te : TypeId) (hx : a.eval x = .slice (some ⟨B, 0, none⟩) 1 c) (hB : w.heap[B]? = some (.cells #[.int k X] te (0, 0)))
    (h63 : n ≤ 100) (hbb : bytes ≤ 100)
    (h : ∀ g' cap' w', Out w' w0.heap.size e 1 (.slice (some ⟨g', 0, none⟩) (n + 1) cap') (n + 1) (ints k (upd f n X)) → w0.grownBy w' none → w.grownBy w' v.ownBlock → (v.ownBlock = some g' ∨ w.heap.size ≤ g') →
      wpList P ops Q rest (a.put o.dst (.slice (some ⟨g', 0, none⟩) (n + 1) cap')) w') : wpList P ops Q (o :: rest) a w :=
  wpList_plain hgd fun _ hK => wp_push w w0 s x t ho e i z bytes ht hi hz hsize hby hzs k v n f hs hv hgr B c X te hx hB h63 hbb fun g' cap' w' h2 h3 h4 h5 => hK _ _ (h g' cap' w' h2 h3 h4 h5)
theorem step_push {P : Program} (w w0 : World) {ops : Array Oper} {o : Oper} {a : Act} {K : Act → World → Prop} {Q : Exit → Act → World → Prop} {E : Prop} (hgd : o.guard = none)
    (s x : Operand) (t : TypeId) (ho : o.op = .call { callee := .builtin .append, args := #[s, x], argTypes := #[t, t] })
    (e : TypeId) (i : TypeInfo) (z : Value) (bytes : Nat) (ht : P.underlying t = some (.slice e)) (hi : P.info? e = some i) (hz : i.zero = some z)
    (hsize : i.size = 1) (hby : i.bytes = bytes) (hzs : z.cells.size = 1)
    (k : IntKind) (v : Value) (n : Nat) (f : Nat → Int) (hs : a.eval s = v) (hv : Out w w0.heap.size e 1 v n (ints k f)) (hgr : w0.grownBy w none)
    (B c : Nat) (X : Int) (te : TypeId) (hx : a.eval x = .slice (some ⟨B, 0, none⟩) 1 c) (hB : w.heap[B]? = some (.cells #[.int k X] te (0, 0)))
    (h63 : n ≤ 100) (hbb : bytes ≤ 100)
    (h : ∀ g' cap' w', Out w' w0.heap.size e 1 (.slice (some ⟨g', 0, none⟩) (n + 1) cap') (n + 1) (ints k (upd f n X)) → w0.grownBy w' none → w.grownBy w' v.ownBlock → (v.ownBlock = some g' ∨ w.heap.size ≤ g') →
      K (a.put o.dst (.slice (some ⟨g', 0, none⟩) (n + 1) cap')) w') :
    if Region.wanted o (yielded ops a.tmps) = true then Oper.wp P o a w K Q else E := by
  have hw : Region.wanted o (yielded ops a.tmps) = true := by simp [Region.wanted, hgd]
  rw [if_pos hw]
  exact wp_push w w0 s x t ho e i z bytes ht hi hz hsize hby hzs k v n f hs hv hgr B c X te hx hB h63 hbb h
theorem Tryz.infoInt1 : (Tryz.prog.info? 3).map (fun i => (i.zero, i.size, i.bytes)) = some (some (.int .i64 0), 1, 8) := by kernel_rfl
theorem RM.append {w0 w w' : World} {M CB : Nat} {cv pv sv : Value} {S : Mst} (h : RM w0 w M CB cv pv sv S) {g' cap' n' : Nat} {st' : Nat → Int} (hg0 : w0.grownBy w' none) (hg : w.grownBy w' sv.ownBlock)
    (ho : Out w' w0.heap.size 3 1 (.slice (some ⟨g', 0, none⟩) n' cap') n' (ints .i64 st')) (hor : sv.ownBlock = some g' ∨ w.heap.size ≤ g') :
    (w'.cell? ⟨M, 2, none⟩ = some sv ∧ w'.frozen? ⟨M, 2, none⟩ = false) ∧ RM w0 (w'.setCell ⟨M, 2, none⟩ (.slice (some ⟨g', 0, none⟩) n' cap')) M CB cv pv (.slice (some ⟨g', 0, none⟩) n' cap') ⟨S.pc, n', st', S.cs⟩ := by
  have nM : some M ≠ sv.ownBlock := fun e => (h.own M e.symm).1 rfl
  have nC : some CB ≠ sv.ownBlock := fun e => (h.own CB e.symm).2 rfl
  have hm := h.m.keep hg nM
  have hc := h.cs.keep hg nC
  have own' : ∀ g, (Value.slice (some ⟨g', 0, none⟩) n' cap').ownBlock = some g → g ≠ M ∧ g ≠ CB := by
    intro g e
    have e2 : g' = g := by cases e; rfl
    subst e2
    rcases hor with e | e
    · exact h.own g' e
    · have := h.m.lt; have := h.cs.lt; exact ⟨by omega, by omega⟩
  refine ⟨⟨hm.cell (j := 2) (by omega), hm.frozen 2⟩, ?_⟩
  have hs := grown_setCell w' ⟨M, 2, none⟩ (.slice (some ⟨g', 0, none⟩) n' cap')
  refine ⟨grown_set hg0 h.hM _, h.hM, h.hC, h.ne, (hm.set' (j := 2) (by omega) _).congr fun j hj => ?_, ho.other hs (fun g e => (own' g e).1), own', hc.keep hs (by simp; exact fun e => h.ne e.symm)⟩
  match j, hj with
  | 0, _ => rfl
  | 1, _ => rfl
  | 2, _ => rfl
  | 3, _ => rfl
  | 4, _ => rfl
theorem RM.setPc' {w0 w : World} {M CB : Nat} {cv pv sv : Value} {S : Mst} (h : RM w0 w M CB cv pv sv S) (pc : Nat) (v : Int) (hv : v = pc) : RM w0 (w.setCell ⟨M, 4, none⟩ (.int .i64 v)) M CB cv pv sv ⟨pc, S.sp, S.st, S.cs⟩ := by
  subst hv; exact h.setPc pc
theorem rbytes_code (w0 w : World) (b off n c : Nat) (g : Nat → Int) (k q o s : Nat) (hgr : w0.grownBy w none) (hrow : Row w0 .u8 b off n g) (hg : Oct g) (hs : s ≤ 4) (hk : o + s ≤ k) (hq : q + k ≤ n) (hn : n ≤ 140737488355328) :
    Calls Tryz.prog 83 #[.slice (some ⟨b, off + q, none⟩) k c, .int .i64 o, .int .i64 s] w fun e w' => e = .returned (.tuple #[.int .i64 (be g (q + o) s), .bool true]) ∧ w.grownBy w' none := by
  have := rbytes_ok b (off + q) k c o s (fun j => g (q + j)) w hs (by unfold maxLen; omega) hk (fun j => hg _) ((hrow.keep hgr (by simp)).part hq)
  rw [be_shift] at this
  exact this
theorem step_pushR (w w0 : World) {ops : Array Oper} {o : Oper} {a : Act} {K : Act → World → Prop} {Q : Exit → Act → World → Prop} {E : Prop} (hgd : o.guard = none)
    (s x : Operand) (ho : o.op = .call { callee := .builtin .append, args := #[s, x], argTypes := #[66, 66] })
    {M CB : Nat} {cv pv : Value} (sv : Value) (S : Mst) (hs : a.eval s = sv) (h : RM w0 w M CB cv pv sv S)
    (B c : Nat) (X : Int) (te : TypeId) (hx : a.eval x = .slice (some ⟨B, 0, none⟩) 1 c) (hB : w.heap[B]? = some (.cells #[.int .i64 X] te (0, 0))) (h63 : S.sp ≤ 100)
    (hK : ∀ g' cap' w', w'.cell? ⟨M, 2, none⟩ = some sv → w'.frozen? ⟨M, 2, none⟩ = false → RM w0 (w'.setCell ⟨M, 2, none⟩ (.slice (some ⟨g', 0, none⟩) (S.sp + 1) cap')) M CB cv pv (.slice (some ⟨g', 0, none⟩) (S.sp + 1) cap') ⟨S.pc, S.sp + 1, upd S.st S.sp X, S.cs⟩ →
      K (a.put o.dst (.slice (some ⟨g', 0, none⟩) (S.sp + 1) cap')) w') :
    if Region.wanted o (yielded ops a.tmps) = true then Oper.wp Tryz.prog o a w K Q else E := by
  obtain ⟨i0, hi, hz0, hz1, hz2⟩ := info_parts Tryz.infoInt1
  refine step_push w w0 hgd s x 66 ho 3 i0 (.int .i64 0) 8 Tryz.underlying66 hi hz0 hz1 hz2 rfl .i64 sv S.sp S.st hs h.st h.gr B c X te hx hB h63 (by decide) fun g' cap' w' o2 gr2 k2 u2 => ?_
  obtain ⟨⟨q1, q2⟩, Q3⟩ := RM.append h gr2 k2 o2 u2
  exact hK g' cap' w' q1 q2 Q3
theorem RM.drew {w0 w : World} {M CB : Nat} {cv pv sv : Value} {S : Mst} (h : RM w0 w M CB cv pv sv S) : RM w0 w.drew M CB cv pv sv S := h.keep (grown_drew (grown_refl _ _))
theorem RM.drewN {w0 w : World} {M CB : Nat} {cv pv sv : Value} {S : Mst} (h : RM w0 w M CB cv pv sv S) (k : Nat) : RM w0 (w.drewN k) M CB cv pv sv S := h.keep (grown_drewN _ _ _)
theorem RM.allo {w0 w : World} {M CB : Nat} {cv pv sv : Value} {S : Mst} (h : RM w0 w M CB cv pv sv S) (o : Obj) : RM w0 (w.alloc o) M CB cv pv sv S := h.keep (World.grownBy_alloc _ _ none)
structure Fst (w0 w : World) (M CB b off n c : Nat) (g : Nat → Int) (po : Option Addr) (m pc' : Nat) (p : Nat → Int) (sv : Value) (S : Mst) : Prop where
  hn : n ≤ 140737488355328
  hm : m ≤ 2000
  hc : n ≤ c
  hg : Oct g
  hp : Oct p
  hi : Inv n S
  fit : fitB g n S = true
  rm : RM w0 w M CB (.slice (some ⟨b, off, none⟩) n c) (.slice po m pc') sv S
  row : Row w0 .u8 b off n g
  src : Src w0 .u8 po m p
end Go.Proofs.YthbcfepbkkbjiaaGreatDoor
