/- The reference's machine: what its memory holds; pop, fits. -/
import Derived.Test.YthbcfepbkkbjiaaE5
import Derived.BigQuiet
import Derived.Deep.QuietTactic
namespace Go.Proofs.Ythbcfepbkkbjiaa
open Go.RowKit
set_option linter.unusedVariables false

def mrow (cv pv sv : Value) (CB pc : Nat) : Nat → Value := fun j => if j = 0 then cv else if j = 1 then pv else if j = 2 then sv else if j = 3 then .slice (some ⟨CB, 0, none⟩) 18 18 else .int .i64 pc

/-- the machine at M, since the world w0: its code, its packet, its stack, its cells, its place -/
structure RM (w0 w : World) (M CB : Nat) (cv pv sv : Value) (S : Mst) : Prop where
  gr : w0.grownBy w none
  hM : w0.heap.size ≤ M
  hC : w0.heap.size ≤ CB
  ne : M ≠ CB
  m : Blk w M 52 5 5 (mrow cv pv sv CB S.pc)
  st : Out w w0.heap.size 3 1 sv S.sp (ints .i64 S.st)
  own : ∀ g, sv.ownBlock = some g → g ≠ M ∧ g ≠ CB
  cs : Blk w CB 3 18 18 (ints .i64 S.cs)

section
variable {w0 w w' : World} {M CB : Nat} {cv pv sv : Value} {S : Mst}

theorem RM.cells (h : RM w0 w M CB cv pv sv S) :
    (w.cell? ⟨M, 0, none⟩ = some cv ∧ w.cell? ⟨M, 1, none⟩ = some pv ∧ w.cell? ⟨M, 2, none⟩ = some sv ∧ w.cell? ⟨M, 3, none⟩ = some (.slice (some ⟨CB, 0, none⟩) 18 18) ∧ w.cell? ⟨M, 4, none⟩ = some (.int .i64 S.pc)) ∧
    w.frozen? ⟨M, 2, none⟩ = false ∧ w.frozen? ⟨M, 4, none⟩ = false :=
  ⟨⟨h.m.cell (j := 0) (by omega), h.m.cell (j := 1) (by omega), h.m.cell (j := 2) (by omega), h.m.cell (j := 3) (by omega), h.m.cell (j := 4) (by omega)⟩, h.m.frozen 2, h.m.frozen 4⟩

theorem Out.other {w w' : World} {base : Nat} {e : TypeId} {size : Nat} {v : Value} {n : Nat} {f : Nat → Value} {k : Nat} (h : Out w base e size v n f) (hg : w.grownBy w' (some k)) (hk : ∀ g, v.ownBlock = some g → g ≠ k) : Out w' base e size v n f := by
  obtain ⟨ao, cap, rfl, h2⟩ := h
  refine ⟨ao, cap, rfl, ?_⟩
  rcases h2 with h2 | ⟨g, rfl, h4, h5, h6⟩
  · exact Or.inl h2
  · exact Or.inr ⟨g, rfl, h4, h5.keep hg (fun e => hk g rfl (by cases e; rfl)), h6⟩

theorem RM.keep (h : RM w0 w M CB cv pv sv S) (hg : w.grownBy w' none) : RM w0 w' M CB cv pv sv S :=
  ⟨grown_trans h.gr hg, h.hM, h.hC, h.ne, h.m.keep hg (by simp), h.st.keep hg (by simp), h.own, h.cs.keep hg (by simp)⟩

/-- the place is set -/
theorem RM.setPc (h : RM w0 w M CB cv pv sv S) (pc : Nat) : RM w0 (w.setCell ⟨M, 4, none⟩ (.int .i64 pc)) M CB cv pv sv ⟨pc, S.sp, S.st, S.cs⟩ := by
  have hg := grown_setCell w ⟨M, 4, none⟩ (.int .i64 pc)
  refine ⟨grown_set h.gr h.hM _, h.hM, h.hC, h.ne, (h.m.set' (j := 4) (by omega) _).congr fun j hj => ?_, h.st.other hg (fun g e => (h.own g e).1), h.own, h.cs.keep hg (by simp; exact fun e => h.ne e.symm)⟩
  match j, hj with
  | 0, _ => rfl
  | 1, _ => rfl
  | 2, _ => rfl
  | 3, _ => rfl
  | 4, _ => rfl

/-- the stack is set -/
theorem RM.setSt (h : RM w0 w M CB cv pv sv S) (sv' : Value) (sp : Nat) (st : Nat → Int) (ho : Out w w0.heap.size 3 1 sv' sp (ints .i64 st)) (hown : ∀ g, sv'.ownBlock = some g → g ≠ M ∧ g ≠ CB) :
    RM w0 (w.setCell ⟨M, 2, none⟩ sv') M CB cv pv sv' ⟨S.pc, sp, st, S.cs⟩ := by
  have hg := grown_setCell w ⟨M, 2, none⟩ sv'
  refine ⟨grown_set h.gr h.hM _, h.hM, h.hC, h.ne, (h.m.set' (j := 2) (by omega) _).congr fun j hj => ?_, ho.other hg (fun g e => (hown g e).1), hown, h.cs.keep hg (by simp; exact fun e => h.ne e.symm)⟩
  match j, hj with
  | 0, _ => rfl
  | 1, _ => rfl
  | 2, _ => rfl
  | 3, _ => rfl
  | 4, _ => rfl

/-- a cell is set -/
theorem RM.setCs (h : RM w0 w M CB cv pv sv S) (i : Nat) (hi : i < 18) (v : Int) : RM w0 (w.setCell ⟨CB, i, none⟩ (.int .i64 v)) M CB cv pv sv ⟨S.pc, S.sp, S.st, upd S.cs i v⟩ := by
  have hg := grown_setCell w ⟨CB, i, none⟩ (.int .i64 v)
  refine ⟨grown_set h.gr h.hC _, h.hM, h.hC, h.ne, h.m.keep hg (by simp; exact h.ne), h.st.other hg (fun g e => (h.own g e).2), h.own, (h.cs.set' hi _).congr fun j hj => ?_⟩
  show (if j = i then Value.int .i64 v else .int .i64 (S.cs j)) = .int .i64 (upd S.cs i v j)
  unfold upd; split <;> rfl

end

/-- a stack that is not empty -/
theorem Out.pop {w : World} {base : Nat} {e : TypeId} {k : IntKind} {v : Value} {n : Nat} {f : Nat → Int} (h : Out w base e 1 v n (ints k f)) (hn : 1 ≤ n) :
    ∃ G cap, v = .slice (some ⟨G, 0, none⟩) n cap ∧ n ≤ cap ∧ cap ≤ maxLen ∧ (∀ j, j < n → w.cell? ⟨G, j, none⟩ = some (.int k (f j))) ∧ ∀ m, m ≤ n → Out w base e 1 (.slice (some ⟨G, 0, none⟩) m cap) m (ints k f) := by
  obtain ⟨ao, cap, rfl, h2⟩ := h
  rcases h2 with ⟨_, h0, _⟩ | ⟨g, rfl, h4, h5, h6, h7⟩
  · omega
  · exact ⟨g, cap, rfl, h6, h7, fun j hj => h5.cell (by omega), fun m hm => ⟨_, cap, rfl, Or.inr ⟨g, rfl, h4, h5.less (by omega), by omega, h7⟩⟩⟩

set_option maxRecDepth 100000 in
set_option maxHeartbeats 400000 in
theorem rpop_any (w0 w : World) (M CB : Nat) (cv pv sv : Value) (S : Mst) (h : RM w0 w M CB cv pv sv S) (hs : 1 ≤ S.sp) :
    Calls Try.prog 31 #[.pointer (some ⟨M, 0, none⟩)] w fun e w' => e = .returned (.int .i64 (S.st (S.sp - 1))) ∧ ∃ sv', RM w0 w' M CB cv pv sv' ⟨S.pc, S.sp - 1, S.st, S.cs⟩ := by
  obtain ⟨⟨c0, c1, c2, c3, c4⟩, f2, f4⟩ := h.cells
  obtain ⟨G, cap, hv, hcap, hmax, hc, ho⟩ := h.st.pop hs
  have HR : ∀ k, Hid (RM w0 ((w.drewN k).setCell ⟨M, 2, none⟩ (.slice (some ⟨G, 0, none⟩) (S.sp - 1) cap)) M CB cv pv (.slice (some ⟨G, 0, none⟩) (S.sp - 1) cap) ⟨S.pc, S.sp - 1, S.st, S.cs⟩) := fun k =>
    (h.keep (grown_drewN w k none)).setSt _ _ _ ((ho (S.sp - 1) (by omega)).keep (grown_drewN w k none) (by simp)) (fun g e => h.own g (by rw [hv]; exact e))
  have ct := hc (S.sp - 1) (by omega)
  rw [hv] at c2
  clear h hc ho hv
  generalize S.sp = sp at *
  unfold maxLen at hmax
  go_enter Try.func31, Try.ntmps31
  go_wp2
  go_quiet (fail)
  go_wp2
  go_region
  all_goals go_wp2
  all_goals go_ret
  exact ⟨rfl, _, (HR _).out⟩

theorem Src.cell {w : World} {k : IntKind} {ao : Option Addr} {n : Nat} {g : Nat → Int} (h : Src w k ao n g) {j : Nat} (hj : j < n) : ∃ b off, ao = some ⟨b, off, none⟩ ∧ Row w k b off n g := h (by omega)

set_option maxRecDepth 100000 in
set_option maxHeartbeats 400000 in
theorem rfits_end (w0 w : World) (M CB : Nat) (co : Option Addr) (n c : Nat) (pv sv : Value) (S : Mst) (h : RM w0 w M CB (.slice co n c) pv sv S) (hpc : ¬ S.pc < n) :
    Calls Try.prog 22 #[.pointer (some ⟨M, 0, none⟩)] w fun e w' => e = .returned (.bool false) ∧ w.grownBy w' none := by
  obtain ⟨⟨c0, c1, c2, c3, c4⟩, f2, f4⟩ := h.cells
  clear h
  go_enter Try.func22, Try.ntmps22
  go_wp2
  go_quiet (fail)
  go_wp2
  go_ret
  exact ⟨rfl, grown_drewN _ _ _⟩

set_option maxRecDepth 100000 in
set_option maxHeartbeats 400000 in
theorem rfits_none (w0 w : World) (M CB b off n c : Nat) (g : Nat → Int) (pv sv : Value) (S : Mst) (h : RM w0 w M CB (.slice (some ⟨b, off, none⟩) n c) pv sv S) (hg : Oct g) (hR : Row w .u8 b off n g) (hpc : S.pc < n) (hc : shp (g S.pc) = none) :
    Calls Try.prog 22 #[.pointer (some ⟨M, 0, none⟩)] w fun e w' => e = .returned (.bool false) ∧ w.grownBy w' none := by
  obtain ⟨⟨c0, c1, c2, c3, c4⟩, f2, f4⟩ := h.cells
  have cc := hR S.pc hpc
  have hb := hg S.pc
  clear h hR
  generalize g S.pc = C at *
  go_enter Try.func22, Try.ntmps22
  go_wp2
  go_quiet (fail)
  go_wp2
  go_quiet (fail)
  go_wp2_with (go_at_call 30; refine (operands_none _ _ hc).mono ?_; rintro e w1 ⟨rfl, hg1⟩)
  go_quiet (fail)
  go_wp2
  go_ret
  exact ⟨rfl, grown_none (grown_undrewN hg1) (grown_drewN _ _ _)⟩

theorem RM.slice {w0 w : World} {M CB : Nat} {cv pv sv : Value} {S : Mst} (h : RM w0 w M CB cv pv sv S) : ∃ ao cap, sv = .slice ao S.sp cap := by
  obtain ⟨ao, cap, h1, _⟩ := h.st
  exact ⟨ao, cap, h1⟩

theorem shp_bd {c : Int} {s : Shp} (h : shp c = some s) : s.wh + s.nb ≤ 4 ∧ s.po ≤ 2 ∧ s.pu ≤ 1 := by
  rcases shp_cases h with ⟨rfl, rfl⟩ | ⟨rfl, rfl⟩ | ⟨rfl, rfl⟩ | ⟨rfl, rfl⟩ | ⟨rfl, rfl⟩ | ⟨rfl, rfl⟩ | ⟨rfl, rfl⟩ | ⟨rfl, rfl⟩ | ⟨rfl, rfl⟩ <;> simp

/-- what its walk begins with -/
theorem RM.facts {w0 w : World} {M CB b off n c : Nat} {g : Nat → Int} {pv : Value} {ao : Option Addr} {cap : Nat} {S : Mst} (h : RM w0 w M CB (.slice (some ⟨b, off, none⟩) n c) pv (.slice ao S.sp cap) S) (hR : Row w .u8 b off n g) :
    (∀ (k : Nat) (w' : World), (w.drewN k).grownBy w' none → w'.cell? ⟨M, 0, none⟩ = some (.slice (some ⟨b, off, none⟩) n c) ∧ w'.cell? ⟨M, 2, none⟩ = some (.slice ao S.sp cap) ∧ w'.cell? ⟨M, 4, none⟩ = some (.int .i64 S.pc)) ∧
    (∀ (k : Nat) (w' : World), (w.drewN k).grownBy w' none → S.pc + 2 ≤ n → w'.cell? ⟨b, off + (S.pc + 1), none⟩ = some (.int .u8 (g (S.pc + 1)))) := by
  obtain ⟨⟨c0, c1, c2, c3, c4⟩, f2, f4⟩ := h.cells
  exact ⟨fun k w' hw => ⟨hw.cell c0 (by simp), hw.cell c2 (by simp), hw.cell c4 (by simp)⟩, fun k w' hw hl => hw.cell (hR (S.pc + 1) (by omega)) (by simp)⟩

theorem wrap_nat (k : Nat) (h : k ≤ 9223372036854775807) : IntKind.i64.wrap (k : Int) = k := by rw [IntKind.wrap_i64]; omega

set_option maxRecDepth 100000 in
set_option maxHeartbeats 1000000 in
theorem rfits_no (w0 w : World) (M CB b off n c : Nat) (g : Nat → Int) (pv sv : Value) (S : Mst) (s : Shp) (hn : n ≤ 140737488355328) (h8 : S.sp ≤ 8) (h : RM w0 w M CB (.slice (some ⟨b, off, none⟩) n c) pv sv S) (hR : Row w .u8 b off n g) (hg : Oct g) (hpc : S.pc < n) (hc : shp (g S.pc) = some s)
    (hno : ¬ S.pc + 1 + s.wh + s.nb ≤ n ∨ ¬ s.po ≤ S.sp ∨ ¬ S.sp - s.po + s.pu ≤ 8) :
    Calls Try.prog 22 #[.pointer (some ⟨M, 0, none⟩)] w fun e w' => e = .returned (.bool false) ∧ w.grownBy w' none := by
  obtain ⟨ao, cap, rfl⟩ := h.slice
  obtain ⟨⟨c0, c1, c2, c3, c4⟩, f2, f4⟩ := h.cells
  obtain ⟨cM, _⟩ := h.facts hR
  have cc := hR S.pc hpc
  have hb := hg S.pc
  obtain ⟨k4, p2, u1⟩ := shp_bd hc
  have HC : Hid (shp (g S.pc) = some s) := hc
  obtain ⟨k, hk⟩ : ∃ k, k = s.wh + s.nb := ⟨_, rfl⟩
  have hno' : ¬ S.pc + 1 + k ≤ n ∨ ¬ s.po ≤ S.sp ∨ ¬ S.sp - s.po + s.pu ≤ 8 := by rw [hk, ← Nat.add_assoc]; exact hno
  have HO : Hid (∀ w, Calls Try.prog 30 #[.int .i64 (g S.pc)] w fun e w' => e = .returned (.tuple #[.int .i64 k, .int .i64 s.po, .int .i64 s.pu]) ∧ w.grownBy w' none) := fun w => by rw [hk]; exact operands_some _ _ w hc
  rw [← hk] at k4
  clear h hR hc hk HC hno hg
  generalize g S.pc = C at *
  generalize S.pc = pc at *
  generalize S.sp = sp at *
  generalize s.po = po at *
  generalize s.pu = pu at *
  have W1 : IntKind.i64.wrap ((pc : Int) + 1) = (pc : Int) + 1 := by rw [IntKind.wrap_i64]; omega
  have W2 : IntKind.i64.wrap ((pc : Int) + 1 + (k : Int)) = (pc : Int) + 1 + (k : Int) := by rw [IntKind.wrap_i64]; omega
  have t0 : decide ((k : Int) < 0) = false := by simp
  by_cases hA : pc + 1 + k ≤ n
  · have tA : decide (n < pc + 1 + k) = false := by simp; omega
    have tA' : decide ((n : Int) < (pc : Int) + 1 + (k : Int)) = false := by simp; omega
    by_cases hB : po ≤ sp
    · have tB : decide (sp < po) = false := by simp; omega
      have tB' : decide ((sp : Int) < (po : Int)) = false := by simp; omega
      have V1 : IntKind.i64.wrap ((sp : Int) - (po : Int)) = (sp : Int) - (po : Int) := by rw [IntKind.wrap_i64]; omega
      have V2 : IntKind.i64.wrap ((sp : Int) - (po : Int) + (pu : Int)) = (sp : Int) - (po : Int) + (pu : Int) := by rw [IntKind.wrap_i64]; omega
      have tC' : decide ((8 : Int) < (sp : Int) - (po : Int) + (pu : Int)) = true := by simp; omega
      clear hno'
      go_enter Try.func22, Try.ntmps22
      go_wp2
      go_quiet (fail)
      go_wp2
      go_quiet (fail)
      go_wp2_with (go_at_call 30; refine (HO.out _).mono ?_; rintro e w1 ⟨rfl, hg1⟩; obtain ⟨d0, d2, d4⟩ := cM _ _ hg1)
      go_quiet (fail)
      go_wp2
      go_ret
      exact ⟨rfl, grown_none (grown_undrewN hg1) (grown_drewN _ _ _)⟩
    · have tB : decide (sp < po) = true := by simp; omega
      have tB' : decide ((sp : Int) < (po : Int)) = true := by simp; omega
      clear hno'
      go_enter Try.func22, Try.ntmps22
      go_wp2
      go_quiet (fail)
      go_wp2
      go_quiet (fail)
      go_wp2_with (go_at_call 30; refine (HO.out _).mono ?_; rintro e w1 ⟨rfl, hg1⟩; obtain ⟨d0, d2, d4⟩ := cM _ _ hg1)
      go_quiet (fail)
      go_wp2
      go_ret
      exact ⟨rfl, grown_none (grown_undrewN hg1) (grown_drewN _ _ _)⟩
  · have tA : decide (n < pc + 1 + k) = true := by simp; omega
    have tA' : decide ((n : Int) < (pc : Int) + 1 + (k : Int)) = true := by simp; omega
    clear hno'
    go_enter Try.func22, Try.ntmps22
    go_wp2
    go_quiet (fail)
    go_wp2
    go_quiet (fail)
    go_wp2_with (go_at_call 30; refine (HO.out _).mono ?_; rintro e w1 ⟨rfl, hg1⟩; obtain ⟨d0, d2, d4⟩ := cM _ _ hg1)
    go_quiet (fail)
    go_wp2
    go_ret
    exact ⟨rfl, grown_none (grown_undrewN hg1) (grown_drewN _ _ _)⟩

end Go.Proofs.Ythbcfepbkkbjiaa
