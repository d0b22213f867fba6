/- A word is pushed: append to a stack that a machine holds. -/
import Derived.Test.YthbcfepbkkbjiaaE6
import Derived.Test.YthbcfepbkkbjiaaW4
import Derived.Deep.RegionLaw
namespace Go.Proofs.Ythbcfepbkkbjiaa
open Go.RowKit
set_option linter.unusedVariables false

theorem push_fun (k : IntKind) (f : Nat → Int) (n : Nat) (x : Int) (j : Nat) (hj : j < (n + 1) * 1) : (if j < n * 1 then ints k f j else (#[Value.int k x] : Array Value).getD (j - n * 1) .nilFunc) = ints k (upd f n x) j := by
  by_cases h : j < n
  · rw [if_pos (by omega)]
    show Value.int k (f j) = .int k (upd f n x j)
    unfold upd; rw [if_neg (by omega)]
  · have e : j = n := by omega
    subst e
    rw [if_neg (by omega)]
    show (#[Value.int k x] : Array Value).getD (j - j * 1) .nilFunc = .int k (upd f j x j)
    rw [show j - j * 1 = 0 by omega]
    unfold upd; rw [if_pos rfl]; rfl

/-- at the operation -/
theorem wp_push {P : Program} (w w0 : World) {o : Oper} {a : Act} {K : Act → World → Prop} {Q : Exit → Act → World → Prop}
    (s x : Operand) (t : TypeId) (ho : o.op = .call { callee := .builtin .append, args := #[s, x], argTypes := #[t, t] })
    (e : TypeId) (i : TypeInfo) (z : Value) (bytes : Nat) (ht : P.underlying t = some (.slice e)) (hi : P.info? e = some i) (hz : i.zero = some z)
    (hsize : i.size = 1) (hby : i.bytes = bytes) (hzs : z.cells.size = 1)
    (k : IntKind) (v : Value) (n : Nat) (f : Nat → Int) (hs : a.eval s = v) (hv : Out w w0.heap.size e 1 v n (ints k f)) (hgr : w0.grownBy w none)
    (B c : Nat) (X : Int) (te : TypeId) (hx : a.eval x = .slice (some ⟨B, 0, none⟩) 1 c) (hB : w.heap[B]? = some (.cells #[.int k X] te (0, 0)))
    (h63 : n ≤ 100) (hbb : bytes ≤ 100)
    (h : ∀ g' cap' w', Out w' w0.heap.size e 1 (.slice (some ⟨g', 0, none⟩) (n + 1) cap') (n + 1) (ints k (upd f n X)) → w0.grownBy w' none → w.grownBy w' v.ownBlock → (v.ownBlock = some g' ∨ w.heap.size ≤ g') →
      K (a.put o.dst (.slice (some ⟨g', 0, none⟩) (n + 1) cap')) w') : o.wp P a w K Q := by
  obtain ⟨ao, cap, rfl, h2⟩ := hv
  have hbytes : (n + 1) * bytes ≤ 140737488355328 := by
    have := Nat.mul_le_mul (show n + 1 ≤ 101 by omega) hbb
    omega
  refine wp_append_blk w s x t ho e i z 1 bytes ht hi hz hsize hby hzs (by decide) ao n cap (ints k f) hs ?_ B 1 c #[.int k X] te hx hB rfl (by simp [Value.oneCell']) (by decide) (by unfold maxLen; omega) hbytes fun g' cap' w' hb hc hm' hor => ?_
  · rcases h2 with h2 | ⟨g, h3, h4, h5, h6⟩
    · exact Or.inl h2
    · exact Or.inr ⟨g, h3, h5, h6⟩
  · have hb' := hb.congr fun j hj => push_fun k f n X j hj
    rcases hor with ⟨_, e1, rfl, hg⟩ | ⟨_, hlt, hg⟩
    · rcases h2 with ⟨e2, _⟩ | ⟨g, h3, h4, h5, h6⟩
      · rw [e2] at e1; cases e1
      · rw [h3] at e1; cases e1
        exact h g' cap' w' ⟨_, cap', rfl, Or.inr ⟨g', rfl, h4, hb', hc, hm'⟩⟩ (grown_new none hgr hg h4) (by rw [h3]; exact hg) (Or.inl (by rw [h3]; rfl))
    · exact h g' cap' w' ⟨_, cap', rfl, Or.inr ⟨g', rfl, Nat.le_trans hgr.size hlt, hb', hc, hm'⟩⟩ (grown_trans hgr hg) (grown_weak hg _) (Or.inr hlt)

theorem wpList_push {P : Program} (w w0 : World) {ops : Array Oper} {rest : List Oper} {o : Oper} {a : Act} {Q : Exit → Act → World → Prop} (hgd : o.guard = none)
    (s x : Operand) (t : TypeId) (ho : o.op = .call { callee := .builtin .append, args := #[s, x], argTypes := #[t, t] })
    (e : TypeId) (i : TypeInfo) (z : Value) (bytes : Nat) (ht : P.underlying t = some (.slice e)) (hi : P.info? e = some i) (hz : i.zero = some z)
    (hsize : i.size = 1) (hby : i.bytes = bytes) (hzs : z.cells.size = 1)
    (k : IntKind) (v : Value) (n : Nat) (f : Nat → Int) (hs : a.eval s = v) (hv : Out w w0.heap.size e 1 v n (ints k f)) (hgr : w0.grownBy w none)
    (B c : Nat) (X : Int) (te : TypeId) (hx : a.eval x = .slice (some ⟨B, 0, none⟩) 1 c) (hB : w.heap[B]? = some (.cells #[.int k X] te (0, 0)))
    (h63 : n ≤ 100) (hbb : bytes ≤ 100)
    (h : ∀ g' cap' w', Out w' w0.heap.size e 1 (.slice (some ⟨g', 0, none⟩) (n + 1) cap') (n + 1) (ints k (upd f n X)) → w0.grownBy w' none → w.grownBy w' v.ownBlock → (v.ownBlock = some g' ∨ w.heap.size ≤ g') →
      wpList P ops Q rest (a.put o.dst (.slice (some ⟨g', 0, none⟩) (n + 1) cap')) w') : wpList P ops Q (o :: rest) a w :=
  wpList_plain hgd fun _ hK => wp_push w w0 s x t ho e i z bytes ht hi hz hsize hby hzs k v n f hs hv hgr B c X te hx hB h63 hbb fun g' cap' w' h2 h3 h4 h5 => hK _ _ (h g' cap' w' h2 h3 h4 h5)

theorem step_push {P : Program} (w w0 : World) {ops : Array Oper} {o : Oper} {a : Act} {K : Act → World → Prop} {Q : Exit → Act → World → Prop} {E : Prop} (hgd : o.guard = none)
    (s x : Operand) (t : TypeId) (ho : o.op = .call { callee := .builtin .append, args := #[s, x], argTypes := #[t, t] })
    (e : TypeId) (i : TypeInfo) (z : Value) (bytes : Nat) (ht : P.underlying t = some (.slice e)) (hi : P.info? e = some i) (hz : i.zero = some z)
    (hsize : i.size = 1) (hby : i.bytes = bytes) (hzs : z.cells.size = 1)
    (k : IntKind) (v : Value) (n : Nat) (f : Nat → Int) (hs : a.eval s = v) (hv : Out w w0.heap.size e 1 v n (ints k f)) (hgr : w0.grownBy w none)
    (B c : Nat) (X : Int) (te : TypeId) (hx : a.eval x = .slice (some ⟨B, 0, none⟩) 1 c) (hB : w.heap[B]? = some (.cells #[.int k X] te (0, 0)))
    (h63 : n ≤ 100) (hbb : bytes ≤ 100)
    (h : ∀ g' cap' w', Out w' w0.heap.size e 1 (.slice (some ⟨g', 0, none⟩) (n + 1) cap') (n + 1) (ints k (upd f n X)) → w0.grownBy w' none → w.grownBy w' v.ownBlock → (v.ownBlock = some g' ∨ w.heap.size ≤ g') →
      K (a.put o.dst (.slice (some ⟨g', 0, none⟩) (n + 1) cap')) w') :
    if Region.wanted o (yielded ops a.tmps) = true then Oper.wp P o a w K Q else E := by
  have hw : Region.wanted o (yielded ops a.tmps) = true := by simp [Region.wanted, hgd]
  rw [if_pos hw]
  exact wp_push w w0 s x t ho e i z bytes ht hi hz hsize hby hzs k v n f hs hv hgr B c X te hx hB h63 hbb h

theorem Try.infoInt1 : (Try.prog.info? 3).map (fun i => (i.zero, i.size, i.bytes)) = some (some (.int .i64 0), 1, 8) := by kernel_rfl

/-- the reference's machine, behind an append to its stack -/
theorem RM.append {w0 w w' : World} {M CB : Nat} {cv pv sv : Value} {S : Mst} (h : RM w0 w M CB cv pv sv S) {g' cap' n' : Nat} {st' : Nat → Int} (hg0 : w0.grownBy w' none) (hg : w.grownBy w' sv.ownBlock)
    (ho : Out w' w0.heap.size 3 1 (.slice (some ⟨g', 0, none⟩) n' cap') n' (ints .i64 st')) (hor : sv.ownBlock = some g' ∨ w.heap.size ≤ g') :
    (w'.cell? ⟨M, 2, none⟩ = some sv ∧ w'.frozen? ⟨M, 2, none⟩ = false) ∧ RM w0 (w'.setCell ⟨M, 2, none⟩ (.slice (some ⟨g', 0, none⟩) n' cap')) M CB cv pv (.slice (some ⟨g', 0, none⟩) n' cap') ⟨S.pc, n', st', S.cs⟩ := by
  have nM : some M ≠ sv.ownBlock := fun e => (h.own M e.symm).1 rfl
  have nC : some CB ≠ sv.ownBlock := fun e => (h.own CB e.symm).2 rfl
  have hm := h.m.keep hg nM
  have hc := h.cs.keep hg nC
  have own' : ∀ g, (Value.slice (some ⟨g', 0, none⟩) n' cap').ownBlock = some g → g ≠ M ∧ g ≠ CB := by
    intro g e
    have e2 : g' = g := by cases e; rfl
    subst e2
    rcases hor with e | e
    · exact h.own g' e
    · have := h.m.lt; have := h.cs.lt; exact ⟨by omega, by omega⟩
  refine ⟨⟨hm.cell (j := 2) (by omega), hm.frozen 2⟩, ?_⟩
  have hs := grown_setCell w' ⟨M, 2, none⟩ (.slice (some ⟨g', 0, none⟩) n' cap')
  refine ⟨grown_set hg0 h.hM _, h.hM, h.hC, h.ne, (hm.set' (j := 2) (by omega) _).congr fun j hj => ?_, ho.other hs (fun g e => (own' g e).1), own', hc.keep hs (by simp; exact fun e => h.ne e.symm)⟩
  match j, hj with
  | 0, _ => rfl
  | 1, _ => rfl
  | 2, _ => rfl
  | 3, _ => rfl
  | 4, _ => rfl

theorem RM.setPc' {w0 w : World} {M CB : Nat} {cv pv sv : Value} {S : Mst} (h : RM w0 w M CB cv pv sv S) (pc : Nat) (v : Int) (hv : v = pc) : RM w0 (w.setCell ⟨M, 4, none⟩ (.int .i64 v)) M CB cv pv sv ⟨pc, S.sp, S.st, S.cs⟩ := by
  subst hv; exact h.setPc pc

/-- a part of the code is read as a number -/
theorem rbytes_code (w0 w : World) (b off n c : Nat) (g : Nat → Int) (k q o s : Nat) (hgr : w0.grownBy w none) (hrow : Row w0 .u8 b off n g) (hg : Oct g) (hs : s ≤ 4) (hk : o + s ≤ k) (hq : q + k ≤ n) (hn : n ≤ 140737488355328) :
    Calls Try.prog 32 #[.slice (some ⟨b, off + q, none⟩) k c, .int .i64 o, .int .i64 s] w fun e w' => e = .returned (.tuple #[.int .i64 (be g (q + o) s), .bool true]) ∧ w.grownBy w' none := by
  have := rbytes_ok b (off + q) k c o s (fun j => g (q + j)) w hs (by unfold maxLen; omega) hk (fun j => hg _) ((hrow.keep hgr (by simp)).part hq)
  rw [be_shift] at this
  exact this

/-- the like, in one: in a region that draws its order -/
theorem step_pushR (w w0 : World) {ops : Array Oper} {o : Oper} {a : Act} {K : Act → World → Prop} {Q : Exit → Act → World → Prop} {E : Prop} (hgd : o.guard = none)
    (s x : Operand) (ho : o.op = .call { callee := .builtin .append, args := #[s, x], argTypes := #[50, 50] })
    {M CB : Nat} {cv pv : Value} (sv : Value) (S : Mst) (hs : a.eval s = sv) (h : RM w0 w M CB cv pv sv S)
    (B c : Nat) (X : Int) (te : TypeId) (hx : a.eval x = .slice (some ⟨B, 0, none⟩) 1 c) (hB : w.heap[B]? = some (.cells #[.int .i64 X] te (0, 0))) (h63 : S.sp ≤ 100)
    (hK : ∀ g' cap' w', w'.cell? ⟨M, 2, none⟩ = some sv → w'.frozen? ⟨M, 2, none⟩ = false → RM w0 (w'.setCell ⟨M, 2, none⟩ (.slice (some ⟨g', 0, none⟩) (S.sp + 1) cap')) M CB cv pv (.slice (some ⟨g', 0, none⟩) (S.sp + 1) cap') ⟨S.pc, S.sp + 1, upd S.st S.sp X, S.cs⟩ →
      K (a.put o.dst (.slice (some ⟨g', 0, none⟩) (S.sp + 1) cap')) w') :
    if Region.wanted o (yielded ops a.tmps) = true then Oper.wp Try.prog o a w K Q else E := by
  obtain ⟨i0, hi, hz0, hz1, hz2⟩ := info_parts Try.infoInt1
  refine step_push w w0 hgd s x 50 ho 3 i0 (.int .i64 0) 8 Try.underlying50 hi hz0 hz1 hz2 rfl .i64 sv S.sp S.st hs h.st h.gr B c X te hx hB h63 (by decide) fun g' cap' w' o2 gr2 k2 u2 => ?_
  obtain ⟨⟨q1, q2⟩, Q3⟩ := RM.append h gr2 k2 o2 u2
  exact hK g' cap' w' q1 q2 Q3

theorem RM.drew {w0 w : World} {M CB : Nat} {cv pv sv : Value} {S : Mst} (h : RM w0 w M CB cv pv sv S) : RM w0 w.drew M CB cv pv sv S := h.keep (grown_drew (grown_refl _ _))
theorem RM.drewN {w0 w : World} {M CB : Nat} {cv pv sv : Value} {S : Mst} (h : RM w0 w M CB cv pv sv S) (k : Nat) : RM w0 (w.drewN k) M CB cv pv sv S := h.keep (grown_drewN _ _ _)
theorem RM.allo {w0 w : World} {M CB : Nat} {cv pv sv : Value} {S : Mst} (h : RM w0 w M CB cv pv sv S) (o : Obj) : RM w0 (w.alloc o) M CB cv pv sv S := h.keep (World.grownBy_alloc _ _ none)

/-- what an instruction of the reference's machine begins with -/
structure Fst (w0 w : World) (M CB b off n c : Nat) (g : Nat → Int) (po : Option Addr) (m pc' : Nat) (p : Nat → Int) (sv : Value) (S : Mst) : Prop where
  hn : n ≤ 140737488355328
  hm : m ≤ 2000
  hc : n ≤ c
  hg : Oct g
  hp : Oct p
  hi : Inv n S
  fit : fitB g n S = true
  rm : RM w0 w M CB (.slice (some ⟨b, off, none⟩) n c) (.slice po m pc') sv S
  row : Row w0 .u8 b off n g
  src : Src w0 .u8 po m p

end Go.Proofs.Ythbcfepbkkbjiaa
