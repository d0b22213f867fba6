import Derived.BigQuiet
import Derived.Deep.QuietTactic
import Derived.Deep.RegionLaw
import Derived.Test.YthbcfepbkkbjiabGreatDoorI8
import Derived.Test.YthbcfepbkkbjiabGreatDoorI2
namespace Go.Proofs.YthbcfepbkkbjiabGreatDoor
open Go.RowKit
set_option linter.unusedVariables false
section
variable {w0 w w' : World} {M CB : Nat} {cv pv sv : Value} {S : Mst}
theorem Out.other {w w' : World} {base : Nat} {e : TypeId} {size : Nat} {v : Value} {n : Nat} {f : Nat → Value} {k : Nat} (h : Out w base e size v n f) (hg : w.grownBy w' (some k)) (hk : ∀ g, v.ownBlock = some g → g ≠ k) : Out w' base e size v n f := by
  obtain ⟨ao, cap, rfl, h2⟩ := h
  refine ⟨ao, cap, rfl, ?_⟩
  rcases h2 with h2 | ⟨g, rfl, h4, h5, h6⟩
  · exact Or.inl h2
  · exact Or.inr ⟨g, rfl, h4, h5.keep hg (fun e => hk g rfl (by cases e; rfl)), h6⟩
end
theorem Out.pop {w : World} {base : Nat} {e : TypeId} {k : IntKind} {v : Value} {n : Nat} {f : Nat → Int} (h : Out w base e 1 v n (ints k f)) (hn : 1 ≤ n) :
    ∃ G cap, v = .slice (some ⟨G, 0, none⟩) n cap ∧ n ≤ cap ∧ cap ≤ maxLen ∧ (∀ j, j < n → w.cell? ⟨G, j, none⟩ = some (.int k (f j))) ∧ ∀ m, m ≤ n → Out w base e 1 (.slice (some ⟨G, 0, none⟩) m cap) m (ints k f) := by
  obtain ⟨ao, cap, rfl, h2⟩ := h
  rcases h2 with ⟨_, h0, _⟩ | ⟨g, rfl, h4, h5, h6, h7⟩
  · omega
  · exact ⟨g, cap, rfl, h6, h7, fun j hj => h5.cell (by omega), fun m hm => ⟨_, cap, rfl, Or.inr ⟨g, rfl, h4, h5.less (by omega), by omega, h7⟩⟩⟩
theorem Src.cell {w : World} {k : IntKind} {ao : Option Addr} {n : Nat} {g : Nat → Int} (h : Src w k ao n g) {j : Nat} (hj : j < n) : ∃ b off, ao = some ⟨b, off, none⟩ ∧ Row w k b off n g := h (by omega)
theorem shp_bd {c : Int} {s : Shp} (h : shp c = some s) : s.wh + s.nb ≤ 4 ∧ s.po ≤ 2 ∧ s.pu ≤ 1 := by
  rcases shp_cases h with ⟨rfl, rfl⟩ | ⟨rfl, rfl⟩ | ⟨rfl, rfl⟩ | ⟨rfl, rfl⟩ | ⟨rfl, rfl⟩ | ⟨rfl, rfl⟩ | ⟨rfl, rfl⟩ | ⟨rfl, rfl⟩ | ⟨rfl, rfl⟩ <;> simp
theorem wrap_nat (k : Nat) (h : k ≤ 9223372036854775807) : IntKind.i64.wrap (k : Int) = k := by rw [IntKind.wrap_i64]; omega
end Go.Proofs.YthbcfepbkkbjiabGreatDoor
namespace Go.Proofs.YthbcfepbkkbjiabGreatDoor
open Go.RowKit
set_option linter.unusedVariables false
theorem push_fun (k : IntKind) (f : Nat → Int) (n : Nat) (x : Int) (j : Nat) (hj : j < (n + 1) * 1) : (if j < n * 1 then ints k f j else (#[Value.int k x] : Array Value).getD (j - n * 1) .nilFunc) = ints k (upd f n x) j := by
  by_cases h : j < n
  · rw [if_pos (by omega)]
    show Value.int k (f j) = .int k (upd f n x j)
    unfold upd; rw [if_neg (by omega)]
  · have e : j = n := by omega
    subst e
    rw [if_neg (by omega)]
    show (#[Value.int k x] : Array Value).getD (j - j * 1) .nilFunc = .int k (upd f j x j)
    rw [show j - j * 1 = 0 by omega]
    unfold upd; rw [if_pos rfl]; rfl
theorem wp_push {P : Program} (w w0 : World) {o : Oper} {a : Act} {K : Act → World → Prop} {Q : Exit → Act → World → Prop}
    (s x : Operand) (t : TypeId) (ho : o.op = .call { callee := .builtin .append, args := #[s, x], argTypes := #[t, t] })
    (e : TypeId) (i : TypeInfo) (z : Value) (bytes : Nat) (ht : P.underlying t = some (.slice e)) (hi : P.info? e = some i) (hz : i.zero = some z)
    (hsize : i.size = 1) (hby : i.bytes = bytes) (hzs : z.cells.size = 1)
    (k : IntKind) (v : Value) (n : Nat) (f : Nat → Int) (hs : a.eval s = v) (hv : Out w w0.heap.size e 1 v n (ints k f)) (hgr : w0.grownBy w none)
    (B c : Nat) (X : Int) (te : TypeId) (hx : a.eval x = .slice (some ⟨B, 0, none⟩) 1 c) (hB : w.heap[B]? = some (.cells #[.int k X] te (0, 0)))
    (h63 : n ≤ 100) (hbb : bytes ≤ 100)
    (h : ∀ g' cap' w', Out w' w0.heap.size e 1 (.slice (some ⟨g', 0, none⟩) (n + 1) cap') (n + 1) (ints k (upd f n X)) → w0.grownBy w' none → w.grownBy w' v.ownBlock → (v.ownBlock = some g' ∨ w.heap.size ≤ g') →
      K (a.put o.dst (.slice (some ⟨g', 0, none⟩) (n + 1) cap')) w') : o.wp P a w K Q := by
  obtain ⟨ao, cap, rfl, h2⟩ := hv
  have hbytes : (n + 1) * bytes ≤ 140737488355328 := by
    have := Nat.mul_le_mul (show n + 1 ≤ 101 by omega) hbb
    omega
  refine wp_append_blk w s x t ho e i z 1 bytes ht hi hz hsize hby hzs (by decide) ao n cap (ints k f) hs ?_ B 1 c #[.int k X] te hx hB rfl (by simp [Value.oneCell']) (by decide) (by unfold maxLen; omega) hbytes fun g' cap' w' hb hc hm' hor => ?_
  · rcases h2 with h2 | ⟨g, h3, h4, h5, h6⟩
    · exact Or.inl h2
    · exact Or.inr ⟨g, h3, h5, h6⟩
  · have hb' := hb.congr fun j hj => push_fun k f n X j hj
    rcases hor with ⟨_, e1, rfl, hg⟩ | ⟨_, hlt, hg⟩
    · rcases h2 with ⟨e2, _⟩ | ⟨g, h3, h4, h5, h6⟩
      · rw [e2] at e1; cases e1
      · rw [h3] at e1; cases e1
        exact h g' cap' w' ⟨_, cap', rfl, Or.inr ⟨g', rfl, h4, hb', hc, hm'⟩⟩ (grown_new none hgr hg h4) (by rw [h3]; exact hg) (Or.inl (by rw [h3]; rfl))
    · exact h g' cap' w' ⟨_, cap', rfl, Or.inr ⟨g', rfl, Nat.le_trans hgr.size hlt, hb', hc, hm'⟩⟩ (grown_trans hgr hg) (grown_weak hg _) (Or.inr hlt)
theorem wpList_push {P : Program} (w w0 : World) {ops : Array Oper} {rest : List Oper} {o : Oper} {a : Act} {Q : Exit → Act → World → Prop} (hgd : o.guard = none)
    (s x : Operand) (t : TypeId) (ho : o.op = .call { callee := .builtin .append, args := #[s, x], argTypes := #[t, t] })
    (e : TypeId) (i : TypeInfo) (z : Value) (bytes : Nat) (ht : P.underlying t = some (.slice e)) (hi : P.info? e = some i) (hz : i.zero = some z)
    (hsize : i.size = 1) (hby : i.bytes = bytes) (hzs : z.cells.size = 1)
    (k : IntKind) (v : Value) (n : Nat) (f : Nat → Int) (hs : a.eval s = v) (hv : Out w w0.heap.size e 1 v n (ints k f)) (hgr : w0.grownBy w none)
    (B c : Nat) (X : Int) (te : TypeId) (hx : a.eval x = .slice (some ⟨B, 0, none⟩) 1 c) (hB : w.heap[B]? = some (.cells #[.int k X] te (0, 0)))
    (h63 : n ≤ 100) (hbb : bytes ≤ 100)
    (h : ∀ g' cap' w', Out w' w0.heap.size e 1 (.slice (some ⟨g', 0, none⟩) (n + 1) cap') (n + 1) (ints k (upd f n X)) → w0.grownBy w' none → w.grownBy w' v.ownBlock → (v.ownBlock = some g' ∨ w.heap.size ≤ g') →
      wpList P ops Q rest (a.put o.dst (.slice (some ⟨g', 0, none⟩) (n + 1) cap')) w') : wpList P ops Q (o :: rest) a w :=
  wpList_plain hgd fun _ hK => wp_push w w0 s x t ho e i z bytes ht hi hz hsize hby hzs k v n f hs hv hgr B c X te hx hB h63 hbb fun g' cap' w' h2 h3 h4 h5 => hK _ _ (h g' cap' w' h2 h3 h4 h5)
end Go.Proofs.YthbcfepbkkbjiabGreatDoor
