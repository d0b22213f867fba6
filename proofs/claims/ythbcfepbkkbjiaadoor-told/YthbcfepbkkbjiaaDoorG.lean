/- Lists that a caller holds: nil, or a block of her own; append to them. -/
import Derived.Test.YthbcfepbkkbjiaaDoorH
namespace Go.Proofs.YthbcfepbkkbjiaaDoor
open Go.RowKit

/-- A list that the caller holds: nil, or a block of her own from its head on, whose first n elements (of 'size' cells) hold f. -/
def Held (w : World) (e : TypeId) (size : Nat) (ao : Option Addr) (n cap : Nat) (f : Nat → Value) : Prop :=
  (ao = none ∧ n = 0 ∧ cap = 0) ∨ ∃ g, ao = some ⟨g, 0, none⟩ ∧ Blk w g e (cap * size) (n * size) f ∧ n ≤ cap ∧ cap ≤ maxLen

def own? : Option Addr → Option Nat | some a => some a.block | none => none

theorem Held.keep {w w' : World} {e : TypeId} {size : Nat} {ao : Option Addr} {n cap : Nat} {f : Nat → Value} {row : Option Nat} (h : Held w e size ao n cap f) (hg : w.grownBy w' row) (hr : row = none ∨ own? ao ≠ row) : Held w' e size ao n cap f := by
  rcases h with h | ⟨g, rfl, hb, r⟩
  · exact Or.inl h
  · refine Or.inr ⟨g, rfl, hb.keep hg (fun e => ?_), r⟩
    rcases hr with hr | hr
    · rw [hr] at e; cases e
    · exact hr e

theorem Held.alloc {w : World} {e : TypeId} {size : Nat} {ao : Option Addr} {n cap : Nat} {f : Nat → Value} (h : Held w e size ao n cap f) (o : Obj) : Held (w.alloc o) e size ao n cap f := h.keep (World.grownBy_alloc w o none) (Or.inl rfl)

theorem Held.lt {w : World} {e : TypeId} {size : Nat} {ao : Option Addr} {n cap : Nat} {f : Nat → Value} (h : Held w e size ao n cap f) : ∀ g, own? ao = some g → g < w.heap.size := by
  intro g hg
  rcases h with ⟨rfl, _⟩ | ⟨g', rfl, hb, _⟩
  · cases hg
  · cases hg; exact hb.lt

/-- the first L cells of a block hold f -/
def Mkd (w : World) (b L : Nat) (f : Nat → Value) : Prop := ∃ e N, Blk w b e N L f

theorem Mkd.same {w w' : World} {b L : Nat} {f : Nat → Value} (h : Mkd w b L f) (hb : w'.heap[b]? = w.heap[b]?) : Mkd w' b L f := by
  obtain ⟨e, N, h⟩ := h
  exact ⟨e, N, h.same hb⟩
theorem Mkd.alloc {w : World} {b L : Nat} {f : Nat → Value} (h : Mkd w b L f) (o : Obj) : Mkd (w.alloc o) b L f := by
  obtain ⟨e, N, h⟩ := h
  exact ⟨e, N, h.alloc o⟩
theorem Mkd.lt {w : World} {b L : Nat} {f : Nat → Value} (h : Mkd w b L f) : b < w.heap.size := by
  obtain ⟨e, N, h⟩ := h
  exact h.lt
theorem Mkd.cell {w : World} {b L : Nat} {f : Nat → Value} (h : Mkd w b L f) {j : Nat} (hj : j < L) : w.cell? ⟨b, j, none⟩ = some (f j) := by
  obtain ⟨e, N, h⟩ := h
  exact h.cell hj

theorem Held.congr {w : World} {e : TypeId} {size : Nat} {ao : Option Addr} {n cap : Nat} {f f' : Nat → Value} (h : Held w e size ao n cap f) (hf : ∀ j, j < n * size → f j = f' j) : Held w e size ao n cap f' := by
  rcases h with h | ⟨g, h1, h2, h3⟩
  · exact Or.inl h
  · exact Or.inr ⟨g, h1, h2.congr hf, h3⟩

/-- append to a list that the caller holds: what comes out is held, too; of the old one the first n elements are still there. -/
theorem wpList_append_held {P : Program} (w : World) {ops : Array Oper} {rest : List Oper} {o : Oper} {a : Act} {Q : Exit → Act → World → Prop}
    (hgd : o.guard = none) (s x : Operand) (t : TypeId) (ho : o.op = .call { callee := .builtin .append, args := #[s, x], argTypes := #[t, t] })
    (e : TypeId) (i : TypeInfo) (z : Value) (size bytes : Nat) (ht : P.underlying t = some (.slice e)) (hi : P.info? e = some i) (hz : i.zero = some z)
    (hsize : i.size = size) (hby : i.bytes = bytes) (hzs : z.cells.size = size) (hsz : 0 < size)
    (ao : Option Addr) (n cap : Nat) (f : Nat → Value) (hs : a.eval s = .slice ao n cap) (hv : Held w e size ao n cap f)
    (B m c : Nat) (arr : Array Value) (te : TypeId) (hx : a.eval x = .slice (some ⟨B, 0, none⟩) m c) (hB : w.heap[B]? = some (.cells arr te (0, 0))) (hl : arr.size = m * size) (h1 : ∀ u ∈ arr.toList, u.oneCell' = true)
    (hm : 0 < m) (h63 : n + m ≤ maxLen) (hbytes : (n + m) * bytes ≤ 140737488355328)
    (f' : Nat → Value) (hf : ∀ j, j < n * size → f j = f' j) (hf' : ∀ j, j < m * size → arr.getD j .nilFunc = f' (n * size + j))
    (h : ∀ g' cap' w', Blk w' g' e (cap' * size) ((n + m) * size) f' → n + m ≤ cap' → cap' ≤ maxLen → Held w' e size ao n cap f' → w.grownBy w' (own? ao) → (own? ao = some g' ∨ w.heap.size ≤ g') → (∀ b L, Mkd w b L f' → L ≤ (n + m) * size → Mkd w' b L f') →
      wpList P ops Q rest (a.put o.dst (.slice (some ⟨g', 0, none⟩) (n + m) cap')) w') : wpList P ops Q (o :: rest) a w := by
  refine wpList_plain hgd fun _ hK => wp_append_blk w s x t ho e i z size bytes ht hi hz hsize hby hzs hsz ao n cap f hs hv B m c arr te hx hB hl h1 hm h63 hbytes fun g' cap' w' hb hc hcm hor => hK _ _ ?_
  have hb' : Blk w' g' e (cap' * size) ((n + m) * size) f' := hb.congr fun j hj => by
    by_cases hjn : j < n * size
    · rw [if_pos hjn]; exact hf j hjn
    · rw [if_neg hjn, hf' _ (by rw [Nat.add_mul] at hj; omega), show n * size + (j - n * size) = j by omega]
  rcases hor with ⟨hroom, rfl, rfl, hg⟩ | ⟨_, hlt, hg⟩
  · refine h g' cap' w' hb' hc hcm (Or.inr ⟨g', rfl, hb'.less (Nat.mul_le_mul_right _ (by omega)), by omega, hcm⟩) hg (Or.inl rfl) fun b L hM hL => ?_
    by_cases hbg : b = g'
    · subst hbg; exact ⟨_, _, hb'.less hL⟩
    · obtain ⟨e1, N1, hB1⟩ := hM; exact ⟨e1, N1, hB1.keep hg (by simpa using hbg)⟩
  · refine h g' cap' w' hb' hc hcm ?_ (grown_weak hg _) (Or.inr hlt) (fun b L hM _ => by obtain ⟨e1, N1, hB1⟩ := hM; exact ⟨e1, N1, hB1.keep hg (by simp)⟩)
    rcases hv with hv | ⟨g, rfl, hb0, r⟩
    · exact Or.inl hv
    · exact Or.inr ⟨g, rfl, (hb0.keep hg (by simp)).congr hf, r⟩

end Go.Proofs.YthbcfepbkkbjiaaDoor
