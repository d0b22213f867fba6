/- Blocks of the call's own: what a block holds, as a function of the place; make and append in these words. -/
import Derived.Test.YthbcfepbkkbjiaaDoorM
import Derived.Deep.AppendLies
import Derived.ArgAppend
import Derived.Laws.CopyOwn
namespace Go.Proofs.YthbcfepbkkbjiaaDoor
open Go.RowKit

/-- Block b, of element type e, has N cells; the first n hold f; none is frozen. -/
def Blk (w : World) (b : Nat) (e : TypeId) (N n : Nat) (f : Nat → Value) : Prop :=
  ∃ c : Array Value, w.heap[b]? = some (.cells c e (0, 0)) ∧ c.size = N ∧ n ≤ N ∧ ∀ j, j < n → c[j]? = some (f j)

/-- the like, of integers -/
def ints (k : IntKind) (g : Nat → Int) : Nat → Value := fun j => .int k (g j)

section
variable {w w' : World} {b : Nat} {e : TypeId} {N n : Nat} {f : Nat → Value}

theorem Blk.lt (h : Blk w b e N n f) : b < w.heap.size := by
  obtain ⟨c, h1, _⟩ := h
  exact (Array.getElem?_eq_some_iff.1 h1).1

theorem Blk.le (h : Blk w b e N n f) : n ≤ N := by obtain ⟨c, _, _, h3, _⟩ := h; exact h3

theorem Blk.cell (h : Blk w b e N n f) {j : Nat} (hj : j < n) : w.cell? ⟨b, j, none⟩ = some (f j) := by
  obtain ⟨c, h1, _, _, h4⟩ := h
  rw [cell_of_row w b j c e (0, 0) h1]
  exact h4 j hj

theorem Blk.has (h : Blk w b e N n f) {j : Nat} (hj : j < N) : ∃ v, w.cell? ⟨b, j, none⟩ = some v := by
  obtain ⟨c, h1, h2, _, _⟩ := h
  rw [cell_of_row w b j c e (0, 0) h1]
  exact ⟨c[j]'(by omega), by simp⟩

theorem Blk.frozen (h : Blk w b e N n f) (j : Nat) : w.frozen? ⟨b, j, none⟩ = false := by
  obtain ⟨c, h1, _⟩ := h
  simp [World.frozen?, h1]

theorem Blk.congr (h : Blk w b e N n f) {f' : Nat → Value} (hf : ∀ j, j < n → f j = f' j) : Blk w b e N n f' := by
  obtain ⟨c, h1, h2, h3, h4⟩ := h
  exact ⟨c, h1, h2, h3, fun j hj => by rw [h4 j hj, hf j hj]⟩

theorem Blk.less (h : Blk w b e N n f) {m : Nat} (hm : m ≤ n) : Blk w b e N m f := by
  obtain ⟨c, h1, h2, h3, h4⟩ := h
  exact ⟨c, h1, h2, by omega, fun j hj => h4 j (by omega)⟩

theorem Blk.same (h : Blk w b e N n f) (hb : w'.heap[b]? = w.heap[b]?) : Blk w' b e N n f := by
  obtain ⟨c, h1, r⟩ := h
  exact ⟨c, by rw [hb]; exact h1, r⟩

theorem Blk.keep {row : Option Nat} (h : Blk w b e N n f) (hg : w.grownBy w' row) (hr : some b ≠ row) : Blk w' b e N n f :=
  h.same (hg.block b h.lt hr)

theorem Blk.alloc (h : Blk w b e N n f) (o : Obj) : Blk (w.alloc o) b e N n f := h.keep (World.grownBy_alloc w o none) (by simp)

theorem Blk.drewN (h : Blk w b e N n f) (k : Nat) : Blk (w.drewN k) b e N n f := h.same rfl
theorem Blk.drew (h : Blk w b e N n f) : Blk w.drew b e N n f := h.same rfl

/-- A store inside the part that is known, or just behind it. -/
theorem Blk.set (h : Blk w b e N n f) {j : Nat} (hj : j ≤ n) (hN : j < N) (v : Value) : Blk (w.setCell ⟨b, j, none⟩ v) b e N (max n (j + 1)) (fun i => if i = j then v else f i) := by
  obtain ⟨c, h1, h2, h3, h4⟩ := h
  have hlt := (Array.getElem?_eq_some_iff.1 h1).1
  refine ⟨c.setIfInBounds j v, ?_, by simpa using h2, by omega, fun i hi => ?_⟩
  · have e1 := (Array.getElem?_eq_some_iff.1 h1).2
    simp only [World.setCell, Array.getElem?_modify]
    simp [h1]
  · rw [Array.getElem?_setIfInBounds]
    by_cases e1 : i = j
    · subst e1; simp; omega
    · rw [if_neg (by omega)]
      show _ = some (if i = j then v else f i)
      rw [if_neg e1, h4 i (by omega)]

theorem Blk.set' (h : Blk w b e N n f) {j : Nat} (hj : j < n) (v : Value) : Blk (w.setCell ⟨b, j, none⟩ v) b e N n (fun i => if i = j then v else f i) := by
  have := h.set (by omega : j ≤ n) (by have := h.le; omega) v
  rwa [show max n (j + 1) = n by omega] at this

theorem Blk.setOther (h : Blk w b e N n f) {a : Addr} (ha : a.block ≠ b) (v : Value) : Blk (w.setCell a v) b e N n f :=
  h.same (Below.heap_setCell _ _ _ _ (fun e => ha e.symm))

theorem Blk.row {k : IntKind} {g : Nat → Int} (h : Blk w b e N n (ints k g)) {off m : Nat} (hm : off + m ≤ n) : Row w k b off m (fun j => g (off + j)) := fun j hj => h.cell (by omega)

theorem blk_new (w : World) (c : Array Value) (e : TypeId) : Blk (w.alloc (.cells c e)) w.heap.size e c.size c.size (fun j => c.getD j .nilFunc) :=
  ⟨c, heap_alloc_new w _, rfl, Nat.le_refl _, fun j hj => by simp [Array.getD, hj]⟩

end

theorem Row.keep {w w' : World} {row : Option Nat} {k : IntKind} {b off n : Nat} {g : Nat → Int} (h : Row w k b off n g) (hg : w.grownBy w' row) (hr : some b ≠ row) : Row w' k b off n g :=
  fun j hj => hg.cell (h j hj) hr
theorem Row.alloc {w : World} {k : IntKind} {b off n : Nat} {g : Nat → Int} (h : Row w k b off n g) (o : Obj) : Row (w.alloc o) k b off n g := h.keep (World.grownBy_alloc w o none) (by simp)
theorem Row.drewN {w : World} {k : IntKind} {b off n : Nat} {g : Nat → Int} (h : Row w k b off n g) (m : Nat) : Row (w.drewN m) k b off n g := h
theorem Row.head {w : World} {k : IntKind} {b off n m : Nat} {g : Nat → Int} (h : Row w k b off n g) (hm : m ≤ n) : Row w k b off m g := fun j hj => h j (by omega)
theorem Row.tail4 {w : World} {k : IntKind} {b off : Nat} {g : Nat → Int} (h : Row w k b off 8 g) : Row w k b (off + 4) 4 (fun j => g (4 + j)) :=
  fun j hj => by rw [Nat.add_assoc]; exact h (4 + j) (by omega)
theorem Row.part {w : World} {k : IntKind} {b off n : Nat} {g : Nat → Int} (h : Row w k b off n g) {o m : Nat} (hm : o + m ≤ n) : Row w k b (off + o) m (fun j => g (o + j)) :=
  fun j hj => by rw [Nat.add_assoc]; exact h (o + j) (by omega)

/-- the four cells of an instruction, as the walk spells them -/
theorem Row.insn {w : World} {b off n : Nat} {q : Nat → Int} (h : Row w .i64 b off (4 * n) q) {k : Nat} (hk : k < n) :
    w.cell? ⟨b, off + k * 4, none⟩ = some (.int .i64 (q (4 * k))) ∧ w.cell? ⟨b, off + k * 4 + 1, none⟩ = some (.int .i64 (q (4 * k + 1))) ∧
    w.cell? ⟨b, off + k * 4 + 2, none⟩ = some (.int .i64 (q (4 * k + 2))) ∧ w.cell? ⟨b, off + k * 4 + 3, none⟩ = some (.int .i64 (q (4 * k + 3))) := by
  have e : ∀ i, off + (4 * k + i) = off + k * 4 + i := fun i => by omega
  refine ⟨?_, ?_, ?_, ?_⟩
  · have := h (4 * k) (by omega); rwa [show off + 4 * k = off + k * 4 by omega] at this
  · have := h (4 * k + 1) (by omega); rwa [e] at this
  · have := h (4 * k + 2) (by omega); rwa [e] at this
  · have := h (4 * k + 3) (by omega); rwa [e] at this

theorem Blk.insn {w : World} {b : Nat} {e : TypeId} {N n : Nat} {q : Nat → Int} (h : Blk w b e N (n * 4) (ints .i64 q)) {k : Nat} (hk : k < n) :
    w.cell? ⟨b, k * 4, none⟩ = some (.int .i64 (q (4 * k))) ∧ w.cell? ⟨b, k * 4 + 1, none⟩ = some (.int .i64 (q (4 * k + 1))) ∧
    w.cell? ⟨b, k * 4 + 2, none⟩ = some (.int .i64 (q (4 * k + 2))) ∧ w.cell? ⟨b, k * 4 + 3, none⟩ = some (.int .i64 (q (4 * k + 3))) := by
  have e : ∀ i, w.cell? ⟨b, 4 * k + i, none⟩ = w.cell? ⟨b, k * 4 + i, none⟩ := fun i => by rw [Nat.mul_comm]
  refine ⟨?_, ?_, ?_, ?_⟩
  · rw [Nat.mul_comm k 4]; exact h.cell (by omega)
  · rw [← e]; exact h.cell (by omega)
  · rw [← e]; exact h.cell (by omega)
  · rw [← e]; exact h.cell (by omega)

/- 'grownBy', step by step -/
theorem grown_refl (w : World) (row : Option Nat) : w.grownBy w row := ⟨rfl, rfl, rfl, Nat.le_refl _, fun _ _ _ => rfl⟩
theorem grown_trans {a b c : World} {row : Option Nat} (h : a.grownBy b row) (k : b.grownBy c row) : a.grownBy c row :=
  ⟨k.os.trans h.os, k.tape.trans h.tape, k.output.trans h.output, Nat.le_trans h.size k.size, fun i hi hr => (k.block i (Nat.lt_of_lt_of_le hi h.size) hr).trans (h.block i hi hr)⟩
theorem grown_weak {a b : World} (h : a.grownBy b none) (row : Option Nat) : a.grownBy b row := ⟨h.os, h.tape, h.output, h.size, fun i hi _ => h.block i hi (by simp)⟩
/-- Writes to a block that is new since then are nobody's business. -/
theorem grown_new {a b c : World} {g : Nat} (row : Option Nat) (h : a.grownBy b row) (k : b.grownBy c (some g)) (hg : a.heap.size ≤ g) : a.grownBy c row :=
  ⟨k.os.trans h.os, k.tape.trans h.tape, k.output.trans h.output, Nat.le_trans h.size k.size, fun i hi hr => (k.block i (Nat.lt_of_lt_of_le hi h.size) (by simp; omega)).trans (h.block i hi hr)⟩
theorem grown_none {a b c : World} {row : Option Nat} (h : a.grownBy b row) (k : b.grownBy c none) : a.grownBy c row := grown_trans h (grown_weak k row)
theorem grown_drewN (w : World) (n : Nat) (row : Option Nat) : w.grownBy (w.drewN n) row := ⟨rfl, rfl, rfl, Nat.le_refl _, fun _ _ _ => rfl⟩
theorem grown_drew {a b : World} {row : Option Nat} (h : a.grownBy b row) : a.grownBy b.drew row := ⟨h.os, h.tape, h.output, h.size, h.block⟩
theorem grown_alloc {a b : World} {row : Option Nat} (h : a.grownBy b row) (o : Obj) : a.grownBy (b.alloc o) row := grown_none h (World.grownBy_alloc b o none)
theorem grown_undrew {w w' : World} {row : Option Nat} (h : w.drew.grownBy w' row) : w.grownBy w' row := ⟨h.os, h.tape, h.output, h.size, h.block⟩
theorem grown_undrewN {w w' : World} {n : Nat} {row : Option Nat} (h : (w.drewN n).grownBy w' row) : w.grownBy w' row := ⟨h.os, h.tape, h.output, h.size, h.block⟩
theorem grown_setCell (w : World) (a : Addr) (v : Value) : w.grownBy (w.setCell a v) (some a.block) :=
  ⟨rfl, rfl, rfl, by simp [World.setCell], fun i _ hr => Below.heap_setCell _ _ _ _ (by simpa using hr)⟩
theorem box_of {w wr : World} {arr : Array Value} {t : TypeId} {row : Option Nat} (hg : (w.alloc (.cells arr t)).grownBy wr row) (hr : ∀ g, row = some g → g < w.heap.size) {j : Nat} {u : Value} (hj : arr[j]? = some u) : wr.cell? ⟨w.heap.size, j, none⟩ = some u := by
  refine hg.cell (by rw [World.cell?_alloc_new]; exact hj) (fun e => ?_)
  exact Nat.lt_irrefl _ (hr _ e.symm)

theorem box_four {w wr : World} {a b c d : Value} {t : TypeId} {row : Option Nat} (hg : (w.alloc (.cells #[a, b, c, d] t)).grownBy wr row) (hr : ∀ g, row = some g → g < w.heap.size) :
    wr.cell? ⟨w.heap.size, 0, none⟩ = some a ∧ wr.cell? ⟨w.heap.size, 1, none⟩ = some b ∧ wr.cell? ⟨w.heap.size, 2, none⟩ = some c ∧ wr.cell? ⟨w.heap.size, 3, none⟩ = some d :=
  ⟨box_of hg hr rfl, box_of hg hr rfl, box_of hg hr rfl, box_of hg hr rfl⟩

theorem alloc_lt {w wr : World} {o : Obj} {row : Option Nat} (hg : (w.alloc o).grownBy wr row) : w.heap.size < wr.heap.size := by have := hg.size; simp at this; omega

def quad (f : Nat → Value) (j : Nat) (a b c d : Value) : Nat → Value := fun i => if i = j + 3 then d else if i = j + 2 then c else if i = j + 1 then b else if i = j then a else f i
theorem Blk.quad {w : World} {B : Nat} {e : TypeId} {N n : Nat} {f : Nat → Value} (h : Blk w B e N n f) {j : Nat} (hj : j + 3 < n) (a b c d : Value) :
    Blk ((((w.setCell ⟨B, j, none⟩ a).setCell ⟨B, j + 1, none⟩ b).setCell ⟨B, j + 2, none⟩ c).setCell ⟨B, j + 3, none⟩ d) B e N n (quad f j a b c d) ∧
    w.grownBy ((((w.setCell ⟨B, j, none⟩ a).setCell ⟨B, j + 1, none⟩ b).setCell ⟨B, j + 2, none⟩ c).setCell ⟨B, j + 3, none⟩ d) (some B) :=
  ⟨(((h.set' (by omega) a).set' (by omega) b).set' (by omega) c).set' (by omega) d,
   grown_trans (grown_trans (grown_trans (grown_setCell w ⟨B, j, none⟩ a) (grown_setCell _ ⟨B, j + 1, none⟩ b)) (grown_setCell _ ⟨B, j + 2, none⟩ c)) (grown_setCell _ ⟨B, j + 3, none⟩ d)⟩
theorem grown_set {a b : World} (h : a.grownBy b none) {p : Addr} (hp : a.heap.size ≤ p.block) (v : Value) : a.grownBy (b.setCell p v) none := grown_new none h (grown_setCell b p v) hp
theorem grown_below {w w' : World} (h : w.grownBy w' none) : Below w.heap.size w w' := ⟨h.os, h.tape, h.output, h.size, fun k hk => h.block k hk (by simp)⟩
theorem below_grown {w w' : World} (h : Below w.heap.size w w') : w.grownBy w' none := ⟨h.os, h.tape, h.output, h.size, fun k hk _ => h.block k hk⟩

theorem blk_of_owns {w : World} {base : Nat} {e : TypeId} {size : Nat} {g n cap : Nat} {xs : List Value} (h : w.ownsRow base e size (.slice (some ⟨g, 0, none⟩) n cap) n xs) :
    base ≤ g ∧ n ≤ cap ∧ cap ≤ maxLen ∧ Blk w g e (cap * size) (n * size) (fun j => xs.getD j .nilFunc) := by
  obtain ⟨h1, h2⟩ := h
  rcases h2 with ⟨h2, _⟩ | ⟨g', cap', cur, hv, hb, hh, hn, hm, hs, ht⟩
  · cases h2
  · cases hv
    refine ⟨hb, hn, hm, cur, hh, hs, Nat.mul_le_mul_right _ hn, fun j hj => ?_⟩
    have e1 : xs[j]? = cur[j]? := by rw [← ht, List.getElem?_take, if_pos hj]; simp
    rw [← e1]
    simp [List.getD, List.getElem?_eq_getElem (by omega : j < xs.length)]

theorem owns_of_blk {w : World} {e : TypeId} {size : Nat} {g n cap : Nat} {f : Nat → Value} (h : Blk w g e (cap * size) (n * size) f) (hn : n ≤ cap) (hm : cap ≤ maxLen) :
    w.ownsRow g e size (.slice (some ⟨g, 0, none⟩) n cap) n ((List.range (n * size)).map f) := by
  obtain ⟨c, h1, h2, h3, h4⟩ := h
  refine ⟨by simp, Or.inr ⟨g, cap, c, rfl, Nat.le_refl _, h1, hn, hm, h2, ?_⟩⟩
  apply List.ext_getElem?
  intro j
  rw [List.getElem?_take]
  by_cases hj : j < n * size
  · rw [if_pos hj, List.getElem?_map, List.getElem?_range hj]
    have := h4 j hj
    simpa using this
  · rw [if_neg hj, List.getElem?_eq_none (by simp; omega)]

/-- make([]T, n): a new block of zeros. -/
theorem wpList_make_blk {P : Program} (w : World) {ops : Array Oper} {rest : List Oper} {o : Oper} {a : Act} {Q : Exit → Act → World → Prop}
    (hg : o.guard = none) (l c : Operand) (t : TypeId) (hop : o.op = Op.makeSlice t l c)
    (e : TypeId) (i : TypeInfo) (z : Value) (size : Nat) (h1 : P.underlying t = some (.slice e)) (h2 : P.info? e = some i) (h3 : i.zero = some z) (h4 : i.size = size)
    (kl kc : IntKind) (L C : Int) (n : Nat) (hl : a.eval l = .int kl L) (hc : a.eval c = .int kc C) (hL : L = (n : Int)) (hC : C = (n : Int)) (b2 : i.bytes * n ≤ 281474976710656) (b3 : n ≤ maxLen)
    (z0 : Value) (hz : ∀ j, z.cells[j % z.cells.size]! = z0)
    (hK : ∀ w', Blk w' w.heap.size e (n * size) (n * size) (fun _ => z0) → w.grownBy w' none → wpList P ops Q rest (a.put o.dst (.slice (some ⟨w.heap.size, 0, none⟩) n n)) w') :
    wpList P ops Q (o :: rest) a w := by
  refine wpList_make_full w hg l c t hop w.heap.size e i z size h1 h2 h3 h4 kl kc L C n hl hc hL hC b2 b3 (Nat.le_refl _) fun w' hw hgr => hK w' ?_ hgr
  refine (blk_of_owns hw).2.2.2.congr fun j hj => ?_
  simp [madeCells, List.getD, hj, hz]

/-- append, where it grows and where there is room. -/
theorem run_append_blk {P : Program} (w : World) (t ty : TypeId)
    (e : TypeId) (i : TypeInfo) (z : Value) (size bytes : Nat) (ht : P.underlying t = some (.slice e)) (hi : P.info? e = some i) (hz : i.zero = some z)
    (hsize : i.size = size) (hby : i.bytes = bytes) (hzs : z.cells.size = size) (hsz : 0 < size)
    (ao : Option Addr) (n cap : Nat) (f : Nat → Value)
    (hv : (ao = none ∧ n = 0 ∧ cap = 0) ∨ ∃ g, ao = some ⟨g, 0, none⟩ ∧ Blk w g e (cap * size) (n * size) f ∧ n ≤ cap ∧ cap ≤ maxLen)
    (B m c : Nat) (arr : Array Value) (te : TypeId) (hB : w.heap[B]? = some (.cells arr te (0, 0))) (hl : arr.size = m * size) (h1 : ∀ u ∈ arr.toList, u.oneCell' = true)
    (hm : 0 < m) (h63 : n + m ≤ maxLen) (hbytes : (n + m) * bytes ≤ 140737488355328) :
    ∃ g' cap' w', (Builtin.append_ #[t, t] ty #[.slice ao n cap, .slice (some ⟨B, 0, none⟩) m c]).run P w = .ok (.slice (some ⟨g', 0, none⟩) (n + m) cap') w' ∧
      Blk w' g' e (cap' * size) ((n + m) * size) (fun j => if j < n * size then f j else arr.getD (j - n * size) .nilFunc) ∧ n + m ≤ cap' ∧ cap' ≤ maxLen ∧
      ((n + m ≤ cap ∧ ao = some ⟨g', 0, none⟩ ∧ cap' = cap ∧ w.grownBy w' (some g')) ∨ (cap < n + m ∧ w.heap.size ≤ g' ∧ w.grownBy w' none)) := by
  have key : ∀ (olds : List Value) (g' cap' : Nat) (w' : World), olds.length = n * size → (∀ j, j < n * size → olds.getD j .nilFunc = f j) → Blk w' g' e (cap' * size) ((n + m) * size) (fun j => (olds ++ arr.toList).getD j .nilFunc) →
      Blk w' g' e (cap' * size) ((n + m) * size) (fun j => if j < n * size then f j else arr.getD (j - n * size) .nilFunc) := by
    intro olds g' cap' w' hlen hol hb
    refine hb.congr fun j hj => ?_
    by_cases hjn : j < n * size
    · rw [if_pos hjn, ← hol j hjn]
      simp [List.getD, List.getElem?_append_left (by omega : j < olds.length)]
    · rw [if_neg hjn]
      simp [List.getD, List.getElem?_append_right (by omega : olds.length ≤ j), hlen, Array.getD_eq_getD_getElem?]
  have grow : ∀ (olds : List Value) v' w', olds.length = n * size → (∀ j, j < n * size → olds.getD j .nilFunc = f j) → cap < n + m → w'.ownsRow w.heap.size e size v' (n + m) (olds ++ arr.toList) → w.grownBy w' none →
      ∃ g' cap', v' = .slice (some ⟨g', 0, none⟩) (n + m) cap' ∧ Blk w' g' e (cap' * size) ((n + m) * size) (fun j => if j < n * size then f j else arr.getD (j - n * size) .nilFunc) ∧ n + m ≤ cap' ∧ cap' ≤ maxLen ∧
      ((n + m ≤ cap ∧ ao = some ⟨g', 0, none⟩ ∧ cap' = cap ∧ w.grownBy w' (some g')) ∨ (cap < n + m ∧ w.heap.size ≤ g' ∧ w.grownBy w' none)) := by
    intro olds v' w' hlen hol hcap how hgr
    have how2 := how
    rcases how.2 with ⟨_, h0⟩ | ⟨g', cap', cur, rfl, hb, _, hn', hm', _⟩
    · omega
    · have q := blk_of_owns how2
      exact ⟨g', cap', rfl, key olds g' cap' w' hlen hol q.2.2.2, hn', hm', Or.inr ⟨hcap, hb, hgr⟩⟩
  rcases hv with ⟨rfl, rfl, rfl⟩ | ⟨g, rfl, hblk, hn, hcm⟩
  · obtain ⟨v', w', hr, how, hgr, _⟩ := run_append_own_at (P := P) w w.heap.size t ty e i z size bytes ht hi hz hsize hby hzs hsz (.slice none 0 0) 0 [] (World.ownsRow_nil _ _ _ _) ⟨B, 0, none⟩ m c arr.toList (by simpa using hl) (World.news_of_block hB) h1 h63 hbytes (Nat.le_refl _)
    obtain ⟨g', cap', rfl, r⟩ := grow [] v' w' (by simp) (fun j hj => by simp at hj) (by omega) how hgr
    exact ⟨g', cap', w', hr, r⟩
  · by_cases hroom : n + m ≤ cap
    · obtain ⟨w', hr, how, hgr⟩ := run_append_fits (P := P) w g t ty e i size ht hi hsize g n cap _ (owns_of_blk hblk hn hcm) ⟨B, 0, none⟩ m c arr.toList (by simpa using hl) (World.news_of_block hB) h1 hroom
      have q := blk_of_owns how
      exact ⟨g, cap, w', hr, key _ g cap w' (by simp) (fun j hj => by simp [List.getD, hj]) q.2.2.2, hroom, hcm, Or.inl ⟨hroom, rfl, rfl, hgr⟩⟩
    · obtain ⟨v', w', hr, how, hgr⟩ := run_append_arg_grows (P := P) w t ty e i z size bytes ht hi hz hsize hby hzs hsz ⟨g, 0, none⟩ n cap ((List.range (n * size)).map f) (by simp) (fun j u hu => (owns_of_blk hblk hn hcm).cells rfl j u hu) ⟨B, 0, none⟩ m c arr.toList (by simpa using hl) (World.news_of_block hB) (by omega) h63 hbytes
      obtain ⟨g', cap', rfl, r⟩ := grow _ v' w' (by simp) (fun j hj => by simp [List.getD, hj]) (by omega) how hgr
      exact ⟨g', cap', w', hr, r⟩

theorem wp_append_blk {P : Program} (w : World) {o : Oper} {a : Act} {K : Act → World → Prop} {Q : Exit → Act → World → Prop}
    (s x : Operand) (t : TypeId) (ho : o.op = .call { callee := .builtin .append, args := #[s, x], argTypes := #[t, t] })
    (e : TypeId) (i : TypeInfo) (z : Value) (size bytes : Nat) (ht : P.underlying t = some (.slice e)) (hi : P.info? e = some i) (hz : i.zero = some z)
    (hsize : i.size = size) (hby : i.bytes = bytes) (hzs : z.cells.size = size) (hsz : 0 < size)
    (ao : Option Addr) (n cap : Nat) (f : Nat → Value) (hs : a.eval s = .slice ao n cap)
    (hv : (ao = none ∧ n = 0 ∧ cap = 0) ∨ ∃ g, ao = some ⟨g, 0, none⟩ ∧ Blk w g e (cap * size) (n * size) f ∧ n ≤ cap ∧ cap ≤ maxLen)
    (B m c : Nat) (arr : Array Value) (te : TypeId) (hx : a.eval x = .slice (some ⟨B, 0, none⟩) m c) (hB : w.heap[B]? = some (.cells arr te (0, 0))) (hl : arr.size = m * size) (h1 : ∀ u ∈ arr.toList, u.oneCell' = true)
    (hm : 0 < m) (h63 : n + m ≤ maxLen) (hbytes : (n + m) * bytes ≤ 140737488355328)
    (h : ∀ g' cap' w', Blk w' g' e (cap' * size) ((n + m) * size) (fun j => if j < n * size then f j else arr.getD (j - n * size) .nilFunc) → n + m ≤ cap' → cap' ≤ maxLen →
      ((n + m ≤ cap ∧ ao = some ⟨g', 0, none⟩ ∧ cap' = cap ∧ w.grownBy w' (some g')) ∨ (cap < n + m ∧ w.heap.size ≤ g' ∧ w.grownBy w' none)) →
      K (a.put o.dst (.slice (some ⟨g', 0, none⟩) (n + m) cap')) w') : o.wp P a w K Q := by
  obtain ⟨g', cap', w', hr, r1, r2, r3, r4⟩ := run_append_blk (P := P) w t o.type e i z size bytes ht hi hz hsize hby hzs hsz ao n cap f hv B m c arr te hB hl h1 hm h63 hbytes
  unfold Oper.wp execOp
  simp only [ho, resolve, invoke, builtin, Sem.run_bind, Sem.run_pure, Result.andThen_ok, List.map_toArray, List.map_cons, List.map_nil, hs, hx, hr]
  exact h g' cap' w' r1 r2 r3 r4

theorem heap_top (w : World) (o : Obj) (B : Nat) (h : B = w.heap.size) : (w.alloc o).heap[B]? = some o := by subst h; exact heap_alloc_new w o

def patch (f : Nat → Value) (off m : Nat) (h : Nat → Value) : Nat → Value := fun j => if off ≤ j ∧ j < off + m then h (j - off) else f j

theorem patch_zero (f : Nat → Value) (off : Nat) (h : Nat → Value) (j : Nat) : patch f off 0 h j = f j := by unfold patch; rw [if_neg (by omega)]
theorem patch_succ (f : Nat → Value) (off m : Nat) (h : Nat → Value) (j : Nat) : (if j = off + m then h m else patch f off m h j) = patch f off (m + 1) h j := by
  unfold patch
  by_cases e : j = off + m
  · subst e; rw [if_pos rfl, if_pos (by omega)]; simp
  · rw [if_neg e]
    by_cases e2 : off ≤ j ∧ j < off + m
    · rw [if_pos e2, if_pos (by omega)]
    · rw [if_neg e2, if_neg (by omega)]

/-- copy(dst, src) into a block of the call's own, from its head on; src may be nil. -/
theorem run_copy_blk {P : Program} (w : World) (dT sT ty elem e : TypeId) (size : Nat) (hu : P.underlying dT = some (.slice elem)) (hs : (P.info? elem).map (·.size) = some size)
    (g dLen dCap N n : Nat) (f : Nat → Value) (hb : Blk w g e N n f) (sp : Option Addr) (sLen sCap : Nat) (hle : sLen ≤ dLen) (hfit : sLen * size ≤ n)
    (f' : Nat → Value) (h1 : ∀ j, j < sLen * size → (f' j).oneCell' = true) (hpos : 0 < sLen → ∃ b off, sp = some ⟨b, off, none⟩ ∧ ∀ j, j < sLen * size → w.cell? ⟨b, off + j, none⟩ = some (f' j)) :
    ∃ w', (Builtin.copy_ #[dT, sT] ty #[.slice (some ⟨g, 0, none⟩) dLen dCap, .slice sp sLen sCap]).run P w = .ok (goInt sLen) w' ∧ Blk w' g e N n (patch f 0 (sLen * size) f') ∧ w.grownBy w' (some g) := by
  cases hq : P.info? elem with
  | none => simp [hq] at hs
  | some i =>
    have hi : i.size = size := by simpa [hq] using hs
    have hmin : Nat.min sLen dLen = sLen := Nat.min_eq_left hle
    by_cases h0 : sLen = 0
    · subst h0
      refine ⟨w, ?_, hb.congr fun j _ => ?_, grown_refl _ _⟩
      · cases sp with
        | none => simp [Builtin.copy_, run_underlying hu, Builtin.lenOf, Builtin.firstCells, sizeOf, typeInfo, hq, storeCells]
        | some a =>
          have hl := run_loadCells_list (P := P) w a [] (by simp)
          simp [Builtin.copy_, run_underlying hu, Builtin.lenOf, Builtin.firstCells, sizeOf, typeInfo, hq] at hl ⊢
          simp [hl, storeCells]
      · simp [patch]
    · obtain ⟨b, off, rfl, hc⟩ := hpos (by omega)
      obtain ⟨cur, k1, k2, k3, k4⟩ := hb
      have hlen : ((List.range (sLen * size)).map f').length = sLen * size := by simp
      have hsrc : ∀ j v, ((List.range (sLen * size)).map f')[j]? = some v → w.cell? ((⟨b, off, none⟩ : Addr).add j) = some v := by
        intro j v hj
        have hadd : (⟨b, off, none⟩ : Addr).add j = ⟨b, off + j, none⟩ := by unfold Addr.add; split <;> simp_all
        rw [hadd]
        have hj2 : j < sLen * size := by have := (List.getElem?_eq_some_iff.1 hj).1; simpa using this
        rw [hc j hj2]
        simpa [hj2] using hj
      have hl := run_loadCells_list (P := P) w ⟨b, off, none⟩ _ hsrc
      have hst := run_storeCells_at P g 0 e ((List.range (sLen * size)).map f') 0 cur w k1 (by simp; omega) (by
        intro v hv
        obtain ⟨j, hj, rfl⟩ := List.mem_map.1 hv
        exact h1 j (by simpa using hj))
      rw [hlen] at hl hst
      refine ⟨w.setRow g ((List.range (sLen * size)).map f' ++ cur.toList.drop (sLen * size)).toArray, ?_, ⟨_, setRow_heap w g cur _ e _ k1, ?_, k3, ?_⟩, ?_⟩
      · simp only [Nat.zero_add, List.take_zero, List.nil_append] at hst
        simp [Builtin.copy_, run_underlying hu, Builtin.lenOf, Builtin.firstCells, sizeOf, typeInfo, hq, hi, hmin, hl, hst]
      · simp; omega
      · intro j hj
        simp only [List.getElem?_toArray, List.getElem?_append, hlen]
        by_cases hjl : j < sLen * size
        · rw [if_pos hjl]; simp [hjl, patch]
        · rw [if_neg hjl, List.getElem?_drop, show sLen * size + (j - sLen * size) = j by omega]
          have := k4 j hj
          simp only [patch, Nat.zero_add]
          rw [if_neg (by omega)]
          simpa using this
      · exact ⟨rfl, rfl, rfl, by simp [World.setRow], fun k _ hr => setRow_other w g k _ (by simpa using fun e => hr (by rw [e]))⟩

theorem wpList_copy_blk {P : Program} (w : World) {ops : Array Oper} {rest : List Oper} {o : Oper} {a : Act} {Q : Exit → Act → World → Prop} (hgd : o.guard = none) (d s : Operand) (dT sT : TypeId)
    (ho : o.op = .call { callee := .builtin .copy, args := #[d, s], argTypes := #[dT, sT] }) (elem e : TypeId) (size : Nat) (hu : P.underlying dT = some (.slice elem)) (hsz : (P.info? elem).map (·.size) = some size)
    (g dLen dCap N n : Nat) (f : Nat → Value) (hd : a.eval d = .slice (some ⟨g, 0, none⟩) dLen dCap) (hb : Blk w g e N n f) (sp : Option Addr) (sLen sCap : Nat) (hs : a.eval s = .slice sp sLen sCap) (hle : sLen ≤ dLen) (hfit : sLen * size ≤ n)
    (f' : Nat → Value) (h1 : ∀ j, j < sLen * size → (f' j).oneCell' = true) (hpos : 0 < sLen → ∃ b off, sp = some ⟨b, off, none⟩ ∧ ∀ j, j < sLen * size → w.cell? ⟨b, off + j, none⟩ = some (f' j))
    (h : ∀ w', Blk w' g e N n (patch f 0 (sLen * size) f') → w.grownBy w' (some g) → wpList P ops Q rest (a.put o.dst (goInt sLen)) w') : wpList P ops Q (o :: rest) a w := by
  refine wpList_plain hgd fun K hK => ?_
  obtain ⟨w', hrun, r1, r2⟩ := run_copy_blk (P := P) w dT sT o.type elem e size hu hsz g dLen dCap N n f hb sp sLen sCap hle hfit f' h1 hpos
  unfold Oper.wp
  simp [execOp, ho, resolve, invoke, builtin, hd, hs, hrun, Result.andThen]
  exact hK _ _ (h w' r1 r2)

/-- What is being put together by append: nothing yet, or a block of the call's own (from base on). -/
def Out (w : World) (base : Nat) (e : TypeId) (size : Nat) (v : Value) (n : Nat) (f : Nat → Value) : Prop :=
  ∃ ao cap, v = .slice ao n cap ∧ ((ao = none ∧ n = 0 ∧ cap = 0) ∨ ∃ g, ao = some ⟨g, 0, none⟩ ∧ base ≤ g ∧ Blk w g e (cap * size) (n * size) f ∧ n ≤ cap ∧ cap ≤ maxLen)

theorem out_nil (w : World) (base : Nat) (e : TypeId) (size : Nat) (f : Nat → Value) : Out w base e size (.slice none 0 0) 0 f := ⟨none, 0, rfl, Or.inl ⟨rfl, rfl, rfl⟩⟩

theorem Out.keep {w w' : World} {base : Nat} {e : TypeId} {size : Nat} {v : Value} {n : Nat} {f : Nat → Value} {row : Option Nat} (h : Out w base e size v n f) (hg : w.grownBy w' row) (hr : ∀ k, row = some k → k < base) : Out w' base e size v n f := by
  obtain ⟨ao, cap, h1, h2⟩ := h
  refine ⟨ao, cap, h1, ?_⟩
  rcases h2 with h2 | ⟨g, h3, h4, h5, h6⟩
  · exact Or.inl h2
  · exact Or.inr ⟨g, h3, h4, h5.keep hg (fun e => by have := hr g e.symm; omega), h6⟩

theorem Out.alloc {w : World} {base : Nat} {e : TypeId} {size : Nat} {v : Value} {n : Nat} {f : Nat → Value} (h : Out w base e size v n f) (o : Obj) : Out (w.alloc o) base e size v n f := h.keep (World.grownBy_alloc w o none) (by simp)

theorem Out.drew {w : World} {base : Nat} {e : TypeId} {size : Nat} {v : Value} {n : Nat} {f : Nat → Value} (h : Out w base e size v n f) : Out w.drew base e size v n f := h.keep (grown_drew (grown_refl w none)) (by simp)
theorem heap_topd (w : World) (o : Obj) (B : Nat) (h : B = w.heap.size) : (w.alloc o).drew.heap[B]? = some o := heap_top w o B h

theorem Out.congr {w : World} {base : Nat} {e : TypeId} {size : Nat} {v : Value} {n : Nat} {f f' : Nat → Value} (h : Out w base e size v n f) (hf : ∀ j, j < n * size → f j = f' j) : Out w base e size v n f' := by
  obtain ⟨ao, cap, h1, h2⟩ := h
  refine ⟨ao, cap, h1, ?_⟩
  rcases h2 with h2 | ⟨g, h3, h4, h5, h6⟩
  · exact Or.inl h2
  · exact Or.inr ⟨g, h3, h4, h5.congr hf, h6⟩

theorem Out.own {w : World} {base : Nat} {e : TypeId} {size : Nat} {v : Value} {n : Nat} {f : Nat → Value} (h : Out w base e size v n f) : ∀ g, v.ownBlock = some g → base ≤ g ∧ g < w.heap.size := by
  obtain ⟨ao, cap, rfl, h2⟩ := h
  intro g hg
  rcases h2 with ⟨rfl, _⟩ | ⟨g', rfl, h4, h5, _⟩
  · cases hg
  · cases hg; exact ⟨h4, h5.lt⟩

/-- A cell that the round has laid stays, whatever was appended. -/
theorem Out.box {w w1 : World} {base : Nat} {e : TypeId} {size : Nat} {v : Value} {n : Nat} {f : Nat → Value} {arr : Array Value} {t : TypeId} {o : Obj} (h : Out w base e size v n f)
    (hg : ((w.alloc (.cells arr t)).alloc o).grownBy w1 v.ownBlock) {j : Nat} {u : Value} (hj : arr[j]? = some u) : w1.cell? ⟨w.heap.size, j, none⟩ = some u := by
  refine hg.cell ?_ (fun hc => Nat.lt_irrefl _ (h.own _ hc.symm).2)
  have e1 : ((w.alloc (.cells arr t)).alloc o).cell? ⟨w.heap.size, j, none⟩ = (w.alloc (.cells arr t)).cell? ⟨w.heap.size, j, none⟩ := World.cell?_alloc_past _ _ _ (by simp)
  rw [e1, World.cell?_alloc_new]
  exact hj

/-- out = append(out, ..): at the operation -/
theorem wp_append_out {P : Program} (w w0 : World) {o : Oper} {a : Act} {K : Act → World → Prop} {Q : Exit → Act → World → Prop}
    (s x : Operand) (t : TypeId) (ho : o.op = .call { callee := .builtin .append, args := #[s, x], argTypes := #[t, t] })
    (e : TypeId) (i : TypeInfo) (z : Value) (size bytes : Nat) (ht : P.underlying t = some (.slice e)) (hi : P.info? e = some i) (hz : i.zero = some z)
    (hsize : i.size = size) (hby : i.bytes = bytes) (hzs : z.cells.size = size) (hsz : 0 < size)
    (v : Value) (n : Nat) (f : Nat → Value) (hs : a.eval s = v) (hv : Out w w0.heap.size e size v n f) (hgr : w0.grownBy w none)
    (B m c : Nat) (arr : Array Value) (te : TypeId) (hx : a.eval x = .slice (some ⟨B, 0, none⟩) m c) (hB : w.heap[B]? = some (.cells arr te (0, 0))) (hl : arr.size = m * size) (h1 : ∀ u ∈ arr.toList, u.oneCell' = true)
    (hm : 0 < m) (h63 : n + m ≤ maxLen) (hbytes : (n + m) * bytes ≤ 140737488355328)
    (h : ∀ g' cap' w', Out w' w0.heap.size e size (.slice (some ⟨g', 0, none⟩) (n + m) cap') (n + m) (fun j => if j < n * size then f j else arr.getD (j - n * size) .nilFunc) → w0.grownBy w' none → w.grownBy w' v.ownBlock →
      K (a.put o.dst (.slice (some ⟨g', 0, none⟩) (n + m) cap')) w') : o.wp P a w K Q := by
  obtain ⟨ao, cap, rfl, h2⟩ := hv
  refine wp_append_blk w s x t ho e i z size bytes ht hi hz hsize hby hzs hsz ao n cap f hs ?_ B m c arr te hx hB hl h1 hm h63 hbytes fun g' cap' w' hb hc hm' hor => ?_
  · rcases h2 with h2 | ⟨g, h3, h4, h5, h6⟩
    · exact Or.inl h2
    · exact Or.inr ⟨g, h3, h5, h6⟩
  · rcases hor with ⟨_, e1, rfl, hg⟩ | ⟨_, hlt, hg⟩
    · rcases h2 with ⟨e2, _⟩ | ⟨g, h3, h4, h5, h6⟩
      · rw [e2] at e1; cases e1
      · rw [h3] at e1; cases e1
        exact h g' cap' w' ⟨_, cap', rfl, Or.inr ⟨g', rfl, h4, hb, hc, hm'⟩⟩ (grown_new none hgr hg h4) (by rw [h3]; exact hg)
    · exact h g' cap' w' ⟨_, cap', rfl, Or.inr ⟨g', rfl, Nat.le_trans hgr.size hlt, hb, hc, hm'⟩⟩ (grown_trans hgr hg) (grown_weak hg _)

/-- the like, in a plain region -/
theorem wpList_append_out {P : Program} (w w0 : World) {ops : Array Oper} {rest : List Oper} {o : Oper} {a : Act} {Q : Exit → Act → World → Prop}
    (hgd : o.guard = none) (s x : Operand) (t : TypeId) (ho : o.op = .call { callee := .builtin .append, args := #[s, x], argTypes := #[t, t] })
    (e : TypeId) (i : TypeInfo) (z : Value) (size bytes : Nat) (ht : P.underlying t = some (.slice e)) (hi : P.info? e = some i) (hz : i.zero = some z)
    (hsize : i.size = size) (hby : i.bytes = bytes) (hzs : z.cells.size = size) (hsz : 0 < size)
    (v : Value) (n : Nat) (f : Nat → Value) (hs : a.eval s = v) (hv : Out w w0.heap.size e size v n f) (hgr : w0.grownBy w none)
    (B m c : Nat) (arr : Array Value) (te : TypeId) (hx : a.eval x = .slice (some ⟨B, 0, none⟩) m c) (hB : w.heap[B]? = some (.cells arr te (0, 0))) (hl : arr.size = m * size) (h1 : ∀ u ∈ arr.toList, u.oneCell' = true)
    (hm : 0 < m) (h63 : n + m ≤ maxLen) (hbytes : (n + m) * bytes ≤ 140737488355328)
    (h : ∀ g' cap' w', Out w' w0.heap.size e size (.slice (some ⟨g', 0, none⟩) (n + m) cap') (n + m) (fun j => if j < n * size then f j else arr.getD (j - n * size) .nilFunc) → w0.grownBy w' none → w.grownBy w' v.ownBlock →
      wpList P ops Q rest (a.put o.dst (.slice (some ⟨g', 0, none⟩) (n + m) cap')) w') : wpList P ops Q (o :: rest) a w :=
  wpList_plain hgd fun _ hK => wp_append_out w w0 s x t ho e i z size bytes ht hi hz hsize hby hzs hsz v n f hs hv hgr B m c arr te hx hB hl h1 hm h63 hbytes fun g' cap' w' h2 h3 h4 => hK _ _ (h g' cap' w' h2 h3 h4)

/-- the like, in a region that draws its order -/
theorem step_append_out {P : Program} (w w0 : World) {ops : Array Oper} {o : Oper} {a : Act} {K : Act → World → Prop} {Q : Exit → Act → World → Prop} {E : Prop} (hgd : o.guard = none)
    (s x : Operand) (t : TypeId) (ho : o.op = .call { callee := .builtin .append, args := #[s, x], argTypes := #[t, t] })
    (e : TypeId) (i : TypeInfo) (z : Value) (size bytes : Nat) (ht : P.underlying t = some (.slice e)) (hi : P.info? e = some i) (hz : i.zero = some z)
    (hsize : i.size = size) (hby : i.bytes = bytes) (hzs : z.cells.size = size) (hsz : 0 < size)
    (v : Value) (n : Nat) (f : Nat → Value) (hs : a.eval s = v) (hv : Out w w0.heap.size e size v n f) (hgr : w0.grownBy w none)
    (B m c : Nat) (arr : Array Value) (te : TypeId) (hx : a.eval x = .slice (some ⟨B, 0, none⟩) m c) (hB : w.heap[B]? = some (.cells arr te (0, 0))) (hl : arr.size = m * size) (h1 : ∀ u ∈ arr.toList, u.oneCell' = true)
    (hm : 0 < m) (h63 : n + m ≤ maxLen) (hbytes : (n + m) * bytes ≤ 140737488355328)
    (h : ∀ g' cap' w', Out w' w0.heap.size e size (.slice (some ⟨g', 0, none⟩) (n + m) cap') (n + m) (fun j => if j < n * size then f j else arr.getD (j - n * size) .nilFunc) → w0.grownBy w' none → w.grownBy w' v.ownBlock →
      K (a.put o.dst (.slice (some ⟨g', 0, none⟩) (n + m) cap')) w') :
    if Region.wanted o (yielded ops a.tmps) = true then Oper.wp P o a w K Q else E := by
  have hw : Region.wanted o (yielded ops a.tmps) = true := by simp [Region.wanted, hgd]
  rw [if_pos hw]
  exact wp_append_out w w0 s x t ho e i z size bytes ht hi hz hsize hby hzs hsz v n f hs hv hgr B m c arr te hx hB hl h1 hm h63 hbytes h

end Go.Proofs.YthbcfepbkkbjiaaDoor
