/- Maps of the call's own, keyed by ints: what they hold, as a function of the key. -/
import Derived.Test.YthbcfepbkkbjiaaDoorH
import Derived.MapKept
namespace Go.Proofs.YthbcfepbkkbjiaaDoor
open Go.RowKit

/-- Block b is a map; the key C has the value f C, if it has one. -/
def IMap (w : World) (b : Nat) (f : Int → Option Value) : Prop :=
  ∃ (es : Array MapEntry) (clock : Nat), w.heap[b]? = some (.map es clock) ∧ (∀ e ∈ es.toList, ∃ a, e.key = .int .i64 a) ∧
    (∀ (i j : Nat) (e e' : MapEntry), es.toList[i]? = some e → es.toList[j]? = some e' → e.key = e'.key → i = j) ∧
    ∀ C v, f C = some v ↔ ∃ e ∈ es.toList, e.key = .int .i64 C ∧ e.val = v

theorem IMap.lt {w : World} {b : Nat} {f : Int → Option Value} (h : IMap w b f) : b < w.heap.size := by
  obtain ⟨es, clock, h1, _⟩ := h
  exact (Array.getElem?_eq_some_iff.1 h1).1

theorem IMap.same {w w' : World} {b : Nat} {f : Int → Option Value} (h : IMap w b f) (hb : w'.heap[b]? = w.heap[b]?) : IMap w' b f := by
  obtain ⟨es, clock, h1, h2⟩ := h
  exact ⟨es, clock, by rw [hb]; exact h1, h2⟩

theorem IMap.keep {w w' : World} {b : Nat} {f : Int → Option Value} {row : Option Nat} (h : IMap w b f) (hg : w.grownBy w' row) (hr : some b ≠ row) : IMap w' b f := h.same (hg.block b h.lt hr)

theorem imap_new (w : World) : IMap (w.alloc (.map #[] 0)) w.heap.size (fun _ => none) :=
  ⟨#[], 0, heap_top _ _ _ rfl, fun e he => by simp at he, fun i j e e' h => by simp at h, fun C v => by simp⟩

theorem isKey_int (C : Int) : MapKept.IsKey (.int .i64) (.int .i64 C) := rfl

/-- A look-up. -/
theorem IMap.look {P : Program} {w : World} {b : Nat} {f : Int → Option Value} (h : IMap w b f) {t k e : TypeId} (ht : P.underlying t = some (.map k e)) (hk : P.underlying k = some (.int .i64)) {z : Value} (hz : (zeroValue e).run P w = .ok z w) (C : Int) (c : Bool) :
    (Instr.lookup t (.map (some b)) (.int .i64 C) c).run P w = .ok (if c then .tuple #[(f C).getD z, .bool (f C).isSome] else (f C).getD z) w := by
  obtain ⟨es, clock, h1, h2, h3, h4⟩ := h
  have hkeys : ∀ x ∈ es.toList, MapKept.IsKey (.int .i64) x.key := fun x hx => by
    obtain ⟨a, ha⟩ := h2 x hx
    rw [ha]; exact isKey_int a
  rcases MapKept.findNow_spec (isKey_int C) es.toList 0 hkeys with ⟨a1, a2⟩ | ⟨j, e0, a1, a2, a3⟩
  · have hn : f C = none := by
      cases hf : f C with
      | none => rfl
      | some v =>
        obtain ⟨x, hx, hxk, _⟩ := (h4 C v).1 hf
        exact absurd hxk (a2 x hx)
    rw [hn]
    simp [Instr.lookup, run_underlying ht, MapKept.run_getObj_map h1, MapKept.run_checkKey hk (isKey_int C), Instr.findKey, run_underlying hk, a1, hz, Result.andThen]
  · have hs : f C = some e0.val := (h4 C e0.val).2 ⟨e0, List.mem_of_getElem? a2, a3, rfl⟩
    rw [hs]
    simp [Instr.lookup, run_underlying ht, MapKept.run_getObj_map h1, MapKept.run_checkKey hk (isKey_int C), Instr.findKey, run_underlying hk, a1, Result.andThen]

theorem heap_put (w : World) {b : Nat} (h : b < w.heap.size) (o : Obj) : (w.heap.setIfInBounds b o)[b]? = some o := by simp [h]

/-- A store. -/
theorem IMap.store {P : Program} {w : World} {b : Nat} {f : Int → Option Value} (h : IMap w b f) {t k e : TypeId} (ht : P.underlying t = some (.map k e)) (hk : P.underlying k = some (.int .i64)) (C : Int) (v : Value) :
    ∃ w', (Instr.mapUpdate t (.map (some b)) (.int .i64 C) v).run P w = .ok () w' ∧ IMap w' b (fun D => if D = C then some v else f D) ∧ w.grownBy w' (some b) := by
  obtain ⟨es, clock, h1, h2, h3, h4⟩ := h
  have hlt := (Array.getElem?_eq_some_iff.1 h1).1
  have hkeys : ∀ x ∈ es.toList, MapKept.IsKey (.int .i64) x.key := fun x hx => by
    obtain ⟨a, ha⟩ := h2 x hx
    rw [ha]; exact isKey_int a
  have hgrow : ∀ o, w.grownBy { w with heap := w.heap.setIfInBounds b o } (some b) := fun o =>
    ⟨rfl, rfl, rfl, by simp, fun i _ hr => by simp only [Array.getElem?_setIfInBounds]; rw [if_neg (fun e => hr (by rw [e]))]⟩
  rcases MapKept.findNow_spec (isKey_int C) es.toList 0 hkeys with ⟨a1, a2⟩ | ⟨j, e0, a1, a2, a3⟩
  · refine ⟨{ w with heap := w.heap.setIfInBounds b (.map (es.push { key := .int .i64 C, val := v, born := clock }) (clock + 1)) }, ?_, ?_, hgrow _⟩
    · simp [Instr.mapUpdate, run_underlying ht, MapKept.run_getObj_map h1, MapKept.run_checkKey hk (isKey_int C), Instr.findKey, run_underlying hk, a1, MapKept.run_setObj_map _ h1, Result.andThen]
    · refine ⟨es.push { key := .int .i64 C, val := v, born := clock }, clock + 1, heap_put w hlt _, ?_, ?_, ?_⟩
      · intro x hx
        simp only [Array.toList_push, List.mem_append, List.mem_singleton] at hx
        rcases hx with hx | rfl
        · exact h2 x hx
        · exact ⟨C, rfl⟩
      · intro i j x y hx hy hxy
        simp only [Array.toList_push] at hx hy
        by_cases hi : i < es.toList.length
        · rw [List.getElem?_append_left hi] at hx
          by_cases hj : j < es.toList.length
          · rw [List.getElem?_append_left hj] at hy
            exact h3 i j x y hx hy hxy
          · rw [List.getElem?_append_right (by omega)] at hy
            obtain ⟨q1, q2⟩ := List.getElem?_eq_some_iff.1 hy
            simp at q2
            rw [← q2] at hxy
            exact absurd hxy (a2 x (List.mem_of_getElem? hx))
        · rw [List.getElem?_append_right (by omega)] at hx
          obtain ⟨q1, q2⟩ := List.getElem?_eq_some_iff.1 hx
          by_cases hj : j < es.toList.length
          · rw [List.getElem?_append_left hj] at hy
            simp at q2
            rw [← q2] at hxy
            exact absurd hxy.symm (a2 y (List.mem_of_getElem? hy))
          · rw [List.getElem?_append_right (by omega)] at hy
            obtain ⟨q3, _⟩ := List.getElem?_eq_some_iff.1 hy
            simp only [List.length_cons, List.length_nil] at q1 q3
            omega
      · intro D u
        simp only [Array.toList_push, List.mem_append, List.mem_singleton]
        by_cases hD : D = C
        · subst hD
          rw [if_pos rfl]
          constructor
          · intro hu
            cases hu
            exact ⟨_, Or.inr rfl, rfl, rfl⟩
          · rintro ⟨x, hx | rfl, hk, hv⟩
            · exact absurd hk (a2 x hx)
            · rw [← hv]
        · rw [if_neg hD, h4 D u]
          constructor
          · rintro ⟨x, hx, r⟩
            exact ⟨x, Or.inl hx, r⟩
          · rintro ⟨x, hx | rfl, hk, hv⟩
            · exact ⟨x, hx, hk, hv⟩
            · cases hk
              exact absurd rfl hD
  · have hj : es[j]? = some e0 := by simpa using a2
    have hmod : ∀ i, (es.modify j fun e => { e with key := .int .i64 C, val := v }).toList[i]? = if j = i then (es.toList[i]?).map (fun e => { e with key := .int .i64 C, val := v }) else es.toList[i]? := fun i => by
      simp only [Array.toList_modify, List.getElem?_modify]
      by_cases e : j = i <;> simp [e]
    refine ⟨{ w with heap := w.heap.setIfInBounds b (.map (es.modify j fun e => { e with key := .int .i64 C, val := v }) clock) }, ?_, ?_, hgrow _⟩
    · simp [Instr.mapUpdate, run_underlying ht, MapKept.run_getObj_map h1, MapKept.run_checkKey hk (isKey_int C), MapKept.run_findKey hk a1, hj, a3, MapKept.run_keyThatStays (isKey_int C), MapKept.run_setObj_map _ h1, Result.andThen]
    · refine ⟨es.modify j fun e => { e with key := .int .i64 C, val := v }, clock, heap_put w hlt _, ?_, ?_, ?_⟩
      · intro x hx
        obtain ⟨i, hi⟩ := List.getElem?_of_mem hx
        rw [hmod] at hi
        by_cases e : j = i
        · subst e
          rw [if_pos rfl, a2] at hi
          cases hi
          exact ⟨C, rfl⟩
        · rw [if_neg e] at hi
          exact h2 x (List.mem_of_getElem? hi)
      · intro i l x y hx hy hxy
        rw [hmod] at hx hy
        by_cases ei : j = i
        · by_cases el : j = l
          · omega
          · subst ei
            rw [if_pos rfl, a2] at hx
            rw [if_neg el] at hy
            cases hx
            exact absurd (h3 j l e0 y a2 hy (by rw [a3]; exact hxy)) el
        · rw [if_neg ei] at hx
          by_cases el : j = l
          · subst el
            rw [if_pos rfl, a2] at hy
            cases hy
            exact absurd (h3 i j x e0 hx a2 (by rw [a3]; exact hxy)).symm ei
          · rw [if_neg el] at hy
            exact h3 i l x y hx hy hxy
      · intro D u
        show (if D = C then some v else f D) = some u ↔ _
        by_cases hD : D = C
        · subst hD
          rw [if_pos rfl]
          constructor
          · intro hu
            cases hu
            refine ⟨{ e0 with key := .int .i64 D, val := v }, List.mem_of_getElem? (i := j) ?_, rfl, rfl⟩
            rw [hmod, if_pos rfl, a2]; rfl
          · rintro ⟨x, hx, hkx, hv⟩
            obtain ⟨i, hi⟩ := List.getElem?_of_mem hx
            rw [hmod] at hi
            by_cases e : j = i
            · subst e
              rw [if_pos rfl, a2] at hi
              cases hi
              rw [← hv]
            · rw [if_neg e] at hi
              exact absurd (h3 j i e0 x a2 hi (by rw [a3, hkx])) e
        · rw [if_neg hD, h4 D u]
          constructor
          · rintro ⟨x, hx, hkx, hv⟩
            obtain ⟨i, hi⟩ := List.getElem?_of_mem hx
            have e : j ≠ i := fun e => by
              subst e
              rw [a2] at hi
              cases hi
              rw [a3] at hkx
              cases hkx
              exact hD rfl
            refine ⟨x, List.mem_of_getElem? (i := i) ?_, hkx, hv⟩
            rw [hmod, if_neg e]; exact hi
          · rintro ⟨x, hx, hkx, hv⟩
            obtain ⟨i, hi⟩ := List.getElem?_of_mem hx
            rw [hmod] at hi
            by_cases e : j = i
            · subst e
              rw [if_pos rfl, a2] at hi
              cases hi
              cases hkx
              exact absurd rfl hD
            · rw [if_neg e] at hi
              exact ⟨x, List.mem_of_getElem? hi, hkx, hv⟩

/-- m[C] = v, in a literal and elsewhere -/
theorem wpList_put_imap {P : Program} (w : World) {ops : Array Oper} {rest : List Oper} {o : Oper} {a : Act} {Q : Exit → Act → World → Prop} (hgd : o.guard = none) (m x y : Operand) (t : TypeId)
    (ho : o.op = .insert t m x y ∨ o.op = .mapUpdate t m x y) (k e : TypeId) (ht : P.underlying t = some (.map k e)) (hk : P.underlying k = some (.int .i64)) (b : Nat) (C : Int) (v : Value) (f : Int → Option Value)
    (hm : a.eval m = .map (some b)) (hx : a.eval x = .int .i64 C) (hy : a.eval y = v) (h : IMap w b f)
    (hK : ∀ w', IMap w' b (fun D => if D = C then some v else f D) → w.grownBy w' (some b) → wpList P ops Q rest (a.put o.dst undef) w') : wpList P ops Q (o :: rest) a w := by
  refine wpList_plain hgd fun K hK' => ?_
  obtain ⟨w', hrun, r1, r2⟩ := h.store ht hk C v
  unfold Oper.wp
  rcases ho with ho | ho <;> (simp [execOp, ho, hm, hx, hy, hrun, Result.andThen]; exact hK' _ _ (hK w' r1 r2))

theorem wpList_put_own {P : Program} (w w0 : World) {ops : Array Oper} {rest : List Oper} {o : Oper} {a : Act} {Q : Exit → Act → World → Prop} (hgd : o.guard = none) (m x y : Operand) (t : TypeId)
    (ho : o.op = .insert t m x y) (k e : TypeId) (ht : P.underlying t = some (.map k e)) (hk : P.underlying k = some (.int .i64)) (b : Nat) (C : Int) (kd : IntKind) (V : Int) (f : Int → Option Value)
    (hm : a.eval m = .map (some b)) (hx : a.eval x = .int .i64 C) (hy : a.eval y = .int kd V) (h : IMap w b f ∧ w0.grownBy w none) (hb : w0.heap.size ≤ b)
    (hK : ∀ w', IMap w' b (fun D => if D = C then some (.int kd V) else f D) ∧ w0.grownBy w' none → wpList P ops Q rest (a.put o.dst undef) w') : wpList P ops Q (o :: rest) a w :=
  wpList_put_imap w hgd m x y t (Or.inl ho) k e ht hk b C (.int kd V) f hm hx hy h.1 fun w' r1 r2 => hK w' ⟨r1, grown_new none h.2 r2 hb⟩

end Go.Proofs.YthbcfepbkkbjiaaDoor
