/- The walks of what package check says of a fault. -/
import Derived.Test.YthbcfepbkkbjiaaDoorZ4
import Derived.Test.YthbcfepbkkbjiaaDoorS
import Derived.Lib.AppendIntMem
import Derived.Lib.ItoaLen
namespace Go.Proofs.YthbcfepbkkbjiaaDoor
open Go.RowKit
set_option linter.unusedVariables false

/-- the library's table of powers of ten lies as its text lays it -/
def Tab (w : World) : Prop := Lib.TabIs Tryd.prog w "internal/strconv.uint64pow10" .u64 Lib.pow10Tab

theorem var_keep {P : Program} {w w' : World} {n : String} {cs : Array Value} (hg : w.grownBy w' none) (h : w.var? P n = some cs) : w'.var? P n = some cs := by
  unfold World.var? at h ⊢
  cases hx : P.globalNamed n with
  | none => rw [hx] at h; cases h
  | some g =>
    rw [hx] at h
    simp only [Option.bind_some] at h ⊢
    have hlt : g < w.heap.size := by
      cases e : w.heap[g]? with
      | none => rw [e] at h; cases h
      | some o => exact (Array.getElem?_eq_some_iff.1 e).1
    rw [hg.block g hlt (by simp)]
    exact h

theorem Tab.keep {w w' : World} (h : Tab w) (hg : w.grownBy w' none) : Tab w' := var_keep hg h

theorem itoa_any (n : Nat) (w : World) (hn : n ≤ 1000000) (h : Tab w) :
    Calls Tryd.prog 41 #[.int .i64 n] w fun e w' => (∃ s, e = .returned (.string s) ∧ s.size ≤ 21) ∧ w.grownBy w' none := by
  refine (Any.strconv_Itoa laysItoa (n : Int) (by omega) (by omega) w h).mono ?_
  rintro e w' ⟨rfl, k, os, rfl⟩
  exact ⟨⟨_, rfl, by simpa [ByteArray.size] using Lib.itoa_length_le (n : Int) (by omega) (by omega)⟩, below_grown (Lib.below_grow _ w (Nat.le_refl _) k os)⟩

theorem describe_any (c : Int) (w : World) : Calls Tryd.prog 40 #[.int .i64 c] w fun e w' => (∃ s, e = .returned (.string s) ∧ s.size ≤ 100) ∧ w' = w := by
  go_enter Tryd.func40, Tryd.ntmps40
  go_wp2
  all_goals go_ret
  all_goals exact ⟨⟨_, rfl, by decide⟩, rfl⟩

/-- A fault: its place, its code; what it wraps. -/
def FaultS (w : World) (F : Nat) (at_ c : Int) (bad : Value) : Prop :=
  ∃ (R : Nat) (s : ByteArray), w.heap[F]? = some (.cells #[.int .i64 at_, .int .i64 c, .iface 102 (.pointer (some ⟨R, 0, none⟩))] 41 (0, 0)) ∧
    w.heap[R]? = some (.cells #[.string s, bad] 104 (0, 0))

theorem FaultS.keep {w w' : World} {F : Nat} {at_ c : Int} {bad : Value} (h : FaultS w F at_ c bad) (hg : w.grownBy w' none) : FaultS w' F at_ c bad := by
  obtain ⟨R, s, h1, h2⟩ := h
  exact ⟨R, s, by rw [hg.block F (Array.getElem?_eq_some_iff.1 h1).1 (by simp)]; exact h1, by rw [hg.block R (Array.getElem?_eq_some_iff.1 h2).1 (by simp)]; exact h2⟩

theorem two_new (w : World) (s : ByteArray) (at_ c : Int) (bad : Value) :
    FaultS ((w.alloc (.cells #[.string s, bad] 104)).alloc (.cells #[.int .i64 at_, .int .i64 c, .iface 102 (.pointer (some ⟨w.heap.size, 0, none⟩))] 41)) (w.heap.size + 1) at_ c bad :=
  ⟨w.heap.size, s, heap_top _ _ _ (by simp), by
    have := (World.grownBy_alloc (w.alloc (.cells #[.string s, bad] 104)) (.cells #[.int .i64 at_, .int .i64 c, .iface 102 (.pointer (some ⟨w.heap.size, 0, none⟩))] 41) none).block w.heap.size (by simp) (by simp)
    rw [this]; exact heap_top _ _ _ rfl⟩

set_option maxRecDepth 100000 in
set_option maxHeartbeats 1000000 in
theorem newFault_any (c : Int) (n : Nat) (tb : TypeId) (pb : Value) (w : World) (hn : n ≤ 1000000) (h : Tab w) :
    Calls Tryd.prog 32 #[.int .i64 c, .int .i64 n, .iface tb pb] w fun e w' => ∃ F, e = .returned (.iface 36 (.pointer (some ⟨F, 0, none⟩))) ∧ FaultS w' F n c (.iface tb pb) ∧ w.heap.size ≤ F ∧ w.grownBy w' none := by
  by_cases hc : c = 1
  · subst hc
    go_enter Tryd.func32, Tryd.ntmps32
    go_wp2_with (first | (go_at_call 40; refine (describe_any _ _).mono ?_; rintro e w1 ⟨⟨s, rfl, hs⟩, rfl⟩))
    go_ret
    exact ⟨_, rfl, two_new _ _ _ _ _, by simp, grown_alloc (grown_alloc (grown_refl _ _) _) _⟩
  · have t1 : (c == 1) = false := by simpa using hc
    have t0 : (c != 1) = true := by simpa using hc
    go_enter Tryd.func32, Tryd.ntmps32
    go_wp2_with (first | (go_at_call 40; refine (describe_any _ _).mono ?_; rintro e w1 ⟨⟨s, rfl, hs⟩, rfl⟩) | (go_at_call 41; refine (itoa_any n _ hn h).mono ?_; rintro e w2 ⟨⟨s2, rfl, hs2⟩, hg2⟩; have t2 : ¬ 9223372036854775807 < 16 + s2.size := (by omega); have t3 : ¬ 9223372036854775807 < s.size + (16 + s2.size) := (by omega)))
    go_ret
    exact ⟨_, rfl, two_new _ _ _ _ _, by have := hg2.size; omega, grown_alloc (grown_alloc hg2 _) _⟩

theorem fault_any (R B n cap MB k : Nat) (c : Int) (tb : TypeId) (pb : Value) (q : Nat → Int) (w : World) (hk : k ≤ 1000000) (h : RowS w R B n cap MB (.iface tb pb) q) (ht : Tab w) :
    Calls Tryd.prog 43 #[.pointer (some ⟨R, 0, none⟩), .int .i64 c, .int .i64 k] w fun e w' => ∃ F, e = .returned (.iface 36 (.pointer (some ⟨F, 0, none⟩))) ∧ FaultS w' F k c (.iface tb pb) ∧ w.heap.size ≤ F ∧ w.grownBy w' none := by
  obtain ⟨_, _, r2⟩ := h.cells
  clear h
  go_enter Tryd.func43, Tryd.ntmps43
  go_wp2_with (first | (go_at_call 32; refine (newFault_any c k tb pb _ hk ht).mono ?_; rintro e w1 ⟨F, rfl, hF, hlt, hg⟩))
  go_ret
  exact ⟨F, rfl, hF, hlt, hg⟩

/-- An error that is nil, or a fault. -/
def ErrS (w w' : World) (e : Ending) (nil : Prop) (P : Nat → Int → Prop) (bad : Value) : Prop :=
  (nil ∧ e = .returned .nilIface) ∨ ∃ F k c, P k c ∧ e = .returned (.iface 36 (.pointer (some ⟨F, 0, none⟩))) ∧ FaultS w' F k c bad ∧ w.heap.size ≤ F

theorem last_succ (R B m cap MB : Nat) (bad : Value) (q : Nat → Int) (w : World) (hn : m + 1 ≤ 1000000) (h : RowS w R B (m + 1) cap MB bad q) :
    Calls Tryd.prog 45 #[.pointer (some ⟨R, 0, none⟩)] w fun e w' => e = .returned (.int .i64 (m : Int)) ∧ w' = w := by
  refine (last_any R B (m + 1) cap MB bad q w (by omega) hn h).mono ?_
  rintro e w' ⟨rfl, rfl⟩
  exact ⟨ret_int (by omega), rfl⟩

set_option maxRecDepth 100000 in
set_option maxHeartbeats 1000000 in
theorem checkEnd_any (R B n cap MB : Nat) (tb : TypeId) (pb : Value) (q : Nat → Int) (w : World) (hn1 : 1 ≤ n) (hn : n ≤ 1000000) (h : RowS w R B n cap MB (.iface tb pb) q) (ht : Tab w) :
    Calls Tryd.prog 35 #[.pointer (some ⟨R, 0, none⟩)] w fun e w' => ErrS w w' e ((kd (q (4 * (n - 1)))).kind = 12) (fun k c => (kd (q (4 * (n - 1)))).kind ≠ 12 ∧ k = n - 1 ∧ c = 7) (.iface tb pb) ∧ w.grownBy w' none := by
  obtain ⟨m, rfl⟩ : ∃ m, n = m + 1 := ⟨n - 1, by omega⟩
  rw [Nat.add_sub_cancel]
  have a8 := (cls_kind (q (4 * m))).1
  by_cases hk : (kd (q (4 * m))).kind = 12
  · have t9 : (((kd (q (4 * m))).cls : Int) != 11) = false := by simp; have := a8.2 hk; omega
    have t8 : ((kd (q (4 * m))).cls : Int) = 11 := by have := a8.2 hk; omega
    have hk' : Hid ((kd (q (4 * m))).kind = 12) := hk
    clear hk a8
    go_enter Tryd.func35, Tryd.ntmps35
    go_wp2_with (first | (go_at_call 45; refine (last_succ R B m cap MB _ q _ hn h).mono ?_; rintro e w1 ⟨rfl, rfl⟩) | (go_at_call 44; refine (pkind_any R B (m + 1) cap MB m _ q _ (by omega) hn h).mono ?_; rintro e w1 ⟨rfl, hg1⟩))
    go_ret
    exact ⟨Or.inl ⟨hk'.out, rfl⟩, hg1⟩
  · have t9 : (((kd (q (4 * m))).cls : Int) != 11) = true := by simp; intro e; exact hk (a8.1 (by omega))
    have t8 : ¬ ((kd (q (4 * m))).cls : Int) = 11 := fun e => hk (a8.1 (by omega))
    have hk' : Hid (¬ (kd (q (4 * m))).kind = 12) := hk
    clear hk a8
    go_enter Tryd.func35, Tryd.ntmps35
    go_wp2_with (first | (go_at_call 44; refine (pkind_any R B (m + 1) cap MB m _ q _ (by omega) hn h).mono ?_; rintro e w1 ⟨rfl, hg1⟩; have h := h.keep hg1; have ht := ht.keep hg1) | (go_at_call 45; refine (last_succ R B m cap MB _ q _ hn h).mono ?_; rintro e w1 ⟨rfl, rfl⟩) | (go_at_call 43; refine (fault_any R B (m + 1) cap MB m 7 tb pb q _ (by omega) h ht).mono ?_; rintro e w3 ⟨F, rfl, hF, hlt, hg3⟩))
    go_ret
    exact ⟨Or.inr ⟨F, m, 7, ⟨hk'.out, rfl, rfl⟩, rfl, hF, by have := hg1.size; omega⟩, grown_trans hg1 hg3⟩

end Go.Proofs.YthbcfepbkkbjiaaDoor
