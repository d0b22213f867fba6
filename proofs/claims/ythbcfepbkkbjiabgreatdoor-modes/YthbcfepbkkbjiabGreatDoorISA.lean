import Derived.Stop.Asserts
import Derived.Test.YthbcfepbkkbjiabGreatDoorI7
namespace Go.Proofs.YthbcfepbkkbjiabGreatDoor
open Go.RowKit Go.Extern.Stop Go.Stop Go.Extern
set_option linter.unusedVariables false
theorem Tryz.isTypeOf (v : Value) (w : World) : (ReflectliteType.typeOf #[.iface 220 v]).run Tryz.prog w = .ok (.iface 139 (.agg #[.pointer (some ⟨9, 220, none⟩)])) w := by kernel_rfl
theorem Tryz.isComparable (w : World) : ((ReflectliteType.method fun t => do Rtype.noPackHeld "Comparable" t; Functor.map (fun a => Value.bool a.comparable) (typeInfo t)) #[.agg #[.pointer (some ⟨9, 220, none⟩)]]).run Tryz.prog w = .ok (.bool true) w := by kernel_rfl
theorem Tryz.methodComparable (v : Value) (w : World) : (Go.method 351 139 v "Comparable").run Tryz.prog w = .ok (153, v) w := by kernel_rfl
theorem Tryz.isComp : (Tryz.prog.info? 220).map (·.comparable) = some true := by kernel_rfl
theorem Tryz.isSize : (Tryz.prog.info? 240).map (·.size) = some 1 := by kernel_rfl
theorem Tryz.noIsE (v : Value) (xT : TypeId) (w : World) : (Instr.typeAssert (.iface 220 v) xT 141 true).run Tryz.prog w = .ok (.tuple #[.nilIface, .bool false]) w := run_typeAssert_lacksB Tryz.underlying141 (by kernel_rfl) (by kernel_rfl) v xT w
theorem Tryz.noUnwrapE (v : Value) (xT : TypeId) (w : World) : (Instr.typeAssert (.iface 220 v) xT 144 true).run Tryz.prog w = .ok (.tuple #[.nilIface, .bool false]) w := run_typeAssert_lacksB Tryz.underlying144 (by kernel_rfl) (by kernel_rfl) v xT w
theorem Tryz.noUnwrapsE (v : Value) (xT : TypeId) (w : World) : (Instr.typeAssert (.iface 220 v) xT 145 true).run Tryz.prog w = .ok (.tuple #[.nilIface, .bool false]) w := run_typeAssert_lacksB Tryz.underlying145 (by kernel_rfl) (by kernel_rfl) v xT w
set_option maxHeartbeats 4000000 in
theorem is_same (b : Addr) (w : World) :
    Calls Tryz.prog 29 #[.iface 220 (.pointer (some b)), .iface 220 (.pointer (some b))] w fun e w' => e = .returned (.bool true) ∧ w' = w := by
  obtain ⟨i, hi, hcmp⟩ := Option.map_eq_some_iff.1 Tryz.isComp
  obtain ⟨j, hj, hjs⟩ := Option.map_eq_some_iff.1 Tryz.isSize
  have h20 := @run_callFunc_extern Tryz.prog 44 _ ReflectliteType.typeOf Tryz.func44 (by kernel_rfl) (by kernel_rfl) (by kernel_rfl) (by kernel_rfl)
  have h32 := @run_callFunc_extern Tryz.prog 153 _ (ReflectliteType.method fun t => do Rtype.noPackHeld "Comparable" t; pure (.bool (← typeInfo t).comparable)) Tryz.func153 (by kernel_rfl) (by kernel_rfl) (by kernel_rfl) (by kernel_rfl)
  have tT := Tryz.isTypeOf
  have cT := Tryz.isComparable
  have mR := Tryz.methodComparable
  have heq := run_eql_iface_ptr_same (P := Tryz.prog) w b Tryz.underlying58 Tryz.underlying220 hi hcmp hj
  go_enter Tryz.func29, Tryz.ntmps29
  go_wp2
  refine wp_loop_rounds 1 ?_
  rw [rounds_succ]
  go_wp2
  go_ret
  exact ⟨rfl, rfl⟩
set_option maxHeartbeats 4000000 in
theorem is_other (a b : Addr) (w : World) {ca cb : Array Value} {ta tb : TypeId} (hne : a ≠ b) (ha : w.heap[a.block]? = some (.cells ca ta (0, 0))) (hb : w.heap[b.block]? = some (.cells cb tb (0, 0))) :
    Calls Tryz.prog 29 #[.iface 220 (.pointer (some a)), .iface 220 (.pointer (some b))] w fun e w' => e = .returned (.bool false) ∧ w' = w := by
  obtain ⟨i, hi, hcmp⟩ := Option.map_eq_some_iff.1 Tryz.isComp
  obtain ⟨j, hj, hjs⟩ := Option.map_eq_some_iff.1 Tryz.isSize
  have h20 := @run_callFunc_extern Tryz.prog 44 _ ReflectliteType.typeOf Tryz.func44 (by kernel_rfl) (by kernel_rfl) (by kernel_rfl) (by kernel_rfl)
  have h32 := @run_callFunc_extern Tryz.prog 153 _ (ReflectliteType.method fun t => do Rtype.noPackHeld "Comparable" t; pure (.bool (← typeInfo t).comparable)) Tryz.func153 (by kernel_rfl) (by kernel_rfl) (by kernel_rfl) (by kernel_rfl)
  have tT := Tryz.isTypeOf
  have cT := Tryz.isComparable
  have mR := Tryz.methodComparable
  have n1 := Tryz.noIsE
  have u1 := Tryz.noUnwrapE
  have u2 := Tryz.noUnwrapsE
  have heq := run_eql_iface_ptr_other (P := Tryz.prog) w Tryz.underlying58 Tryz.underlying220 hi hcmp hj (by omega) hne ha hb
  clear ha hb hne
  go_enter Tryz.func29, Tryz.ntmps29
  go_wp2
  refine wp_loop_rounds 1 ?_
  rw [rounds_succ]
  go_wp2
  go_ret
  exact ⟨rfl, rfl⟩
set_option maxHeartbeats 4000000 in
theorem is_nil (b : Addr) (w : World) :
    Calls Tryz.prog 29 #[.nilIface, .iface 220 (.pointer (some b))] w fun e w' => e = .returned (.bool false) ∧ w' = w := by
  have heq := run_eql_iface_nil_left (P := Tryz.prog) w 220 (.pointer (some b)) Tryz.underlying58
  go_enter Tryz.func29, Tryz.ntmps29
  go_wp2
  go_ret
  exact ⟨rfl, rfl⟩
end Go.Proofs.YthbcfepbkkbjiabGreatDoor
namespace Go.Proofs.YthbcfepbkkbjiabGreatDoor
open Go.RowKit
set_option linter.unusedVariables false
def Firm (w : World) (a : Addr) : Prop := ∃ (c : Array Value) (t : TypeId), w.heap[a.block]? = some (.cells c t (0, 0))
structure Sent (w : World) (a b c d : Addr) : Prop where
  ga : w.cell? ⟨0, 0, none⟩ = some (.iface 220 (.pointer (some a)))
  gb : w.cell? ⟨1, 0, none⟩ = some (.iface 220 (.pointer (some b)))
  gc : w.cell? ⟨2, 0, none⟩ = some (.iface 220 (.pointer (some c)))
  gd : w.cell? ⟨3, 0, none⟩ = some (.iface 220 (.pointer (some d)))
  fa : Firm w a
  fb : Firm w b
  fc : Firm w c
  fd : Firm w d
  ab : b ≠ a
  ac : c ≠ a
  ad : d ≠ a
  bc : c ≠ b
  bd : d ≠ b
  cd : d ≠ c
theorem Firm.keep {w w' : World} {a : Addr} (h : Firm w a) (hg : w.grownBy w' none) : Firm w' a := by
  obtain ⟨c, t, h⟩ := h
  have hl : a.block < w.heap.size := (Array.getElem?_eq_some_iff.1 h).1
  exact ⟨c, t, by rw [hg.block a.block hl (by simp)]; exact h⟩
theorem Sent.keep {w w' : World} {a b c d : Addr} (h : Sent w a b c d) (hg : w.grownBy w' none) : Sent w' a b c d :=
  ⟨hg.cell h.ga (by simp), hg.cell h.gb (by simp), hg.cell h.gc (by simp), hg.cell h.gd (by simp), h.fa.keep hg, h.fb.keep hg, h.fc.keep hg, h.fd.keep hg, h.ab, h.ac, h.ad, h.bc, h.bd, h.cd⟩
theorem firm_other {w : World} {a b : Addr} (hne : a ≠ b) (ha : Firm w a) (hb : Firm w b) : Calls Tryz.prog 29 #[.iface 220 (.pointer (some a)), .iface 220 (.pointer (some b))] w fun e w' => e = .returned (.bool false) ∧ w' = w := by
  obtain ⟨_, _, ha⟩ := ha
  obtain ⟨_, _, hb⟩ := hb
  exact is_other a b w hne ha hb
set_option maxRecDepth 100000 in
theorem errno_nil (a b c d : Addr) (w : World) (h : Sent w a b c d) : Calls Tryz.prog 20 #[.nilIface] w fun e w' => e = .returned (.int .i64 0) ∧ w' = w := by
  obtain ⟨ga, gb, gc, gd, _, _, _, _, _, _, _, _, _, _⟩ := h
  go_enter Tryz.func20, Tryz.ntmps20
  go_wp2_with (go_at_call 29; refine (is_nil _ _).mono ?_; rintro e w1 ⟨rfl, rfl⟩)
  go_ret
  exact ⟨rfl, rfl⟩
set_option maxRecDepth 100000 in
theorem errno_a (a b c d : Addr) (w : World) (h : Sent w a b c d) : Calls Tryz.prog 20 #[.iface 220 (.pointer (some a))] w fun e w' => e = .returned (.int .i64 10) ∧ w' = w := by
  obtain ⟨ga, gb, gc, gd, _, _, _, _, _, _, _, _, _, _⟩ := h
  go_enter Tryz.func20, Tryz.ntmps20
  go_wp2_with (go_at_call 29; refine (is_same _ _).mono ?_; rintro e w1 ⟨rfl, rfl⟩)
  go_ret
  exact ⟨rfl, rfl⟩
set_option maxRecDepth 100000 in
theorem errno_b (a b c d : Addr) (w : World) (h : Sent w a b c d) : Calls Tryz.prog 20 #[.iface 220 (.pointer (some b))] w fun e w' => e = .returned (.int .i64 10) ∧ w' = w := by
  have H1 : Hid (Calls Tryz.prog 29 #[.iface 220 (.pointer (some b)), .iface 220 (.pointer (some a))] w fun e w' => e = .returned (.bool false) ∧ w' = w) := firm_other h.ab h.fb h.fa
  obtain ⟨ga, gb, gc, gd, _, _, _, _, _, _, _, _, _, _⟩ := h
  go_enter Tryz.func20, Tryz.ntmps20
  go_wp2_with (go_at_call 29; refine H1.out.mono ?_; rintro e w1 ⟨rfl, rfl⟩; go_wp2_with (go_at_call 29; refine (is_same _ _).mono ?_; rintro e w1 ⟨rfl, rfl⟩))
  go_ret
  exact ⟨rfl, rfl⟩
set_option maxRecDepth 100000 in
theorem errno_d (a b c d : Addr) (w : World) (h : Sent w a b c d) : Calls Tryz.prog 20 #[.iface 220 (.pointer (some d))] w fun e w' => e = .returned (.int .i64 12) ∧ w' = w := by
  have H1 : Hid (Calls Tryz.prog 29 #[.iface 220 (.pointer (some d)), .iface 220 (.pointer (some a))] w fun e w' => e = .returned (.bool false) ∧ w' = w) := firm_other h.ad h.fd h.fa
  have H2 : Hid (Calls Tryz.prog 29 #[.iface 220 (.pointer (some d)), .iface 220 (.pointer (some b))] w fun e w' => e = .returned (.bool false) ∧ w' = w) := firm_other h.bd h.fd h.fb
  have H3 : Hid (Calls Tryz.prog 29 #[.iface 220 (.pointer (some d)), .iface 220 (.pointer (some c))] w fun e w' => e = .returned (.bool false) ∧ w' = w) := firm_other h.cd h.fd h.fc
  obtain ⟨ga, gb, gc, gd, _, _, _, _, _, _, _, _, _, _⟩ := h
  go_enter Tryz.func20, Tryz.ntmps20
  go_wp2_with (go_at_call 29; refine H1.out.mono ?_; rintro e w1 ⟨rfl, rfl⟩; go_wp2_with (go_at_call 29; refine H2.out.mono ?_; rintro e w1 ⟨rfl, rfl⟩; go_wp2_with (go_at_call 29; refine H3.out.mono ?_; rintro e w1 ⟨rfl, rfl⟩; go_wp2_with (go_at_call 29; refine (is_same _ _).mono ?_; rintro e w1 ⟨rfl, rfl⟩))))
  go_ret
  exact ⟨rfl, rfl⟩
set_option maxRecDepth 100000 in
theorem find_no (B : Nat) (s : Int) (a b c d : Addr) (w : World) (h : Sent w a b c d) (hs : s < 0 ∨ 8 ≤ s) : Calls Tryz.prog 19 #[.pointer (some ⟨B, 0, none⟩), .int .i64 s] w fun e w' => e = .returned (.tuple #[.pointer none, .iface 220 (.pointer (some a))]) ∧ w.grownBy w' none := by
  obtain ⟨ga, gb, gc, gd, _, _, _, _, _, _, _, _, _, _⟩ := h
  rcases hs with h | h
  · go_enter Tryz.func19, Tryz.ntmps19
    go_wp2
    go_quiet (fail)
    go_wp2
    go_ret2
    exact ⟨rfl, grown_drewN _ _ _⟩
  · have h0 : ¬ s < 0 := by omega
    go_enter Tryz.func19, Tryz.ntmps19
    go_wp2
    go_quiet (fail)
    go_wp2
    go_ret2
    exact ⟨rfl, grown_drewN _ _ _⟩
set_option maxRecDepth 100000 in
theorem find_ok (B s : Nat) (w : World) (hs : s < 8) : Calls Tryz.prog 19 #[.pointer (some ⟨B, 0, none⟩), .int .i64 s] w fun e w' => e = .returned (.tuple #[.pointer (some ⟨B, s * 3, none⟩), .nilIface]) ∧ w' = w := by
  have h0 : ¬ (s : Int) < 0 := by omega
  have h1 : ¬ (8 : Int) ≤ (s : Int) := by omega
  go_enter Tryz.func19, Tryz.ntmps19
  go_wp2
  go_ret2
  exact ⟨rfl, rfl⟩
end Go.Proofs.YthbcfepbkkbjiabGreatDoor
