/- errors.Is at a fault that wraps a reason, which wraps the sentinel. -/
import Derived.Test.YthbcfepbkkbjiaaDoorY3
namespace Go.Proofs.YthbcfepbkkbjiaaDoor
open Go.RowKit Go.Extern.Stop Go.Stop Go.Extern
set_option linter.unusedVariables false

theorem Tryd.isTypeOf (v : Value) (w : World) : (ReflectliteType.typeOf #[.iface 139 v]).run Tryd.prog w = .ok (.iface 85 (.agg #[.pointer (some ⟨5, 139, none⟩)])) w := by kernel_rfl
theorem Tryd.isComparable (w : World) : ((ReflectliteType.method fun t => do Rtype.noPackHeld "Comparable" t; Functor.map (fun a => Value.bool a.comparable) (typeInfo t)) #[.agg #[.pointer (some ⟨5, 139, none⟩)]]).run Tryd.prog w = .ok (.bool true) w := by kernel_rfl
theorem Tryd.methodComparable (v : Value) (w : World) : (Go.method 270 85 v "Comparable").run Tryd.prog w = .ok (89, v) w := by kernel_rfl
theorem Tryd.isComp : (Tryd.prog.info? 139).map (·.comparable) = some true := by kernel_rfl
theorem Tryd.isSize : (Tryd.prog.info? 159).map (·.size) = some 1 := by kernel_rfl
theorem Tryd.noIsF (v : Value) (xT : TypeId) (w : World) : (Instr.typeAssert (.iface 36 v) xT 87 true).run Tryd.prog w = .ok (.tuple #[.nilIface, .bool false]) w := run_typeAssert_lacksB Tryd.underlying87 (by kernel_rfl) (by kernel_rfl) v xT w
theorem Tryd.hasUnwrapF (v : Value) (xT : TypeId) (w : World) : (Instr.typeAssert (.iface 36 v) xT 90 true).run Tryd.prog w = .ok (.tuple #[.iface 36 v, .bool true]) w := run_typeAssert_hasB Tryd.underlying90 (by kernel_rfl) v xT w
theorem Tryd.methodUnwrapF (v : Value) (w : World) : (Go.method 270 36 v "Unwrap").run Tryd.prog w = .ok (83, v) w := by kernel_rfl
theorem Tryd.noIsR (v : Value) (xT : TypeId) (w : World) : (Instr.typeAssert (.iface 102 v) xT 87 true).run Tryd.prog w = .ok (.tuple #[.nilIface, .bool false]) w := run_typeAssert_lacksB Tryd.underlying87 (by kernel_rfl) (by kernel_rfl) v xT w
theorem Tryd.hasUnwrapR (v : Value) (xT : TypeId) (w : World) : (Instr.typeAssert (.iface 102 v) xT 90 true).run Tryd.prog w = .ok (.tuple #[.iface 102 v, .bool true]) w := run_typeAssert_hasB Tryd.underlying90 (by kernel_rfl) v xT w
theorem Tryd.methodUnwrapR (v : Value) (w : World) : (Go.method 270 102 v "Unwrap").run Tryd.prog w = .ok (99, v) w := by kernel_rfl

set_option maxHeartbeats 4000000 in
theorem is_hit (F : Nat) (k c : Int) (b : Addr) (w : World) (h : FaultS w F k c (.iface 139 (.pointer (some b)))) :
    Calls Tryd.prog 11 #[.iface 36 (.pointer (some ⟨F, 0, none⟩)), .iface 139 (.pointer (some b))] w fun e w' => e = .returned (.bool true) ∧ w' = w := by
  obtain ⟨R, s, h1, h2⟩ := h
  have c2 : w.cell? ⟨F, 2, none⟩ = some (.iface 102 (.pointer (some ⟨R, 0, none⟩))) := by rw [cell_of_row w F 2 _ _ (0, 0) h1]; rfl
  have d1 : w.cell? ⟨R, 1, none⟩ = some (.iface 139 (.pointer (some b))) := by rw [cell_of_row w R 1 _ _ (0, 0) h2]; rfl
  obtain ⟨i, hi, hcmp⟩ := Option.map_eq_some_iff.1 Tryd.isComp
  obtain ⟨j, hj, hjs⟩ := Option.map_eq_some_iff.1 Tryd.isSize
  have h20 := @run_callFunc_extern Tryd.prog 20 _ ReflectliteType.typeOf Tryd.func20 (by kernel_rfl) (by kernel_rfl) (by kernel_rfl) (by kernel_rfl)
  have h32 := @run_callFunc_extern Tryd.prog 89 _ (ReflectliteType.method fun t => do Rtype.noPackHeld "Comparable" t; pure (.bool (← typeInfo t).comparable)) Tryd.func89 (by kernel_rfl) (by kernel_rfl) (by kernel_rfl) (by kernel_rfl)
  have tT := Tryd.isTypeOf
  have cT := Tryd.isComparable
  have mR := Tryd.methodComparable
  have n1 := Tryd.noIsF
  have u1 := Tryd.hasUnwrapF
  have m1 := Tryd.methodUnwrapF
  have n2 := Tryd.noIsR
  have u2 := Tryd.hasUnwrapR
  have m2 := Tryd.methodUnwrapR
  have heq := run_eql_iface_ptr_same (P := Tryd.prog) w b Tryd.underlying34 Tryd.underlying139 hi hcmp hj
  have hty := run_eql_iface_types (P := Tryd.prog) 36 139 (.pointer (some ⟨F, 0, none⟩)) (.pointer (some b)) Tryd.underlying34 (by decide) w
  have hty2 := run_eql_iface_types (P := Tryd.prog) 102 139 (.pointer (some ⟨R, 0, none⟩)) (.pointer (some b)) Tryd.underlying34 (by decide) w
  go_enter Tryd.func11, Tryd.ntmps11
  go_wp2
  refine wp_loop_rounds 3 ?_
  rw [rounds_succ]
  go_wp2
  rw [rounds_succ]
  go_wp2
  rw [rounds_succ]
  go_wp2
  go_ret
  exact ⟨rfl, rfl⟩

end Go.Proofs.YthbcfepbkkbjiaaDoor
