import Derived.Stop.Asserts
import Derived.Test.YthbcfepbkkbjiaaGreatDoorI7
set_option linter.unusedVariables false
set_option maxRecDepth 100000
namespace Go.Proofs.YthbcfepbkkbjiaaGreatDoor
open Go.RowKit Go.Extern.Stop Go.Stop Go.Extern
theorem Tryz.isTypeOf (v:Value) (w:World):(ReflectliteType.typeOf #[.iface 279 v]).run Tryz.prog w=.ok (.iface 214 (.agg #[.pointer (some ⟨9,279,none⟩)])) w:=by kernel_rfl
theorem Tryz.isComparable (w : World) : ((ReflectliteType.method fun t => do Rtype.noPackHeld "Comparable" t; Functor.map (fun a => Value.bool a.comparable) (typeInfo t)) #[.agg #[.pointer (some ⟨9, 279, none⟩)]]).run Tryz.prog w = .ok (.bool true) w := by kernel_rfl
theorem Tryz.methodComparable (v : Value) (w : World) : (Go.method 410 214 v "Comparable").run Tryz.prog w = .ok (210, v) w := by kernel_rfl
theorem Tryz.isComp:(Tryz.prog.info? 279).map (·.comparable)=some true:=by kernel_rfl
theorem Tryz.isSize:(Tryz.prog.info? 299).map (·.size)=some 1:=by kernel_rfl
theorem Tryz.noIsE (v:Value) (xT:TypeId) (w:World):(Instr.typeAssert (.iface 279 v) xT 259 true).run Tryz.prog w=.ok (.tuple #[.nilIface,.bool false]) w:=run_typeAssert_lacksB Tryz.underlying259 (by kernel_rfl) (by kernel_rfl) v xT w
theorem Tryz.noUnwrapE (v:Value) (xT:TypeId) (w:World):(Instr.typeAssert (.iface 279 v) xT 222 true).run Tryz.prog w=.ok (.tuple #[.nilIface,.bool false]) w:=run_typeAssert_lacksB Tryz.underlying222 (by kernel_rfl) (by kernel_rfl) v xT w
theorem Tryz.noUnwrapsE (v:Value) (xT:TypeId) (w:World):(Instr.typeAssert (.iface 279 v) xT 223 true).run Tryz.prog w=.ok (.tuple #[.nilIface,.bool false]) w:=run_typeAssert_lacksB Tryz.underlying223 (by kernel_rfl) (by kernel_rfl) v xT w
set_option maxHeartbeats 4000000 in
theorem is_same (b:Addr) (w:World) :
  Calls Tryz.prog 119 #[.iface 279 (.pointer (some b)),.iface 279 (.pointer (some b))] w fun e w'=>e=.returned (.bool true)∧w'=w:=by
 obtain ⟨i,hi,hcmp⟩:=Option.map_eq_some_iff.1 Tryz.isComp
 obtain ⟨j,hj,hjs⟩:=Option.map_eq_some_iff.1 Tryz.isSize
 have h20:=@run_callFunc_extern Tryz.prog 133 _ ReflectliteType.typeOf Tryz.func133 (by kernel_rfl) (by kernel_rfl) (by kernel_rfl) (by kernel_rfl)
 have h32 := @run_callFunc_extern Tryz.prog 210 _ (ReflectliteType.method fun t => do Rtype.noPackHeld "Comparable" t; pure (.bool (← typeInfo t).comparable)) Tryz.func210 (by kernel_rfl) (by kernel_rfl) (by kernel_rfl) (by kernel_rfl)
 have tT:=Tryz.isTypeOf
 have cT:=Tryz.isComparable
 have mR:=Tryz.methodComparable
 have heq:=run_eql_iface_ptr_same (P:=Tryz.prog) w b Tryz.underlying117 Tryz.underlying279 hi hcmp hj
 go_enter Tryz.func119,Tryz.ntmps119
 go_wp2
 refine wp_loop_rounds 1 ?_
 rw [rounds_succ]
 go_wp2
 go_ret
 exact ⟨rfl,rfl⟩
set_option maxHeartbeats 4000000 in
theorem is_other (a b:Addr) (w:World) {ca cb:Array Value} {ta tb:TypeId} (hne:a≠b) (ha:w.heap[a.block]?=some (.cells ca ta (0,0))) (hb:w.heap[b.block]?=some (.cells cb tb (0,0))) :
  Calls Tryz.prog 119 #[.iface 279 (.pointer (some a)),.iface 279 (.pointer (some b))] w fun e w'=>e=.returned (.bool false)∧w'=w:=by
 obtain ⟨i,hi,hcmp⟩:=Option.map_eq_some_iff.1 Tryz.isComp
 obtain ⟨j,hj,hjs⟩:=Option.map_eq_some_iff.1 Tryz.isSize
 have h20:=@run_callFunc_extern Tryz.prog 133 _ ReflectliteType.typeOf Tryz.func133 (by kernel_rfl) (by kernel_rfl) (by kernel_rfl) (by kernel_rfl)
 have h32 := @run_callFunc_extern Tryz.prog 210 _ (ReflectliteType.method fun t => do Rtype.noPackHeld "Comparable" t; pure (.bool (← typeInfo t).comparable)) Tryz.func210 (by kernel_rfl) (by kernel_rfl) (by kernel_rfl) (by kernel_rfl)
 have tT:=Tryz.isTypeOf
 have cT:=Tryz.isComparable
 have mR:=Tryz.methodComparable
 have n1:=Tryz.noIsE
 have u1:=Tryz.noUnwrapE
 have u2:=Tryz.noUnwrapsE
 have heq:=run_eql_iface_ptr_other (P:=Tryz.prog) w Tryz.underlying117 Tryz.underlying279 hi hcmp hj (by omega) hne ha hb
 clear ha hb hne
 go_enter Tryz.func119,Tryz.ntmps119
 go_wp2
 refine wp_loop_rounds 1 ?_
 rw [rounds_succ]
 go_wp2
 go_ret
 exact ⟨rfl,rfl⟩
set_option maxHeartbeats 4000000 in
theorem is_nil (b:Addr) (w:World) :
  Calls Tryz.prog 119 #[.nilIface,.iface 279 (.pointer (some b))] w fun e w'=>e=.returned (.bool false)∧w'=w:=by
 have heq:=run_eql_iface_nil_left (P:=Tryz.prog) w 279 (.pointer (some b)) Tryz.underlying117
 go_enter Tryz.func119,Tryz.ntmps119
 go_wp2
 go_ret
 exact ⟨rfl,rfl⟩
end Go.Proofs.YthbcfepbkkbjiaaGreatDoor
namespace Go.Proofs.YthbcfepbkkbjiaaGreatDoor
open Go.RowKit
def es (a:Addr):Value:=.iface 279 (.pointer (some a))
def Firm (w:World) (a:Addr):Prop:=∃ (c:Array Value) (t:TypeId),w.heap[a.block]?=some (.cells c t (0,0))
structure Sent (w:World) (a b c d:Addr):Prop where
 ga:w.cell? ⟨2,0,none⟩=some (.iface 279 (.pointer (some a)))
 gb:w.cell? ⟨3,0,none⟩=some (.iface 279 (.pointer (some b)))
 gc:w.cell? ⟨4,0,none⟩=some (.iface 279 (.pointer (some c)))
 gd:w.cell? ⟨5,0,none⟩=some (.iface 279 (.pointer (some d)))
 fa:Firm w a
 fb:Firm w b
 fc:Firm w c
 fd:Firm w d
 ab:b≠a
 ac:c≠a
 ad:d≠a
 bc:c≠b
 bd:d≠b
 cd:d≠c
theorem Firm.keep {w w':World} {a:Addr} (h:Firm w a) (hg:w.grownBy w' none):Firm w' a:=by
 obtain ⟨c,t,h⟩:=h
 have hl:a.block<w.heap.size:=(Array.getElem?_eq_some_iff.1 h).1
 exact ⟨c,t,by rw [hg.block a.block hl (by simp)];exact h⟩
theorem Sent.keep {w w':World} {a b c d:Addr} (h:Sent w a b c d) (hg:w.grownBy w' none):Sent w' a b c d :=
 ⟨hg.cell h.ga (by simp),hg.cell h.gb (by simp),hg.cell h.gc (by simp),hg.cell h.gd (by simp),h.fa.keep hg,h.fb.keep hg,h.fc.keep hg,h.fd.keep hg,h.ab,h.ac,h.ad,h.bc,h.bd,h.cd⟩
theorem firm_other {w:World} {a b:Addr} (hne:a≠b) (ha:Firm w a) (hb:Firm w b):Calls Tryz.prog 119 #[.iface 279 (.pointer (some a)),.iface 279 (.pointer (some b))] w fun e w'=>e=.returned (.bool false)∧w'=w:=by
 obtain ⟨_,_,ha⟩:=ha
 obtain ⟨_,_,hb⟩:=hb
 exact is_other a b w hne ha hb
theorem errno_nil (a b c d:Addr) (w:World) (h:Sent w a b c d):Calls Tryz.prog 87 #[.nilIface] w fun e w'=>e=.returned (.int .i64 0)∧w'=w:=by
 obtain ⟨ga,gb,gc,gd,_,_,_,_,_,_,_,_,_,_⟩:=h
 go_enter Tryz.func87,Tryz.ntmps87
 go_wp2_with (go_at_call 119;refine (is_nil _ _).mono ?_;rintro e w1 ⟨rfl,rfl⟩)
 go_ret
 exact ⟨rfl,rfl⟩
theorem errno_a (a b c d:Addr) (w:World) (h:Sent w a b c d):Calls Tryz.prog 87 #[.iface 279 (.pointer (some a))] w fun e w'=>e=.returned (.int .i64 10)∧w'=w:=by
 obtain ⟨ga,gb,gc,gd,_,_,_,_,_,_,_,_,_,_⟩:=h
 go_enter Tryz.func87,Tryz.ntmps87
 go_wp2_with (go_at_call 119;refine (is_same _ _).mono ?_;rintro e w1 ⟨rfl,rfl⟩)
 go_ret
 exact ⟨rfl,rfl⟩
theorem errno_b (a b c d:Addr) (w:World) (h:Sent w a b c d):Calls Tryz.prog 87 #[.iface 279 (.pointer (some b))] w fun e w'=>e=.returned (.int .i64 10)∧w'=w:=by
 have H1:Hid (Calls Tryz.prog 119 #[.iface 279 (.pointer (some b)),.iface 279 (.pointer (some a))] w fun e w'=>e=.returned (.bool false)∧w'=w):=firm_other h.ab h.fb h.fa
 obtain ⟨ga,gb,gc,gd,_,_,_,_,_,_,_,_,_,_⟩:=h
 go_enter Tryz.func87,Tryz.ntmps87
 go_wp2_with (go_at_call 119;refine H1.out.mono ?_;rintro e w1 ⟨rfl,rfl⟩;go_wp2_with (go_at_call 119;refine (is_same _ _).mono ?_;rintro e w1 ⟨rfl,rfl⟩))
 go_ret
 exact ⟨rfl,rfl⟩
theorem errno_c (a b c d:Addr) (w:World) (h:Sent w a b c d):Calls Tryz.prog 87 #[.iface 279 (.pointer (some c))] w fun e w'=>e=.returned (.int .i64 11)∧w'=w:=by
 have H1:Hid (Calls Tryz.prog 119 #[.iface 279 (.pointer (some c)),.iface 279 (.pointer (some a))] w fun e w'=>e=.returned (.bool false)∧w'=w):=firm_other h.ac h.fc h.fa
 have H2:Hid (Calls Tryz.prog 119 #[.iface 279 (.pointer (some c)),.iface 279 (.pointer (some b))] w fun e w'=>e=.returned (.bool false)∧w'=w):=firm_other h.bc h.fc h.fb
 obtain ⟨ga,gb,gc,gd,_,_,_,_,_,_,_,_,_,_⟩:=h
 go_enter Tryz.func87,Tryz.ntmps87
 go_wp2_with (go_at_call 119;refine H1.out.mono ?_;rintro e w1 ⟨rfl,rfl⟩;go_wp2_with (go_at_call 119;refine H2.out.mono ?_;rintro e w1 ⟨rfl,rfl⟩;go_wp2_with (go_at_call 119;refine (is_same _ _).mono ?_;rintro e w1 ⟨rfl,rfl⟩)))
 go_ret
 exact ⟨rfl,rfl⟩
theorem errno_d (a b c d:Addr) (w:World) (h:Sent w a b c d):Calls Tryz.prog 87 #[.iface 279 (.pointer (some d))] w fun e w'=>e=.returned (.int .i64 12)∧w'=w:=by
 have H1:Hid (Calls Tryz.prog 119 #[.iface 279 (.pointer (some d)),.iface 279 (.pointer (some a))] w fun e w'=>e=.returned (.bool false)∧w'=w):=firm_other h.ad h.fd h.fa
 have H2:Hid (Calls Tryz.prog 119 #[.iface 279 (.pointer (some d)),.iface 279 (.pointer (some b))] w fun e w'=>e=.returned (.bool false)∧w'=w):=firm_other h.bd h.fd h.fb
 have H3:Hid (Calls Tryz.prog 119 #[.iface 279 (.pointer (some d)),.iface 279 (.pointer (some c))] w fun e w'=>e=.returned (.bool false)∧w'=w):=firm_other h.cd h.fd h.fc
 obtain ⟨ga,gb,gc,gd,_,_,_,_,_,_,_,_,_,_⟩:=h
 go_enter Tryz.func87,Tryz.ntmps87
 go_wp2_with (go_at_call 119;refine H1.out.mono ?_;rintro e w1 ⟨rfl,rfl⟩;go_wp2_with (go_at_call 119;refine H2.out.mono ?_;rintro e w1 ⟨rfl,rfl⟩;go_wp2_with (go_at_call 119;refine H3.out.mono ?_;rintro e w1 ⟨rfl,rfl⟩;go_wp2_with (go_at_call 119;refine (is_same _ _).mono ?_;rintro e w1 ⟨rfl,rfl⟩))))
 go_ret
 exact ⟨rfl,rfl⟩
theorem find_no (B:Nat) (s:Int) (a b c d:Addr) (w:World) (h:Sent w a b c d) (hs:s<0∨8≤s):Calls Tryz.prog 86 #[.pointer (some ⟨B,0,none⟩),.int .i64 s] w fun e w'=>e=.returned (.tuple #[.pointer none,.iface 279 (.pointer (some a))])∧w.grownBy w' none:=by
 obtain ⟨ga,gb,gc,gd,_,_,_,_,_,_,_,_,_,_⟩:=h
 rcases hs with h | h
 ·go_enter Tryz.func86,Tryz.ntmps86
  go_wp2
  go_quiet (fail)
  go_wp2
  go_ret2
  exact ⟨rfl,grown_drewN _ _ _⟩
 ·have h0:¬ s<0:=by omega
  go_enter Tryz.func86,Tryz.ntmps86
  go_wp2
  go_quiet (fail)
  go_wp2
  go_ret2
  exact ⟨rfl,grown_drewN _ _ _⟩
theorem find_ok (B s:Nat) (w:World) (hs:s<8):Calls Tryz.prog 86 #[.pointer (some ⟨B,0,none⟩),.int .i64 s] w fun e w'=>e=.returned (.tuple #[.pointer (some ⟨B,s*3,none⟩),.nilIface])∧w'=w:=by
 have h0:¬ (s:Int)<0:=by omega
 have h1:¬ (8:Int)≤(s:Int):=by omega
 go_enter Tryz.func86,Tryz.ntmps86
 go_wp2
 go_ret2
 exact ⟨rfl,rfl⟩
end Go.Proofs.YthbcfepbkkbjiaaGreatDoor
