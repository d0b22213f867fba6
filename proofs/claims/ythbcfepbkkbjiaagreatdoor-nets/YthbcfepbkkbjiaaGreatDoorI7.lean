import Derived.LaidEql
import Derived.Stop.Asserts
import Derived.RowKitTokens
import Derived.Test.YthbcfepbkkbjiaaGreatDoorI6
set_option linter.unusedVariables false
set_option maxRecDepth 100000
namespace Go.Proofs.YthbcfepbkkbjiaaGreatDoor
open Go.RowKit Go.Extern.Stop Go.Stop Go.Extern
theorem as_nil (t:Value) (w:World):Calls Tryz.prog 66 #[.nilIface,t] w fun e w'=>e=.returned (.bool false)∧w'=w:=by
 go_enter Tryz.func66,Tryz.ntmps66
 go_wp2
 go_ret
 exact ⟨rfl,rfl⟩
theorem Tryz.valueOfFF (t:Addr) (w:World):(ReflectliteValue.unpack (.iface 119 (.pointer (some t)))).run Tryz.prog w
  = .ok (.agg #[.pointer (some ⟨9,119,none⟩),.pointer (some ⟨w.heap.size,0,none⟩),.int .u64 150]) (w.alloc (.cells #[.pointer (some t)] 119)):=by kernel_rfl
theorem Tryz.typeFF (a : Addr) (w : World) : (ReflectliteValue.methodAny (ReflectliteValue.valueError "reflectlite.Value.Type" 0) (fun t _ _ _ => ReflectliteType.toType t) #[.agg #[.pointer (some ⟨9, 119, none⟩), .pointer (some a), .int .u64 150]]).run Tryz.prog w
  = .ok (.iface 214 (.agg #[.pointer (some ⟨9,119,none⟩)])) w:=by kernel_rfl
theorem Tryz.methodKind (h : Value) (w : World) : (Go.method 410 214 (.agg #[h]) "Kind").run Tryz.prog w = .ok (200, h) w := by kernel_rfl
theorem Tryz.kindFF (w:World):((ReflectliteType.abiMethod fun t=>Functor.map (fun a:Nat=>Value.int IntKind.u8 (a:Int)) (Rtype.kind t)) #[.pointer (some ⟨9,119,none⟩)]).run Tryz.prog w=.ok (.int .u8 22) w:=by kernel_rfl
theorem Tryz.kindF (w:World):((ReflectliteType.abiMethod fun t=>Functor.map (fun a:Nat=>Value.int IntKind.u8 (a:Int)) (Rtype.kind t)) #[.pointer (some ⟨9,114,none⟩)]).run Tryz.prog w=.ok (.int .u8 22) w:=by kernel_rfl
theorem Tryz.partsFF (a:Addr) (w:World):(ReflectliteValue.parts (.agg #[.pointer (some ⟨9,119,none⟩),.pointer (some a),.int .u64 150])).run Tryz.prog w=.ok (some (119,a,150)) w:=by kernel_rfl
theorem Tryz.isNilFF (a p:Addr) (W:World) (ha:W.cell? a=some (.pointer (some p))) :
  (ReflectliteValue.method (ReflectliteValue.valueError "reflectlite.Value.IsNil" 0) ReflectliteValue.isNil #[.agg #[.pointer (some ⟨9, 119, none⟩), .pointer (some a), .int .u64 150]]).run Tryz.prog W = .ok (.bool false) W := by
 change Sem.run Tryz.prog (Bind.bind (ReflectliteValue.parts (.agg #[.pointer (some ⟨9,119,none⟩),.pointer (some a),.int .u64 150])) _) W=_
 simp only [Sem.run_bind,Tryz.partsFF,Result.andThen]
 simp [ReflectliteValue.isNil,loadVar,isAgg,underlying,Tryz.underlying119,ha,Result.andThen]
theorem Tryz.methodElem (h : Value) (w : World) : (Go.method 410 214 (.agg #[h]) "Elem").run Tryz.prog w = .ok (211, .agg #[h]) w := by kernel_rfl
theorem Tryz.methodImplements (h : Value) (w : World) : (Go.method 410 214 (.agg #[h]) "Implements").run Tryz.prog w = .ok (212, .agg #[h]) w := by kernel_rfl
theorem Tryz.methodAssignableTo (h : Value) (w : World) : (Go.method 410 214 (.agg #[h]) "AssignableTo").run Tryz.prog w = .ok (209, .agg #[h]) w := by kernel_rfl
theorem Tryz.elemFF (w:World):(ReflectliteType.method ReflectliteType.elem #[.agg #[.pointer (some ⟨9,119,none⟩)]]).run Tryz.prog w=.ok (.iface 214 (.agg #[.pointer (some ⟨9,114,none⟩)])) w:=by kernel_rfl
theorem Tryz.implementsF (w : World) : (ReflectliteType.relation "Implements" ReflectliteType.implements_ #[.agg #[.pointer (some ⟨9, 114, none⟩)], .iface 214 (.agg #[.pointer (some ⟨9, 117, none⟩)])]).run Tryz.prog w = .ok (.bool true) w := by kernel_rfl
theorem Tryz.typeOfF (v:Value) (w:World):(ReflectliteType.typeOf #[.iface 114 v]).run Tryz.prog w=.ok (.iface 214 (.agg #[.pointer (some ⟨9,114,none⟩)])) w:=by kernel_rfl
theorem Tryz.assignableF (w : World) : (ReflectliteType.relation "AssignableTo" ReflectliteType.assignableTo #[.agg #[.pointer (some ⟨9, 114, none⟩)], .iface 214 (.agg #[.pointer (some ⟨9, 114, none⟩)])]).run Tryz.prog w = .ok (.bool true) w := by kernel_rfl
theorem Tryz.valueOfF (e:Addr) (w:World):(ReflectliteValue.unpack (.iface 114 (.pointer (some e)))).run Tryz.prog w
  = .ok (.agg #[.pointer (some ⟨9,114,none⟩),.pointer (some ⟨w.heap.size,0,none⟩),.int .u64 150]) (w.alloc (.cells #[.pointer (some e)] 114)):=by kernel_rfl
theorem Tryz.elemOfFF (w:World):(Rtype.elem? 119).run Tryz.prog w=.ok (some 114) w:=by kernel_rfl
theorem Tryz.mkF (p:Addr) (w:World):(ReflectliteValue.mk 114 p ReflectliteValue.flagAddr).run Tryz.prog w=.ok (.agg #[.pointer (some ⟨9,114,none⟩),.pointer (some p),.int .u64 406]) w:=by kernel_rfl
theorem Tryz.elemVFF (a p:Addr) (W:World) (ha:W.cell? a=some (.pointer (some p))) :
  (ReflectliteValue.method (ReflectliteValue.valueError "reflectlite.Value.Elem" 0) ReflectliteValue.elem #[.agg #[.pointer (some ⟨9, 119, none⟩), .pointer (some a), .int .u64 150]]).run Tryz.prog W
   = .ok (.agg #[.pointer (some ⟨9,114,none⟩),.pointer (some p),.int .u64 406]) W:=by
 change Sem.run Tryz.prog (Bind.bind (ReflectliteValue.parts (.agg #[.pointer (some ⟨9,119,none⟩),.pointer (some a),.int .u64 150])) _) W=_
 simp only [Sem.run_bind,Tryz.partsFF,Result.andThen]
 simp [ReflectliteValue.elem,loadVar,isAgg,underlying,Tryz.underlying119,ha,Result.andThen,Tryz.elemOfFF,Tryz.mkF]
theorem Tryz.partsFa (a:Addr) (w:World):(ReflectliteValue.parts (.agg #[.pointer (some ⟨9,114,none⟩),.pointer (some a),.int .u64 406])).run Tryz.prog w=.ok (some (114,a,406)) w:=by kernel_rfl
theorem Tryz.partsF (a:Addr) (w:World):(ReflectliteValue.parts (.agg #[.pointer (some ⟨9,114,none⟩),.pointer (some a),.int .u64 150])).run Tryz.prog w=.ok (some (114,a,150)) w:=by kernel_rfl
theorem Tryz.directF (w:World):(Rtype.directlyAssignable 114 114).run Tryz.prog w=.ok true w:=by kernel_rfl
theorem Tryz.setF (ta b e:Addr) (old:Value) (W:World) (hb:W.cell? b=some (.pointer (some e))) (ht:W.cell? ta=some old) (hf:W.frozen? ta=false) :
  (ReflectliteValue.set #[.agg #[.pointer (some ⟨9,114,none⟩),.pointer (some ta),.int .u64 406],.agg #[.pointer (some ⟨9,114,none⟩),.pointer (some b),.int .u64 150]]).run Tryz.prog W
   = .ok (.tuple #[]) (W.setCell ta (.pointer (some e))):=by
 change Sem.run Tryz.prog (Bind.bind (ReflectliteValue.parts (.agg #[.pointer (some ⟨9,114,none⟩),.pointer (some ta),.int .u64 406])) (fun x=>Bind.bind (ReflectliteValue.parts (.agg #[.pointer (some ⟨9,114,none⟩),.pointer (some b),.int .u64 150])) _)) W=_
 simp only [Sem.run_bind,Tryz.partsFa,Tryz.partsF,Result.andThen]
 simp [ReflectliteValue.flagAddr,loadVar,isAgg,underlying,Tryz.underlying114,hb,Result.andThen,Tryz.directF,storeVar,Value.cells,storeCells,Addr.add]
 rw [run_store Tryz.prog W ta _ _ (by rfl)]
 simp [ht,hf]
end Go.Proofs.YthbcfepbkkbjiaaGreatDoor
namespace Go.Proofs.YthbcfepbkkbjiaaGreatDoor
open Go.RowKit Go.Extern.Stop Go.Stop Go.Extern
def ErrT (w:World):Prop:=w.cell? ⟨0,0,none⟩=some (.iface 214 (.agg #[.pointer (some ⟨9,117,none⟩)]))
theorem ErrT.keep {w w':World} (h:ErrT w) (hg:w.grownBy w' none):ErrT w':=hg.cell h (by simp)
set_option maxHeartbeats 4000000 in
theorem as_hit (e t:Addr) (old:Value) (w:World) (hg:ErrT w) (ht0:w.cell? t=some old) (hf0:w.frozen? t=false) :
  Calls Tryz.prog 66 #[.iface 114 (.pointer (some e)),.iface 119 (.pointer (some t))] w fun ev w'=>ev=.returned (.bool true)∧∃ w1,w.grownBy w1 none∧w'=w1.setCell t (.pointer (some e)):=by
 unfold ErrT at hg
 have h22:=@run_callFunc_extern Tryz.prog 100 _ (fun args=>ReflectliteValue.unpack (args.getD 0 (.tuple #[]))) Tryz.func100 (by kernel_rfl) (by kernel_rfl) (by kernel_rfl) (by kernel_rfl)
 have h23 := @run_callFunc_extern Tryz.prog 101 _ (ReflectliteValue.methodAny (ReflectliteValue.valueError "reflectlite.Value.Type" 0) (fun t _ _ _ => ReflectliteType.toType t)) Tryz.func101 (by kernel_rfl) (by kernel_rfl) (by kernel_rfl) (by kernel_rfl)
 have h24 := @run_callFunc_extern Tryz.prog 102 _ (ReflectliteValue.method (ReflectliteValue.valueError "reflectlite.Value.IsNil" 0) ReflectliteValue.isNil) Tryz.func102 (by kernel_rfl) (by kernel_rfl) (by kernel_rfl) (by kernel_rfl)
 have h79:=@run_callFunc_extern Tryz.prog 200 _ (ReflectliteType.abiMethod fun t=>do pure (.int .u8 (← Rtype.kind t))) Tryz.func200 (by kernel_rfl) (by kernel_rfl) (by kernel_rfl) (by kernel_rfl)
 have h90:=@run_callFunc_extern Tryz.prog 211 _ (ReflectliteType.method ReflectliteType.elem) Tryz.func211 (by kernel_rfl) (by kernel_rfl) (by kernel_rfl) (by kernel_rfl)
 have h91 := @run_callFunc_extern Tryz.prog 212 _ (ReflectliteType.relation "Implements" ReflectliteType.implements_) Tryz.func212 (by kernel_rfl) (by kernel_rfl) (by kernel_rfl) (by kernel_rfl)
 have h20:=@run_callFunc_extern Tryz.prog 133 _ ReflectliteType.typeOf Tryz.func133 (by kernel_rfl) (by kernel_rfl) (by kernel_rfl) (by kernel_rfl)
 have h88 := @run_callFunc_extern Tryz.prog 209 _ (ReflectliteType.relation "AssignableTo" ReflectliteType.assignableTo) Tryz.func209 (by kernel_rfl) (by kernel_rfl) (by kernel_rfl) (by kernel_rfl)
 have h37 := @run_callFunc_extern Tryz.prog 134 _ (ReflectliteValue.method (ReflectliteValue.valueError "reflectlite.Value.Elem" 0) ReflectliteValue.elem) Tryz.func134 (by kernel_rfl) (by kernel_rfl) (by kernel_rfl) (by kernel_rfl)
 have h38:=@run_callFunc_extern Tryz.prog 135 _ ReflectliteValue.set Tryz.func135 (by kernel_rfl) (by kernel_rfl) (by kernel_rfl) (by kernel_rfl)
 have tO:=Tryz.typeOfF
 have mA:=Tryz.methodAssignableTo
 have aF:=Tryz.assignableF
 have vF:=Tryz.valueOfF
 have vFF:=Tryz.valueOfFF
 have tFF:=Tryz.typeFF
 have mK:=Tryz.methodKind
 have mE:=Tryz.methodElem
 have mI:=Tryz.methodImplements
 have kFF:=Tryz.kindFF
 have kF:=Tryz.kindF
 have eFF:=Tryz.elemFF
 have iF:=Tryz.implementsF
 have nFF:=Tryz.isNilFF ⟨w.heap.size,0,none⟩ t ((w.alloc (.cells #[.pointer (some t)] 119)).alloc (.cells #[.pointer (some ⟨9,119,none⟩),.pointer (some ⟨w.heap.size,0,none⟩),.int .u64 150] 178)) (by simp)
 have hlt:0<w.heap.size:=World.block_lt_of_cell? w _ hg
 have hg2:((w.alloc (.cells #[.pointer (some t)] 119)).alloc (.cells #[.pointer (some ⟨9,119,none⟩),.pointer (some ⟨w.heap.size,0,none⟩),.int .u64 150] 178)).cell? ⟨0,0,none⟩=some (.iface 214 (.agg #[.pointer (some ⟨9,117,none⟩)])):=by
  rw [World.cell?_alloc_lt _ _ ⟨0,0,none⟩ (by simp <;> omega),World.cell?_alloc_lt _ _ ⟨0,0,none⟩ hlt];exact hg
 have htl:t.block<w.heap.size:=World.block_lt_of_cell? w _ ht0
 have el:=Tryz.elemVFF ⟨w.heap.size,0,none⟩ t (((w.alloc (.cells #[.pointer (some t)] 119)).alloc (.cells #[.pointer (some ⟨9,119,none⟩),.pointer (some ⟨w.heap.size,0,none⟩),.int .u64 150] 178)).alloc (.cells #[.pointer (some ⟨9,119,none⟩),.pointer (some ⟨w.heap.size,0,none⟩),.int .u64 150] 178)) (by rw [World.cell?_alloc_lt _ _ ⟨w.heap.size,0,none⟩ (by simp <;> omega)];simp)
 have st:=Tryz.setF t ⟨w.heap.size+1+1+1,0,none⟩ e old ((((w.alloc (.cells #[.pointer (some t)] 119)).alloc (.cells #[.pointer (some ⟨9,119,none⟩),.pointer (some ⟨w.heap.size,0,none⟩),.int .u64 150] 178)).alloc (.cells #[.pointer (some ⟨9,119,none⟩),.pointer (some ⟨w.heap.size,0,none⟩),.int .u64 150] 178)).alloc (.cells #[.pointer (some e)] 114))
  (by rw [World.cell?_alloc_at _ _ _ _ (by simp)];rfl)
  (by rw [World.cell?_alloc_lt _ _ t (by simp <;> omega),World.cell?_alloc_lt _ _ t (by simp <;> omega),World.cell?_alloc_lt _ _ t (by simp <;> omega),World.cell?_alloc_lt _ _ t htl];exact ht0)
  (by rw [World.frozen?_alloc_old _ _ t (by simp <;> omega),World.frozen?_alloc_old _ _ t (by simp <;> omega),World.frozen?_alloc_old _ _ t (by simp <;> omega),World.frozen?_alloc_old _ _ t (Nat.ne_of_lt htl)];exact hf0)
 go_enter Tryz.func66,Tryz.ntmps66
 go_wp2
 refine wp_loop_rounds 1 ?_
 rw [rounds_succ]
 go_wp2
 go_ret
 exact ⟨rfl,_,grown_alloc (grown_alloc (grown_alloc (grown_alloc (grown_refl w none) _) _) _) _,rfl⟩
end Go.Proofs.YthbcfepbkkbjiaaGreatDoor
namespace Go.Proofs.YthbcfepbkkbjiaaGreatDoor
open Go.RowKit
def Laid (w:World) (tb:TypeId) (pb:Value):Prop:=Tab w∧ErrT w∧w.cell? ⟨1,0,none⟩=some (.iface tb pb)
theorem Laid.keep {w w':World} {tb:TypeId} {pb:Value} (h:Laid w tb pb) (hg:w.grownBy w' none):Laid w' tb pb:=⟨h.1.keep hg,h.2.1.keep hg,hg.cell h.2.2 (by simp)⟩
theorem verify_any (ao:Option Addr) (n c:Nat) (g:Nat→Int) (tb:TypeId) (pb:Value) (w:World) (hm:n≤maxLen) (hc:n≤c) (hg:Oct g) (h:Src w .u8 ao n g) (hl:Laid w tb pb) :
  Calls Tryz.prog 67 #[.slice ao n c] w fun e w'=>ErrS w w' e (Chk g n 0 0) (fun k E=>Chk g n E k∧E≠0) (.iface tb pb)∧w.grownBy w' none:=by
 obtain ⟨l1,l2,l3⟩:=hl
 go_enter Tryz.func67,Tryz.ntmps67
 go_wp2_with (first | (go_at_call 104;refine (pfilter_any ao n c g tb pb _ hm hc hg h l1).mono ?_;rintro e w1 ⟨hE,hg1⟩;obtain ⟨v,hv⟩:∃ v,e=.returned v:=hE.ret;subst hv))
 go_ret
 exact ⟨hE,hg1⟩
theorem box_frozen {w wr:World} {arr:Array Value} {t:TypeId} {j:Nat} (hg:(w.alloc (.cells arr t)).grownBy wr none):wr.frozen? ⟨w.heap.size,j,none⟩=false:=by
 have:wr.heap[w.heap.size]?=some (.cells arr t (0,0)):=by rw [hg.block w.heap.size (by simp) (by simp)];exact heap_top _ _ _ rfl
 simp [World.frozen?,this]
theorem fault_cells {w w3:World} {F:Nat} {k c:Int} {bad v:Value} {o:Obj} (h:FaultS w3 F k c bad) (hlt:(w.alloc o).heap.size≤F) :
  (w3.setCell ⟨w.heap.size,0,none⟩ v).cell? ⟨F,0,none⟩=some (.int .i64 k)∧(w3.setCell ⟨w.heap.size,0,none⟩ v).cell? ⟨F,1,none⟩=some (.int .i64 c)∧F≠w.heap.size:=by
 obtain ⟨R,s,h1,_⟩:=h
 have hne:F≠w.heap.size:=by simp at hlt;omega
 have e:∀ j,(w3.setCell ⟨w.heap.size,0,none⟩ v).cell? ⟨F,j,none⟩=w3.cell? ⟨F,j,none⟩:=fun j=>by
  have:=Below.heap_setCell w3 ⟨w.heap.size,0,none⟩ v F hne
  simp [World.cell?,this]
 refine ⟨?_,?_,hne⟩
 ·rw [e,cell_of_row w3 F 0 _ _ (0,0) h1];rfl
 ·rw [e,cell_of_row w3 F 1 _ _ (0,0) h1];rfl
set_option maxHeartbeats 1000000 in
theorem check_ok (ao:Option Addr) (n c:Nat) (g:Nat→Int) (tb:TypeId) (pb:Value) (w:World) (hm:n≤maxLen) (hc:n≤c) (hg:Oct g) (h:Src w .u8 ao n g) (hl:Laid w tb pb) (hok:Chk g n 0 0) :
  Calls Tryz.prog 35 #[.slice ao n c] w fun e w'=>(∃ (E:Int) (p:Nat),e=.returned (.tuple #[.int .i64 E,.int .i64 p])∧Chk g n E p)∧w.grownBy w' none:=by
 have G0:=World.grownBy_alloc w (.cells #[.pointer none] 114) none
 go_enter Tryz.func35,Tryz.ntmps35
 go_wp2_with (first | (go_at_call 67;refine (verify_any ao n c g tb pb _ hm hc hg (h.keep G0) (hl.keep G0)).mono ?_;rintro e w1 ⟨hE,hg1⟩;obtain ⟨_,rfl⟩:=hE.nil (fun k E hP=>hP.2 (hP.1.one hok).1)) | (go_at_call 66;refine (as_nil _ _).mono ?_;rintro e w2 ⟨rfl,rfl⟩))
 go_ret2
 exact ⟨⟨0,0,rfl,hok⟩,grown_trans G0 hg1⟩
set_option maxHeartbeats 1000000 in
theorem check_err (ao:Option Addr) (n c:Nat) (g:Nat→Int) (tb:TypeId) (pb:Value) (w:World) (hm:n≤maxLen) (hc:n≤c) (hg:Oct g) (h:Src w .u8 ao n g) (hl:Laid w tb pb) (hno:¬ Chk g n 0 0) :
  Calls Tryz.prog 35 #[.slice ao n c] w fun e w'=>(∃ (E:Int) (p:Nat),e=.returned (.tuple #[.int .i64 E,.int .i64 p])∧Chk g n E p)∧w.grownBy w' none:=by
 have G0:=World.grownBy_alloc w (.cells #[.pointer none] 114) none
 go_enter Tryz.func35,Tryz.ntmps35
 go_wp2_with (first | (go_at_call 67;refine (verify_any ao n c g tb pb _ hm hc hg (h.keep G0) (hl.keep G0)).mono ?_;rintro e w1 ⟨hE,hg1⟩;obtain ⟨F,k,E,hP,rfl,hF,hlt⟩:=hE.err hno;have cb:=box_of (j:=0) (u:=.pointer none) hg1 (by simp) rfl;have fb:w1.frozen? ⟨w.heap.size,0,none⟩=false:=(box_frozen hg1)) | (go_at_call 66;refine (as_hit _ _ (.pointer none) _ (hl.2.1.keep (grown_trans G0 hg1)) cb fb).mono ?_;rintro e w4 ⟨rfl,w3,hg3,hw4⟩;obtain ⟨d0,d1,d2⟩:=fault_cells (v:=.pointer (some ⟨F,0,none⟩)) (hF.keep hg3) hlt;have d3:=World.cell?_setCell_same _ _ (.pointer (some ⟨F,0,none⟩)) (hg3.cell cb (by simp));rw [← hw4] at d0 d1 d3;have G4:=grown_set (grown_trans (grown_trans G0 hg1) hg3) (p:=⟨w.heap.size,0,none⟩) (Nat.le_refl _) (.pointer (some ⟨F,0,none⟩));rw [← hw4] at G4;clear hw4 cb fb))
 go_quiet (fail)
 go_wp2
 go_ret2
 exact ⟨⟨E,k,rfl,hP.1⟩,grown_trans G4 (grown_drewN _ _ _)⟩
theorem check_any (ao:Option Addr) (n c:Nat) (g:Nat→Int) (tb:TypeId) (pb:Value) (w:World) (hm:n≤maxLen) (hc:n≤c) (hg:Oct g) (h:Src w .u8 ao n g) (hl:Laid w tb pb) :
  Calls Tryz.prog 35 #[.slice ao n c] w fun e w'=>(∃ (E:Int) (p:Nat),e=.returned (.tuple #[.int .i64 E,.int .i64 p])∧Chk g n E p)∧w.grownBy w' none:=by
 by_cases hok:Chk g n 0 0
 ·exact check_ok ao n c g tb pb w hm hc hg h hl hok
 ·exact check_err ao n c g tb pb w hm hc hg h hl hok
end Go.Proofs.YthbcfepbkkbjiaaGreatDoor
