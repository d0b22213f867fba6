import Derived.MapKept
import Derived.Test.YthbcfepbkkbjiaaGreatDoorI1
import Derived.Test.YthbcfepbkkbjiaaGreatDoorI8
import Derived.Test.YthbcfepbkkbjiaaGreatDoorIE6
set_option linter.unusedVariables false
set_option maxRecDepth 100000
namespace Go.Proofs.YthbcfepbkkbjiaaGreatDoor
open Go.RowKit
def BMap (w:World) (b:Nat) (f:Int→Option Value):Prop :=
 ∃ (es:Array MapEntry) (clock:Nat),w.heap[b]?=some (.map es clock)∧(∀ e ∈ es.toList,∃ a,e.key=.int .u8 a) ∧
  (∀ (i j:Nat) (e e':MapEntry),es.toList[i]?=some e→es.toList[j]?=some e'→e.key=e'.key→i=j) ∧
  ∀ C v,f C=some v↔∃ e ∈ es.toList,e.key=.int .u8 C∧e.val=v
theorem BMap.lt {w:World} {b:Nat} {f:Int→Option Value} (h:BMap w b f):b<w.heap.size:=by
 obtain ⟨es,clock,h1,_⟩:=h
 exact (Array.getElem?_eq_some_iff.1 h1).1
theorem BMap.same {w w':World} {b:Nat} {f:Int→Option Value} (h:BMap w b f) (hb:w'.heap[b]?=w.heap[b]?):BMap w' b f:=by
 obtain ⟨es,clock,h1,h2⟩:=h
 exact ⟨es,clock,by rw [hb];exact h1,h2⟩
theorem BMap.keep {w w':World} {b:Nat} {f:Int→Option Value} {row:Option Nat} (h:BMap w b f) (hg:w.grownBy w' row) (hr:some b≠row):BMap w' b f:=h.same (hg.block b h.lt hr)
theorem bmap_new (w:World):BMap (w.alloc (.map #[] 0)) w.heap.size (fun _=>none) :=
 ⟨#[],0,heap_top _ _ _ rfl,fun e he=>by simp at he,fun i j e e' h=>by simp at h,fun C v=>by simp⟩
theorem isKey_byte (C:Int):MapKept.IsKey (.int .u8) (.int .u8 C):=rfl
theorem BMap.look {P:Program} {w:World} {b:Nat} {f:Int→Option Value} (h:BMap w b f) {t k e:TypeId} (ht:P.underlying t=some (.map k e)) (hk:P.underlying k=some (.int .u8)) {z:Value} (hz:(zeroValue e).run P w=.ok z w) (C:Int) (c:Bool) :
  (Instr.lookup t (.map (some b)) (.int .u8 C) c).run P w=.ok (if c then .tuple #[(f C).getD z,.bool (f C).isSome] else (f C).getD z) w:=by
 obtain ⟨es,clock,h1,h2,h3,h4⟩:=h
 have hkeys:∀ x ∈ es.toList,MapKept.IsKey (.int .u8) x.key:=fun x hx=>by
  obtain ⟨a,ha⟩:=h2 x hx
  rw [ha];exact isKey_byte a
 rcases MapKept.findNow_spec (isKey_byte C) es.toList 0 hkeys with ⟨a1,a2⟩ | ⟨j,e0,a1,a2,a3⟩
 ·have hn:f C=none:=by
   cases hf:f C with
   | none=>rfl
   | some v =>
    obtain ⟨x,hx,hxk,_⟩:=(h4 C v).1 hf
    exact absurd hxk (a2 x hx)
  rw [hn]
  simp [Instr.lookup,run_underlying ht,MapKept.run_getObj_map h1,MapKept.run_checkKey hk (isKey_byte C),Instr.findKey,run_underlying hk,a1,hz,Result.andThen]
 ·have hs:f C=some e0.val:=(h4 C e0.val).2 ⟨e0,List.mem_of_getElem? a2,a3,rfl⟩
  rw [hs]
  simp [Instr.lookup,run_underlying ht,MapKept.run_getObj_map h1,MapKept.run_checkKey hk (isKey_byte C),Instr.findKey,run_underlying hk,a1,Result.andThen]
theorem bheap_put (w:World) {b:Nat} (h:b<w.heap.size) (o:Obj):(w.heap.setIfInBounds b o)[b]?=some o:=by simp [h]
theorem BMap.store {P:Program} {w:World} {b:Nat} {f:Int→Option Value} (h:BMap w b f) {t k e:TypeId} (ht:P.underlying t=some (.map k e)) (hk:P.underlying k=some (.int .u8)) (C:Int) (v:Value) :
  ∃ w',(Instr.mapUpdate t (.map (some b)) (.int .u8 C) v).run P w=.ok () w'∧BMap w' b (fun D=>if D=C then some v else f D)∧w.grownBy w' (some b):=by
 obtain ⟨es,clock,h1,h2,h3,h4⟩:=h
 have hlt:=(Array.getElem?_eq_some_iff.1 h1).1
 have hkeys:∀ x ∈ es.toList,MapKept.IsKey (.int .u8) x.key:=fun x hx=>by
  obtain ⟨a,ha⟩:=h2 x hx
  rw [ha];exact isKey_byte a
 have hgrow:∀ o,w.grownBy { w with heap:=w.heap.setIfInBounds b o } (some b):=fun o =>
  ⟨rfl,rfl,rfl,by simp,fun i _ hr=>by simp only [Array.getElem?_setIfInBounds];rw [if_neg (fun e=>hr (by rw [e]))]⟩
 rcases MapKept.findNow_spec (isKey_byte C) es.toList 0 hkeys with ⟨a1,a2⟩ | ⟨j,e0,a1,a2,a3⟩
 ·refine ⟨{ w with heap:=w.heap.setIfInBounds b (.map (es.push { key:=.int .u8 C,val:=v,born:=clock }) (clock+1)) },?_,?_,hgrow _⟩
  ·simp [Instr.mapUpdate,run_underlying ht,MapKept.run_getObj_map h1,MapKept.run_checkKey hk (isKey_byte C),Instr.findKey,run_underlying hk,a1,MapKept.run_setObj_map _ h1,Result.andThen]
  ·refine ⟨es.push { key:=.int .u8 C,val:=v,born:=clock },clock+1,bheap_put w hlt _,?_,?_,?_⟩
   ·intro x hx
    simp only [Array.toList_push,List.mem_append,List.mem_singleton] at hx
    rcases hx with hx | rfl
    ·exact h2 x hx
    ·exact ⟨C,rfl⟩
   ·intro i j x y hx hy hxy
    simp only [Array.toList_push] at hx hy
    by_cases hi:i<es.toList.length
    ·rw [List.getElem?_append_left hi] at hx
     by_cases hj:j<es.toList.length
     ·rw [List.getElem?_append_left hj] at hy
      exact h3 i j x y hx hy hxy
     ·rw [List.getElem?_append_right (by omega)] at hy
      obtain ⟨q1,q2⟩:=List.getElem?_eq_some_iff.1 hy
      simp at q2
      rw [← q2] at hxy
      exact absurd hxy (a2 x (List.mem_of_getElem? hx))
    ·rw [List.getElem?_append_right (by omega)] at hx
     obtain ⟨q1,q2⟩:=List.getElem?_eq_some_iff.1 hx
     by_cases hj:j<es.toList.length
     ·rw [List.getElem?_append_left hj] at hy
      simp at q2
      rw [← q2] at hxy
      exact absurd hxy.symm (a2 y (List.mem_of_getElem? hy))
     ·rw [List.getElem?_append_right (by omega)] at hy
      obtain ⟨q3,_⟩:=List.getElem?_eq_some_iff.1 hy
      simp only [List.length_cons,List.length_nil] at q1 q3
      omega
   ·intro D u
    simp only [Array.toList_push,List.mem_append,List.mem_singleton]
    by_cases hD:D=C
    ·subst hD
     rw [if_pos rfl]
     constructor
     ·intro hu
      cases hu
      exact ⟨_,Or.inr rfl,rfl,rfl⟩
     ·rintro ⟨x,hx | rfl,hk,hv⟩
      ·exact absurd hk (a2 x hx)
      ·rw [← hv]
    ·rw [if_neg hD,h4 D u]
     constructor
     ·rintro ⟨x,hx,r⟩
      exact ⟨x,Or.inl hx,r⟩
     ·rintro ⟨x,hx | rfl,hk,hv⟩
      ·exact ⟨x,hx,hk,hv⟩
      ·cases hk
       exact absurd rfl hD
 ·have hj:es[j]?=some e0:=by simpa using a2
  have hmod:∀ i,(es.modify j fun e=>{ e with key:=.int .u8 C,val:=v }).toList[i]?=if j=i then (es.toList[i]?).map (fun e=>{ e with key:=.int .u8 C,val:=v }) else es.toList[i]?:=fun i=>by
   simp only [Array.toList_modify,List.getElem?_modify]
   by_cases e:j=i <;> simp [e]
  refine ⟨{ w with heap:=w.heap.setIfInBounds b (.map (es.modify j fun e=>{ e with key:=.int .u8 C,val:=v }) clock) },?_,?_,hgrow _⟩
  ·simp [Instr.mapUpdate,run_underlying ht,MapKept.run_getObj_map h1,MapKept.run_checkKey hk (isKey_byte C),MapKept.run_findKey hk a1,hj,a3,MapKept.run_keyThatStays (isKey_byte C),MapKept.run_setObj_map _ h1,Result.andThen]
  ·refine ⟨es.modify j fun e=>{ e with key:=.int .u8 C,val:=v },clock,bheap_put w hlt _,?_,?_,?_⟩
   ·intro x hx
    obtain ⟨i,hi⟩:=List.getElem?_of_mem hx
    rw [hmod] at hi
    by_cases e:j=i
    ·subst e
     rw [if_pos rfl,a2] at hi
     cases hi
     exact ⟨C,rfl⟩
    ·rw [if_neg e] at hi
     exact h2 x (List.mem_of_getElem? hi)
   ·intro i l x y hx hy hxy
    rw [hmod] at hx hy
    by_cases ei:j=i
    ·by_cases el:j=l
     ·omega
     ·subst ei
      rw [if_pos rfl,a2] at hx
      rw [if_neg el] at hy
      cases hx
      exact absurd (h3 j l e0 y a2 hy (by rw [a3];exact hxy)) el
    ·rw [if_neg ei] at hx
     by_cases el:j=l
     ·subst el
      rw [if_pos rfl,a2] at hy
      cases hy
      exact absurd (h3 i j x e0 hx a2 (by rw [a3];exact hxy)).symm ei
     ·rw [if_neg el] at hy
      exact h3 i l x y hx hy hxy
   ·intro D u
    show (if D=C then some v else f D)=some u↔_
    by_cases hD:D=C
    ·subst hD
     rw [if_pos rfl]
     constructor
     ·intro hu
      cases hu
      refine ⟨{ e0 with key:=.int .u8 D,val:=v },List.mem_of_getElem? (i:=j) ?_,rfl,rfl⟩
      rw [hmod,if_pos rfl,a2];rfl
     ·rintro ⟨x,hx,hkx,hv⟩
      obtain ⟨i,hi⟩:=List.getElem?_of_mem hx
      rw [hmod] at hi
      by_cases e:j=i
      ·subst e
       rw [if_pos rfl,a2] at hi
       cases hi
       rw [← hv]
      ·rw [if_neg e] at hi
       exact absurd (h3 j i e0 x a2 hi (by rw [a3,hkx])) e
    ·rw [if_neg hD,h4 D u]
     constructor
     ·rintro ⟨x,hx,hkx,hv⟩
      obtain ⟨i,hi⟩:=List.getElem?_of_mem hx
      have e:j≠i:=fun e=>by
       subst e
       rw [a2] at hi
       cases hi
       rw [a3] at hkx
       cases hkx
       exact hD rfl
      refine ⟨x,List.mem_of_getElem? (i:=i) ?_,hkx,hv⟩
      rw [hmod,if_neg e];exact hi
     ·rintro ⟨x,hx,hkx,hv⟩
      obtain ⟨i,hi⟩:=List.getElem?_of_mem hx
      rw [hmod] at hi
      by_cases e:j=i
      ·subst e
       rw [if_pos rfl,a2] at hi
       cases hi
       cases hkx
       exact absurd rfl hD
      ·rw [if_neg e] at hi
       exact ⟨x,List.mem_of_getElem? hi,hkx,hv⟩
theorem wpList_put_bmap {P:Program} (w:World) {ops:Array Oper} {rest:List Oper} {o:Oper} {a:Act} {Q:Exit→Act→World→Prop} (hgd:o.guard=none) (m x y:Operand) (t:TypeId)
  (ho:o.op=.insert t m x y∨o.op=.mapUpdate t m x y) (k e:TypeId) (ht:P.underlying t=some (.map k e)) (hk:P.underlying k=some (.int .u8)) (b:Nat) (C:Int) (v:Value) (f:Int→Option Value)
  (hm:a.eval m=.map (some b)) (hx:a.eval x=.int .u8 C) (hy:a.eval y=v) (h:BMap w b f)
  (hK:∀ w',BMap w' b (fun D=>if D=C then some v else f D)→w.grownBy w' (some b)→wpList P ops Q rest (a.put o.dst undef) w'):wpList P ops Q (o::rest) a w:=by
 refine wpList_plain hgd fun K hK'=>?_
 obtain ⟨w',hrun,r1,r2⟩:=h.store ht hk C v
 unfold Oper.wp
 rcases ho with ho | ho <;> (simp [execOp,ho,hm,hx,hy,hrun,Result.andThen];exact hK' _ _ (hK w' r1 r2))
theorem wpList_put_bown {P:Program} (w w0:World) {ops:Array Oper} {rest:List Oper} {o:Oper} {a:Act} {Q:Exit→Act→World→Prop} (hgd:o.guard=none) (m x y:Operand) (t:TypeId)
  (ho:o.op=.insert t m x y) (k e:TypeId) (ht:P.underlying t=some (.map k e)) (hk:P.underlying k=some (.int .u8)) (b:Nat) (C:Int) (cs:Array Value) (f:Int→Option Value)
  (hm:a.eval m=.map (some b)) (hx:a.eval x=.int .u8 C) (hy:a.eval y=.agg cs) (h:BMap w b f∧w0.grownBy w none) (hb:w0.heap.size≤b)
  (hK:∀ w',BMap w' b (fun D=>if D=C then some (.agg cs) else f D)∧w0.grownBy w' none→wpList P ops Q rest (a.put o.dst undef) w'):wpList P ops Q (o::rest) a w :=
 wpList_put_bmap w hgd m x y t (Or.inl ho) k e ht hk b C (.agg cs) f hm hx hy h.1 fun w' r1 r2=>hK w' ⟨r1,grown_new none h.2 r2 hb⟩
end Go.Proofs.YthbcfepbkkbjiaaGreatDoor
namespace Go.Proofs.YthbcfepbkkbjiaaGreatDoor
open Go.RowKit
def shv (s:Shp):Value:=.agg #[.int .i64 s.wh,.int .i64 s.nb,.int .i64 s.po,.int .i64 s.pu]
def smap (c:Int):Option Value:=(shp c).map shv
theorem BMap.congr {w:World} {b:Nat} {f f':Int→Option Value} (h:BMap w b f) (hf:∀ D,f D=f' D):BMap w b f':=by
 have:f=f':=funext hf
 rwa [this] at h
set_option maxHeartbeats 2000000 in
theorem shapes_any (w:World):Calls Tryz.prog 96 #[] w fun e w'=>e=.returned (.map (some w.heap.size))∧BMap w' w.heap.size smap∧w.grownBy w' none:=by
 have hmm:=@run_makeMap Tryz.prog
 have h0:BMap (w.alloc (.map #[] 0)) w.heap.size (fun _=>none)∧w.grownBy (w.alloc (.map #[] 0)) none:=⟨bmap_new w,grown_alloc (grown_refl w none) (.map #[] 0)⟩
 go_enter Tryz.func96,Tryz.ntmps96
 go_wp2_with (refine wpList_put_bown _ w rfl _ _ _ 163 rfl 5 204 Tryz.underlying163 Tryz.underlying5 w.heap.size _ _ _ rfl rfl rfl (by assumption) (Nat.le_refl _) ?_;clear h0;intro w0 h0)
 go_ret
 refine ⟨rfl,h0.1.congr fun D=>?_,h0.2⟩
 by_cases e9:D=9
 ·subst e9;rfl
 rw [if_neg e9]
 by_cases e8:D=8
 ·subst e8;rfl
 rw [if_neg e8]
 by_cases e7:D=7
 ·subst e7;rfl
 rw [if_neg e7]
 by_cases e6:D=6
 ·subst e6;rfl
 rw [if_neg e6]
 by_cases e5:D=5
 ·subst e5;rfl
 rw [if_neg e5]
 by_cases e4:D=4
 ·subst e4;rfl
 rw [if_neg e4]
 by_cases e3:D=3
 ·subst e3;rfl
 rw [if_neg e3]
 by_cases e2:D=2
 ·subst e2;rfl
 rw [if_neg e2]
 by_cases e1:D=1
 ·subst e1;rfl
 rw [if_neg e1]
 unfold smap shp
 rw [if_neg e1,if_neg e2,if_neg e3,if_neg e4,if_neg e5,if_neg e6,if_neg e7,if_neg e8,if_neg e9]
 rfl
def prow (cv pv:Value) (MB pc:Nat) (sv:Value) (cs:Nat→Int) (sd:Bool) (res:Int):Nat→Value:=fun j =>
 if j=0 then cv else if j=1 then pv else if j=2 then .map (some MB) else if j=3 then .int .i64 pc else if j=4 then sv else if j<23 then .int .u32 (cs (j-5)) else if j=23 then .bool sd else .int .u32 res
structure PM (w0 w:World) (M MB:Nat) (cv pv sv:Value) (S:Mst) (sd:Bool) (res:Int):Prop where
 gr:w0.grownBy w none
 hM:w0.heap.size≤M
 hB:w0.heap.size≤MB
 ne:M≠MB
 m:Blk w M 168 25 25 (prow cv pv MB S.pc sv S.cs sd res)
 st:Out w w0.heap.size 65 1 sv S.sp (ints .u32 S.st)
 own:∀ g,sv.ownBlock=some g→g≠M∧g≠MB
 mp:BMap w MB smap
section
variable {w0 w w':World} {M MB:Nat} {cv pv sv:Value} {S:Mst} {sd:Bool} {res:Int}
theorem PM.cells (h:PM w0 w M MB cv pv sv S sd res) :
  w.cell? ⟨M,0,none⟩=some cv∧w.cell? ⟨M,1,none⟩=some pv∧w.cell? ⟨M,2,none⟩=some (.map (some MB))∧w.cell? ⟨M,3,none⟩=some (.int .i64 S.pc)∧w.cell? ⟨M,4,none⟩=some sv∧w.cell? ⟨M,23,none⟩=some (.bool sd)∧w.cell? ⟨M,24,none⟩=some (.int .u32 res) :=
 ⟨h.m.cell (j:=0) (by omega),h.m.cell (j:=1) (by omega),h.m.cell (j:=2) (by omega),h.m.cell (j:=3) (by omega),h.m.cell (j:=4) (by omega),h.m.cell (j:=23) (by omega),h.m.cell (j:=24) (by omega)⟩
theorem PM.free (h:PM w0 w M MB cv pv sv S sd res) :
  w.frozen? ⟨M,3,none⟩=false∧w.frozen? ⟨M,4,none⟩=false∧w.frozen? ⟨M,23,none⟩=false∧w.frozen? ⟨M,24,none⟩=false:=⟨h.m.frozen 3,h.m.frozen 4,h.m.frozen 23,h.m.frozen 24⟩
theorem PM.cs (h:PM w0 w M MB cv pv sv S sd res) {i:Nat} (hi:i<18):w.cell? ⟨M,5+i,none⟩=some (.int .u32 (S.cs i)):=by
 have:=h.m.cell (j:=5+i) (by omega)
 rw [this]
 unfold prow
 rw [if_neg (by omega),if_neg (by omega),if_neg (by omega),if_neg (by omega),if_neg (by omega),if_pos (by omega),show 5+i-5=i by omega]
theorem PM.keep (h:PM w0 w M MB cv pv sv S sd res) (hg:w.grownBy w' none):PM w0 w' M MB cv pv sv S sd res :=
 ⟨grown_trans h.gr hg,h.hM,h.hB,h.ne,h.m.keep hg (by simp),h.st.keep hg (by simp),h.own,h.mp.keep hg (by simp)⟩
theorem PM.drew (h:PM w0 w M MB cv pv sv S sd res):PM w0 w.drew M MB cv pv sv S sd res:=h.keep (grown_drew (grown_refl _ _))
theorem PM.drewN (h:PM w0 w M MB cv pv sv S sd res) (k:Nat):PM w0 (w.drewN k) M MB cv pv sv S sd res:=h.keep (grown_drewN _ _ _)
theorem PM.allo (h:PM w0 w M MB cv pv sv S sd res) (o:Obj):PM w0 (w.alloc o) M MB cv pv sv S sd res:=h.keep (World.grownBy_alloc _ _ none)
theorem PM.setPc (h:PM w0 w M MB cv pv sv S sd res) (pc:Nat) (v:Int) (hv:v=pc):PM w0 (w.setCell ⟨M,3,none⟩ (.int .i64 v)) M MB cv pv sv ⟨pc,S.sp,S.st,S.cs⟩ sd res:=by
 subst hv
 have hg:=grown_setCell w ⟨M,3,none⟩ (.int .i64 pc)
 refine ⟨grown_set h.gr h.hM _,h.hM,h.hB,h.ne,(h.m.set' (j:=3) (by omega) _).congr fun j hj=>?_,h.st.other hg (fun g e=>(h.own g e).1),h.own,h.mp.keep hg (by simp;exact fun e=>h.ne e.symm)⟩
 unfold prow
 by_cases e:j=3
 ·subst e;rfl
 ·simp only [if_neg e]
theorem PM.setSt (h:PM w0 w M MB cv pv sv S sd res) (sv':Value) (sp:Nat) (st:Nat→Int) (ho:Out w w0.heap.size 65 1 sv' sp (ints .u32 st)) (hown:∀ g,sv'.ownBlock=some g→g≠M∧g≠MB) :
  PM w0 (w.setCell ⟨M,4,none⟩ sv') M MB cv pv sv' ⟨S.pc,sp,st,S.cs⟩ sd res:=by
 have hg:=grown_setCell w ⟨M,4,none⟩ sv'
 refine ⟨grown_set h.gr h.hM _,h.hM,h.hB,h.ne,(h.m.set' (j:=4) (by omega) _).congr fun j hj=>?_,ho.other hg (fun g e=>(hown g e).1),hown,h.mp.keep hg (by simp;exact fun e=>h.ne e.symm)⟩
 unfold prow
 by_cases e:j=4
 ·subst e;rfl
 ·simp only [if_neg e]
theorem PM.setCs (h:PM w0 w M MB cv pv sv S sd res) (i:Nat) (hi:i<18) (v:Int):PM w0 (w.setCell ⟨M,5+i,none⟩ (.int .u32 v)) M MB cv pv sv ⟨S.pc,S.sp,S.st,upd S.cs i v⟩ sd res:=by
 have hg:=grown_setCell w ⟨M,5+i,none⟩ (.int .u32 v)
 refine ⟨grown_set h.gr h.hM _,h.hM,h.hB,h.ne,(h.m.set' (j:=5+i) (by omega) _).congr fun j hj=>?_,h.st.other hg (fun g e=>(h.own g e).1),h.own,h.mp.keep hg (by simp;exact fun e=>h.ne e.symm)⟩
 unfold prow upd
 dsimp only
 by_cases e:j=5+i
 ·subst e
  rw [if_pos rfl,if_neg (by omega),if_neg (by omega),if_neg (by omega),if_neg (by omega),if_neg (by omega),if_pos (by omega),if_pos (by omega)]
 ·rw [if_neg e]
  by_cases e2:j-5=i∧5≤j
  ·omega
  ·by_cases e5:5≤j
   ·rw [show (if j-5=i then v else S.cs (j-5))=S.cs (j-5) from if_neg (by omega)]
   ·rcases (by omega:j=0∨j=1∨j=2∨j=3∨j=4) with rfl | rfl | rfl | rfl | rfl <;> rfl
theorem PM.stop (h:PM w0 w M MB cv pv sv S sd res) (r:Int):PM w0 ((w.setCell ⟨M,23,none⟩ (.bool true)).setCell ⟨M,24,none⟩ (.int .u32 r)) M MB cv pv sv S true r:=by
 have hg:=grown_trans (grown_setCell w ⟨M,23,none⟩ (.bool true)) (grown_setCell (w.setCell ⟨M,23,none⟩ (.bool true)) ⟨M,24,none⟩ (.int .u32 r))
 refine ⟨grown_set (grown_set h.gr h.hM _) h.hM _,h.hM,h.hB,h.ne,((h.m.set' (j:=23) (by omega) _).set' (j:=24) (by omega) _).congr fun j hj=>?_,h.st.other hg (fun g e=>(h.own g e).1),h.own,h.mp.keep hg (by simp;exact fun e=>h.ne e.symm)⟩
 unfold prow
 by_cases e:j=24
 ·subst e;rfl
 ·by_cases e2:j=23
  ·subst e2;rfl
  ·simp only [if_neg e,if_neg e2]
   by_cases e3:j<23
   ·simp only [if_pos e3]
   ·omega
theorem PM.append (h:PM w0 w M MB cv pv sv S sd res) {g' cap' n':Nat} {st':Nat→Int} (hg0:w0.grownBy w' none) (hg:w.grownBy w' sv.ownBlock)
  (ho:Out w' w0.heap.size 65 1 (.slice (some ⟨g',0,none⟩) n' cap') n' (ints .u32 st')) (hor:sv.ownBlock=some g'∨w.heap.size≤g') :
  (w'.cell? ⟨M,4,none⟩=some sv∧w'.frozen? ⟨M,4,none⟩=false)∧PM w0 (w'.setCell ⟨M,4,none⟩ (.slice (some ⟨g',0,none⟩) n' cap')) M MB cv pv (.slice (some ⟨g',0,none⟩) n' cap') ⟨S.pc,n',st',S.cs⟩ sd res:=by
 have nM:some M≠sv.ownBlock:=fun e=>(h.own M e.symm).1 rfl
 have nB:some MB≠sv.ownBlock:=fun e=>(h.own MB e.symm).2 rfl
 have hm:=h.m.keep hg nM
 have hb:=h.mp.keep hg nB
 have own':∀ g,(Value.slice (some ⟨g',0,none⟩) n' cap').ownBlock=some g→g≠M∧g≠MB:=by
  intro g e
  have e2:g'=g:=by cases e;rfl
  subst e2
  rcases hor with e | e
  ·exact h.own g' e
  ·have:=h.m.lt;have:=h.mp.lt;exact ⟨by omega,by omega⟩
 refine ⟨⟨hm.cell (j:=4) (by omega),hm.frozen 4⟩,?_⟩
 have hs:=grown_setCell w' ⟨M,4,none⟩ (.slice (some ⟨g',0,none⟩) n' cap')
 refine ⟨grown_set hg0 h.hM _,h.hM,h.hB,h.ne,(hm.set' (j:=4) (by omega) _).congr fun j hj=>?_,ho.other hs (fun g e=>(own' g e).1),own',hb.keep hs (by simp;exact fun e=>h.ne e.symm)⟩
 unfold prow
 by_cases e:j=4
 ·subst e;rfl
 ·simp only [if_neg e]
end
end Go.Proofs.YthbcfepbkkbjiaaGreatDoor
