import Derived.BigQuiet
import Derived.Deep.QuietTactic
import Derived.Deep.RegionLaw
import Derived.Test.YthbcfepbkkbjiaaGreatDoorI8
import Derived.Test.YthbcfepbkkbjiaaGreatDoorI2
set_option linter.unusedVariables false
namespace Go.Proofs.YthbcfepbkkbjiaaGreatDoor
open Go.RowKit
def mrow (cv pv sv:Value) (CB pc:Nat):Nat→Value:=fun j=>if j=0 then cv else if j=1 then pv else if j=2 then sv else if j=3 then .slice (some ⟨CB,0,none⟩) 18 18 else .int .i64 pc
structure RM (w0 w:World) (M CB:Nat) (cv pv sv:Value) (S:Mst):Prop where
 gr:w0.grownBy w none
 hM:w0.heap.size≤M
 hC:w0.heap.size≤CB
 ne:M≠CB
 m:Blk w M 90 5 5 (mrow cv pv sv CB S.pc)
 st:Out w w0.heap.size 3 1 sv S.sp (ints .i64 S.st)
 own:∀ g,sv.ownBlock=some g→g≠M∧g≠CB
 cs:Blk w CB 3 18 18 (ints .i64 S.cs)
section
variable {w0 w w':World} {M CB:Nat} {cv pv sv:Value} {S:Mst}
theorem RM.cells (h:RM w0 w M CB cv pv sv S) :
  (w.cell? ⟨M,0,none⟩=some cv∧w.cell? ⟨M,1,none⟩=some pv∧w.cell? ⟨M,2,none⟩=some sv∧w.cell? ⟨M,3,none⟩=some (.slice (some ⟨CB,0,none⟩) 18 18)∧w.cell? ⟨M,4,none⟩=some (.int .i64 S.pc)) ∧
  w.frozen? ⟨M,2,none⟩=false∧w.frozen? ⟨M,4,none⟩=false :=
 ⟨⟨h.m.cell (j:=0) (by omega),h.m.cell (j:=1) (by omega),h.m.cell (j:=2) (by omega),h.m.cell (j:=3) (by omega),h.m.cell (j:=4) (by omega)⟩,h.m.frozen 2,h.m.frozen 4⟩
theorem Out.other {w w':World} {base:Nat} {e:TypeId} {size:Nat} {v:Value} {n:Nat} {f:Nat→Value} {k:Nat} (h:Out w base e size v n f) (hg:w.grownBy w' (some k)) (hk:∀ g,v.ownBlock=some g→g≠k):Out w' base e size v n f:=by
 obtain ⟨ao,cap,rfl,h2⟩:=h
 refine ⟨ao,cap,rfl,?_⟩
 rcases h2 with h2 | ⟨g,rfl,h4,h5,h6⟩
 ·exact Or.inl h2
 ·exact Or.inr ⟨g,rfl,h4,h5.keep hg (fun e=>hk g rfl (by cases e;rfl)),h6⟩
theorem RM.keep (h:RM w0 w M CB cv pv sv S) (hg:w.grownBy w' none):RM w0 w' M CB cv pv sv S :=
 ⟨grown_trans h.gr hg,h.hM,h.hC,h.ne,h.m.keep hg (by simp),h.st.keep hg (by simp),h.own,h.cs.keep hg (by simp)⟩
theorem RM.setPc (h:RM w0 w M CB cv pv sv S) (pc:Nat):RM w0 (w.setCell ⟨M,4,none⟩ (.int .i64 pc)) M CB cv pv sv ⟨pc,S.sp,S.st,S.cs⟩:=by
 have hg:=grown_setCell w ⟨M,4,none⟩ (.int .i64 pc)
 refine ⟨grown_set h.gr h.hM _,h.hM,h.hC,h.ne,(h.m.set' (j:=4) (by omega) _).congr fun j hj=>?_,h.st.other hg (fun g e=>(h.own g e).1),h.own,h.cs.keep hg (by simp;exact fun e=>h.ne e.symm)⟩
 match j,hj with
 | 0,_=>rfl
 | 1,_=>rfl
 | 2,_=>rfl
 | 3,_=>rfl
 | 4,_=>rfl
theorem RM.setSt (h:RM w0 w M CB cv pv sv S) (sv':Value) (sp:Nat) (st:Nat→Int) (ho:Out w w0.heap.size 3 1 sv' sp (ints .i64 st)) (hown:∀ g,sv'.ownBlock=some g→g≠M∧g≠CB) :
  RM w0 (w.setCell ⟨M,2,none⟩ sv') M CB cv pv sv' ⟨S.pc,sp,st,S.cs⟩:=by
 have hg:=grown_setCell w ⟨M,2,none⟩ sv'
 refine ⟨grown_set h.gr h.hM _,h.hM,h.hC,h.ne,(h.m.set' (j:=2) (by omega) _).congr fun j hj=>?_,ho.other hg (fun g e=>(hown g e).1),hown,h.cs.keep hg (by simp;exact fun e=>h.ne e.symm)⟩
 match j,hj with
 | 0,_=>rfl
 | 1,_=>rfl
 | 2,_=>rfl
 | 3,_=>rfl
 | 4,_=>rfl
theorem RM.setCs (h:RM w0 w M CB cv pv sv S) (i:Nat) (hi:i<18) (v:Int):RM w0 (w.setCell ⟨CB,i,none⟩ (.int .i64 v)) M CB cv pv sv ⟨S.pc,S.sp,S.st,upd S.cs i v⟩:=by
 have hg:=grown_setCell w ⟨CB,i,none⟩ (.int .i64 v)
 refine ⟨grown_set h.gr h.hC _,h.hM,h.hC,h.ne,h.m.keep hg (by simp;exact h.ne),h.st.other hg (fun g e=>(h.own g e).2),h.own,(h.cs.set' hi _).congr fun j hj=>?_⟩
 show (if j=i then Value.int .i64 v else .int .i64 (S.cs j))=.int .i64 (upd S.cs i v j)
 unfold upd;split <;> rfl
end
theorem Out.pop {w:World} {base:Nat} {e:TypeId} {k:IntKind} {v:Value} {n:Nat} {f:Nat→Int} (h:Out w base e 1 v n (ints k f)) (hn:1≤n) :
  ∃ G cap,v=.slice (some ⟨G,0,none⟩) n cap∧n≤cap∧cap≤maxLen∧(∀ j,j<n→w.cell? ⟨G,j,none⟩=some (.int k (f j)))∧∀ m,m≤n→Out w base e 1 (.slice (some ⟨G,0,none⟩) m cap) m (ints k f):=by
 obtain ⟨ao,cap,rfl,h2⟩:=h
 rcases h2 with ⟨_,h0,_⟩ | ⟨g,rfl,h4,h5,h6,h7⟩
 ·omega
 ·exact ⟨g,cap,rfl,h6,h7,fun j hj=>h5.cell (by omega),fun m hm=>⟨_,cap,rfl,Or.inr ⟨g,rfl,h4,h5.less (by omega),by omega,h7⟩⟩⟩
theorem Src.cell {w:World} {k:IntKind} {ao:Option Addr} {n:Nat} {g:Nat→Int} (h:Src w k ao n g) {j:Nat} (hj:j<n):∃ b off,ao=some ⟨b,off,none⟩∧Row w k b off n g:=h (by omega)
theorem RM.slice {w0 w:World} {M CB:Nat} {cv pv sv:Value} {S:Mst} (h:RM w0 w M CB cv pv sv S):∃ ao cap,sv=.slice ao S.sp cap:=by
 obtain ⟨ao,cap,h1,_⟩:=h.st
 exact ⟨ao,cap,h1⟩
theorem shp_bd {c:Int} {s:Shp} (h:shp c=some s):s.wh+s.nb≤4∧s.po≤2∧s.pu≤1:=by
 rcases shp_cases h with ⟨rfl,rfl⟩ | ⟨rfl,rfl⟩ | ⟨rfl,rfl⟩ | ⟨rfl,rfl⟩ | ⟨rfl,rfl⟩ | ⟨rfl,rfl⟩ | ⟨rfl,rfl⟩ | ⟨rfl,rfl⟩ | ⟨rfl,rfl⟩ <;> simp
theorem wrap_nat (k:Nat) (h:k≤9223372036854775807):IntKind.i64.wrap (k:Int)=k:=by rw [IntKind.wrap_i64];omega
end Go.Proofs.YthbcfepbkkbjiaaGreatDoor
namespace Go.Proofs.YthbcfepbkkbjiaaGreatDoor
open Go.RowKit
theorem push_fun (k:IntKind) (f:Nat→Int) (n:Nat) (x:Int) (j:Nat) (hj:j<(n+1)*1):(if j<n*1 then ints k f j else (#[Value.int k x]:Array Value).getD (j-n*1) .nilFunc)=ints k (upd f n x) j:=by
 by_cases h:j<n
 ·rw [if_pos (by omega)]
  show Value.int k (f j)=.int k (upd f n x j)
  unfold upd;rw [if_neg (by omega)]
 ·have e:j=n:=by omega
  subst e
  rw [if_neg (by omega)]
  show (#[Value.int k x]:Array Value).getD (j-j*1) .nilFunc=.int k (upd f j x j)
  rw [show j-j*1=0 by omega]
  unfold upd;rw [if_pos rfl];rfl
theorem wp_push {P:Program} (w w0:World) {o:Oper} {a:Act} {K:Act→World→Prop} {Q:Exit→Act→World→Prop}
  (s x:Operand) (t:TypeId) (ho:o.op=.call { callee:=.builtin .append,args:=#[s,x],argTypes:=#[t,t] })
  (e:TypeId) (i:TypeInfo) (z:Value) (bytes:Nat) (ht:P.underlying t=some (.slice e)) (hi:P.info? e=some i) (hz:i.zero=some z)
  (hsize:i.size=1) (hby:i.bytes=bytes) (hzs:z.cells.size=1)
  (k:IntKind) (v:Value) (n:Nat) (f:Nat→Int) (hs:a.eval s=v) (hv:Out w w0.heap.size e 1 v n (ints k f)) (hgr:w0.grownBy w none)
  (B c:Nat) (X:Int) (te:TypeId) (hx:a.eval x=.slice (some ⟨B,0,none⟩) 1 c) (hB:w.heap[B]?=some (.cells #[.int k X] te (0,0)))
  (h63:n≤100) (hbb:bytes≤100)
  (h:∀ g' cap' w',Out w' w0.heap.size e 1 (.slice (some ⟨g',0,none⟩) (n+1) cap') (n+1) (ints k (upd f n X))→w0.grownBy w' none→w.grownBy w' v.ownBlock→(v.ownBlock=some g'∨w.heap.size≤g') →
   K (a.put o.dst (.slice (some ⟨g',0,none⟩) (n+1) cap')) w'):o.wp P a w K Q:=by
 obtain ⟨ao,cap,rfl,h2⟩:=hv
 have hbytes:(n+1)*bytes≤140737488355328:=by
  have:=Nat.mul_le_mul (show n+1≤101 by omega) hbb
  omega
 refine wp_append_blk w s x t ho e i z 1 bytes ht hi hz hsize hby hzs (by decide) ao n cap (ints k f) hs ?_ B 1 c #[.int k X] te hx hB rfl (by simp [Value.oneCell']) (by decide) (by unfold maxLen;omega) hbytes fun g' cap' w' hb hc hm' hor=>?_
 ·rcases h2 with h2 | ⟨g,h3,h4,h5,h6⟩
  ·exact Or.inl h2
  ·exact Or.inr ⟨g,h3,h5,h6⟩
 ·have hb':=hb.congr fun j hj=>push_fun k f n X j hj
  rcases hor with ⟨_,e1,rfl,hg⟩ | ⟨_,hlt,hg⟩
  ·rcases h2 with ⟨e2,_⟩ | ⟨g,h3,h4,h5,h6⟩
   ·rw [e2] at e1;cases e1
   ·rw [h3] at e1;cases e1
    exact h g' cap' w' ⟨_,cap',rfl,Or.inr ⟨g',rfl,h4,hb',hc,hm'⟩⟩ (grown_new none hgr hg h4) (by rw [h3];exact hg) (Or.inl (by rw [h3];rfl))
  ·exact h g' cap' w' ⟨_,cap',rfl,Or.inr ⟨g',rfl,Nat.le_trans hgr.size hlt,hb',hc,hm'⟩⟩ (grown_trans hgr hg) (grown_weak hg _) (Or.inr hlt)
theorem wpList_push {P:Program} (w w0:World) {ops:Array Oper} {rest:List Oper} {o:Oper} {a:Act} {Q:Exit→Act→World→Prop} (hgd:o.guard=none)
  (s x:Operand) (t:TypeId) (ho:o.op=.call { callee:=.builtin .append,args:=#[s,x],argTypes:=#[t,t] })
  (e:TypeId) (i:TypeInfo) (z:Value) (bytes:Nat) (ht:P.underlying t=some (.slice e)) (hi:P.info? e=some i) (hz:i.zero=some z)
  (hsize:i.size=1) (hby:i.bytes=bytes) (hzs:z.cells.size=1)
  (k:IntKind) (v:Value) (n:Nat) (f:Nat→Int) (hs:a.eval s=v) (hv:Out w w0.heap.size e 1 v n (ints k f)) (hgr:w0.grownBy w none)
  (B c:Nat) (X:Int) (te:TypeId) (hx:a.eval x=.slice (some ⟨B,0,none⟩) 1 c) (hB:w.heap[B]?=some (.cells #[.int k X] te (0,0)))
  (h63:n≤100) (hbb:bytes≤100)
  (h:∀ g' cap' w',Out w' w0.heap.size e 1 (.slice (some ⟨g',0,none⟩) (n+1) cap') (n+1) (ints k (upd f n X))→w0.grownBy w' none→w.grownBy w' v.ownBlock→(v.ownBlock=some g'∨w.heap.size≤g') →
   wpList P ops Q rest (a.put o.dst (.slice (some ⟨g',0,none⟩) (n+1) cap')) w'):wpList P ops Q (o::rest) a w :=
 wpList_plain hgd fun _ hK=>wp_push w w0 s x t ho e i z bytes ht hi hz hsize hby hzs k v n f hs hv hgr B c X te hx hB h63 hbb fun g' cap' w' h2 h3 h4 h5=>hK _ _ (h g' cap' w' h2 h3 h4 h5)
theorem RM.append {w0 w w':World} {M CB:Nat} {cv pv sv:Value} {S:Mst} (h:RM w0 w M CB cv pv sv S) {g' cap' n':Nat} {st':Nat→Int} (hg0:w0.grownBy w' none) (hg:w.grownBy w' sv.ownBlock)
  (ho:Out w' w0.heap.size 3 1 (.slice (some ⟨g',0,none⟩) n' cap') n' (ints .i64 st')) (hor:sv.ownBlock=some g'∨w.heap.size≤g') :
  (w'.cell? ⟨M,2,none⟩=some sv∧w'.frozen? ⟨M,2,none⟩=false)∧RM w0 (w'.setCell ⟨M,2,none⟩ (.slice (some ⟨g',0,none⟩) n' cap')) M CB cv pv (.slice (some ⟨g',0,none⟩) n' cap') ⟨S.pc,n',st',S.cs⟩:=by
 have nM:some M≠sv.ownBlock:=fun e=>(h.own M e.symm).1 rfl
 have nC:some CB≠sv.ownBlock:=fun e=>(h.own CB e.symm).2 rfl
 have hm:=h.m.keep hg nM
 have hc:=h.cs.keep hg nC
 have own':∀ g,(Value.slice (some ⟨g',0,none⟩) n' cap').ownBlock=some g→g≠M∧g≠CB:=by
  intro g e
  have e2:g'=g:=by cases e;rfl
  subst e2
  rcases hor with e | e
  ·exact h.own g' e
  ·have:=h.m.lt;have:=h.cs.lt;exact ⟨by omega,by omega⟩
 refine ⟨⟨hm.cell (j:=2) (by omega),hm.frozen 2⟩,?_⟩
 have hs:=grown_setCell w' ⟨M,2,none⟩ (.slice (some ⟨g',0,none⟩) n' cap')
 refine ⟨grown_set hg0 h.hM _,h.hM,h.hC,h.ne,(hm.set' (j:=2) (by omega) _).congr fun j hj=>?_,ho.other hs (fun g e=>(own' g e).1),own',hc.keep hs (by simp;exact fun e=>h.ne e.symm)⟩
 match j,hj with
 | 0,_=>rfl
 | 1,_=>rfl
 | 2,_=>rfl
 | 3,_=>rfl
 | 4,_=>rfl
theorem RM.drew {w0 w:World} {M CB:Nat} {cv pv sv:Value} {S:Mst} (h:RM w0 w M CB cv pv sv S):RM w0 w.drew M CB cv pv sv S:=h.keep (grown_drew (grown_refl _ _))
theorem RM.drewN {w0 w:World} {M CB:Nat} {cv pv sv:Value} {S:Mst} (h:RM w0 w M CB cv pv sv S) (k:Nat):RM w0 (w.drewN k) M CB cv pv sv S:=h.keep (grown_drewN _ _ _)
theorem RM.allo {w0 w:World} {M CB:Nat} {cv pv sv:Value} {S:Mst} (h:RM w0 w M CB cv pv sv S) (o:Obj):RM w0 (w.alloc o) M CB cv pv sv S:=h.keep (World.grownBy_alloc _ _ none)
end Go.Proofs.YthbcfepbkkbjiaaGreatDoor
