import Derived.ProofKit
import Derived.OpenShut
import Derived.ChangeOld
import Derived.SizedLaws
import Derived.Deep.Slices
import Derived.Test.YthbcfepbkkbjiaaGreatDoorI2
set_option maxRecDepth 100000
namespace Go.Proofs.YthbcfepbkkbjiaaGreatDoor
open Go.ChangeShapes Go.WideShapes Go.ChangeAt Go.RowKit Go.Deep
theorem Tryz.own:ownKnob Tryz.prog.godebug=none:=by kernel_rfl
theorem Tryz.laidOut:laidOutB Tryz.prog=true:=by kernel_rfl
theorem Tryz.cellsByte:Tryz.prog.cellsOf 5=1:=by kernel_rfl
theorem Tryz.cellsInt:Tryz.prog.cellsOf 3=1:=by kernel_rfl
theorem Tryz.cellsInsn:Tryz.prog.cellsOf 63=4:=by kernel_rfl
theorem Tryz.bytesByte:Tryz.prog.bytesOf 5=1:=by kernel_rfl
theorem Tryz.bytesInsn:Tryz.prog.bytesOf 63=32:=by kernel_rfl
section
variable {H:Type} {enc:TypeId × Value→H} {w:World} {base:Nat} {held:Bool}
theorem open_bytes {fuel:Nat} {ao:Option Addr} {n c:Nat} {x:DataW H × List MemPlace} (h:DataW.trod enc Tryz.prog w base (fun _=>true) held fuel 25 [.slice ao n c]=some x) :
  ∃ g,Oct g∧Src w .u8 ao n g∧(n=0∨∃ es sp,x.1=.slice es sp∧n≤es.length+sp.length):=by
 rcases open_ints Tryz.underlying25 Tryz.underlying5 Tryz.cellsByte h with ⟨hcs,_⟩ | ⟨a,l,c',zs,hcs,_,hl,hm,hz,hx,hcell,hwz⟩
 ·simp at hcs
  obtain ⟨rfl,rfl,rfl⟩:=hcs
  exact ⟨fun _=>0,fun _=>(by show (0:Int)≤0∧(0:Int)≤255;decide),fun h=>by omega,Or.inl rfl⟩
 ·simp at hcs hz
  obtain ⟨rfl,rfl,rfl⟩:=hcs
  refine ⟨fun j=>zs.getD j 0,fun j=>?_,fun hp=>?_,Or.inr ⟨_,_,by rw [hx],?_⟩⟩
  ·by_cases hj:j<zs.length
   ·have:=hwz zs[j] (List.getElem_mem hj)
    simp only [Lit.wf,IntKind.min,IntKind.max,IntKind.signed,IntKind.bits,Bool.and_eq_true] at this
    simp [List.getD,hj]
    simp at this
    omega
   ·simp [List.getD,List.getElem?_eq_none (by omega:zs.length≤j)]
  ·obtain ⟨b,off,spot⟩:=a
   have hc0:=hcell 0 (by omega)
   have hspot:spot=none:=by simpa [Addr.add] using World.cell?_spot hc0
   subst hspot
   refine ⟨b,off,rfl,fun j hj=>?_⟩
   have hc:=hcell j (by omega)
   have hadd:(⟨b,off,none⟩:Addr).add j=⟨b,off+j,none⟩:=by unfold Addr.add;split <;> simp_all
   rw [hadd] at hc
   exact hc
  ·simp [lits,hz]
   omega
theorem open_bytes_cap {fuel:Nat} {ao:Option Addr} {n c:Nat} {x:DataW H × List MemPlace} (h:DataW.trod enc Tryz.prog w base (fun _=>true) held fuel 25 [.slice ao n c]=some x):n≤c:=by
 rcases open_ints Tryz.underlying25 Tryz.underlying5 Tryz.cellsByte h with ⟨hcs,_⟩ | ⟨a,l,c',zs,hcs,_,hl,hm,hz,hx,hcell,hwz⟩
 ·simp at hcs
  omega
 ·simp at hcs
  omega
def Fits64 (c:Int):Prop:=-9223372036854775808≤c∧c≤9223372036854775807
theorem fits64_of {c:Int} (h:(Lit.int .i64 c).wf=true):Fits64 c:=bounds_i64 h
theorem insn_cells {fuel:Nat} {spare:Nat→Bool} {cs:List Value} {x:DataW H × List MemPlace} (h:DataW.trod enc Tryz.prog w base spare held fuel 63 cs=some x):∃ q:Int × Int × Int × Int,cs=[.int .i64 q.1,.int .i64 q.2.1,.int .i64 q.2.2.1,.int .i64 q.2.2.2]:=by
 obtain ⟨xs,m,_,_,hl,hxl,hf⟩:=DataW.trod_struct Tryz.underlying63 h
 rw [Tryz.cellsInsn] at hl
 match cs,hl,xs,hxl with
 | [v0,v1,v2,v3],_,[y0,y1,y2,y3],_ =>
  have g0:=hf 0 _ rfl
  have g1:=hf 1 _ rfl
  have g2:=hf 2 _ rfl
  have g3:=hf 3 _ rfl
  simp [Tryz.cellsInt] at g0 g1 g2 g3
  obtain ⟨a,e0,_,_⟩:=DataW.trod_int Tryz.underlying3 g0
  obtain ⟨b,e1,_,_⟩:=DataW.trod_int Tryz.underlying3 g1
  obtain ⟨c,e2,_,_⟩:=DataW.trod_int Tryz.underlying3 g2
  obtain ⟨d,e3,_,_⟩:=DataW.trod_int Tryz.underlying3 g3
  simp at e0 e1 e2 e3
  subst e0 e1 e2 e3
  exact ⟨(a,b,c,d),rfl⟩
theorem insn_wf {fuel:Nat} {spare:Nat→Bool} {a b c d:Int} {x:DataW H × List MemPlace} (h:DataW.trod enc Tryz.prog w base spare held fuel 63 [.int .i64 a,.int .i64 b,.int .i64 c,.int .i64 d]=some x):Fits64 a∧Fits64 b∧Fits64 c∧Fits64 d:=by
 obtain ⟨xs,m,_,_,hl,hxl,hf⟩:=DataW.trod_struct Tryz.underlying63 h
 obtain ⟨y0,y1,y2,y3,rfl⟩:∃ y0 y1 y2 y3,xs=[y0,y1,y2,y3]:=by
  match xs,hxl with
  | [y0,y1,y2,y3],_=>exact ⟨y0,y1,y2,y3,rfl⟩
 have g0:=hf 0 _ rfl
 have g1:=hf 1 _ rfl
 have g2:=hf 2 _ rfl
 have g3:=hf 3 _ rfl
 simp [Tryz.cellsInt] at g0 g1 g2 g3
 obtain ⟨a',e0,_,w0⟩:=DataW.trod_int Tryz.underlying3 g0
 obtain ⟨b',e1,_,w1⟩:=DataW.trod_int Tryz.underlying3 g1
 obtain ⟨c',e2,_,w2⟩:=DataW.trod_int Tryz.underlying3 g2
 obtain ⟨d',e3,_,w3⟩:=DataW.trod_int Tryz.underlying3 g3
 simp at e0 e1 e2 e3
 subst e0 e1 e2 e3
 exact ⟨fits64_of w0,fits64_of w1,fits64_of w2,fits64_of w3⟩
theorem open_insns {fuel:Nat} {v:Value} {x:DataW H × List MemPlace} (h:DataW.trod enc Tryz.prog w base (fun _=>true) held fuel 22 [v]=some x) :
  ∃ ao n c q,v=.slice ao n c∧SrcI w ao n q∧(∀ j,j<4*n→Fits64 (q j))∧(n=0∨∃ es sp,x.1=.slice es sp∧n≤es.length+sp.length):=by
 rcases open_slice Tryz.underlying22 h with ⟨hcs,_⟩ | ⟨a,len,cap,m,k,D,Pl,hcs,_,hl,hm,hmm,hx,hel⟩
 ·simp at hcs
  subst hcs
  exact ⟨none,0,0,fun _=>0,rfl,fun h=>by omega,fun j hj=>by omega,Or.inl rfl⟩
 ·simp at hcs hmm
  subst hcs
  obtain ⟨f,hf⟩:=choose_lt (α:=Int × Int × Int × Int) (n:=len) (p:=fun i q=>(Fits64 q.1∧Fits64 q.2.1∧Fits64 q.2.2.1∧Fits64 q.2.2.2)∧w.cell? (a.add (4*i))=some (.int .i64 q.1)∧w.cell? (a.add (4*i+1))=some (.int .i64 q.2.1)∧w.cell? (a.add (4*i+2))=some (.int .i64 q.2.2.1)∧w.cell? (a.add (4*i+3))=some (.int .i64 q.2.2.2)) (fun i hi=>by
   obtain ⟨cs',h1,h2⟩:=hel i (by omega)
   obtain ⟨q,rfl⟩:=insn_cells h2
   have hq:=insn_wf h2
   rw [Tryz.cellsInsn,Nat.mul_comm] at h1
   obtain ⟨_,_,hc⟩:=World.cells?_some h1
   have e0:=hc 0 (by omega)
   have e1:=hc 1 (by omega)
   have e2:=hc 2 (by omega)
   have e3:=hc 3 (by omega)
   rw [Deep.add_add] at e0 e1 e2 e3
   exact ⟨q,hq,by simpa using e0,by simpa using e1,by simpa using e2,by simpa using e3⟩)
  refine ⟨some a,len,cap,fun j=>if j%4=0 then (f (j/4)).1 else if j%4=1 then (f (j/4)).2.1 else if j%4=2 then (f (j/4)).2.2.1 else (f (j/4)).2.2.2,rfl,fun hp=>?_,fun j hj=>?_,Or.inr ⟨_,_,by rw [hx],by simp⟩⟩
  rotate_left
  ·obtain ⟨⟨i0,i1,i2,i3⟩,_⟩:=hf (j/4) (by omega)
   dsimp only
   split
   ·exact i0
   ·split
    ·exact i1
    ·split
     ·exact i2
     ·exact i3
  obtain ⟨b,off,spot⟩:=a
  have hspot:spot=none:=by simpa [Addr.add] using World.cell?_spot (hf 0 hp).2.1
  subst hspot
  refine ⟨b,off,rfl,fun j hj=>?_⟩
  have hadd:∀ j,(⟨b,off,none⟩:Addr).add j=⟨b,off+j,none⟩:=fun j=>by unfold Addr.add;split <;> simp_all
  obtain ⟨_,e0,e1,e2,e3⟩:=hf (j/4) (by omega)
  rw [hadd] at e0 e1 e2 e3
  dsimp only
  by_cases h0:j%4=0
  ·rw [if_pos h0,← e0,show 4*(j/4)=j by omega]
  ·rw [if_neg h0]
   by_cases h1:j%4=1
   ·rw [if_pos h1,← e1,show 4*(j/4)+1=j by omega]
   ·rw [if_neg h1]
    by_cases h2:j%4=2
    ·rw [if_pos h2,← e2,show 4*(j/4)+2=j by omega]
    ·rw [if_neg h2,← e3,show 4*(j/4)+3=j by omega]
end
end Go.Proofs.YthbcfepbkkbjiaaGreatDoor
