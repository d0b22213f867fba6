import Derived.Test.YthbcfepbkkbjiaaGreatDoorI3
set_option linter.unusedSimpArgs false
set_option linter.unusedVariables false
namespace Go.Proofs.YthbcfepbkkbjiaaGreatDoor
open Go.RowKit
def b4 (k:Int):List Int:=[k/16777216%256,k/65536%256,k/256%256,k%256]
def b2 (k:Int):List Int:=[k/256%256,k%256]
def pW (k:Int):List Int:=[1,k/16777216%256,k/65536%256,k/256%256,k%256]
def pC (n:Int):List Int:=[2,n]
def oC (n:Int):List Int:=[3,n]
theorem len_W (k:Int):(pW k).length=5:=rfl
theorem len_C (k:Int):(pC k).length=2:=rfl
theorem len_O (k:Int):(oC k).length=2:=rfl
theorem len_b2 (k:Int):(b2 k).length=2:=rfl
def piece (r:KR) (k d1 d2:Int):List Int :=
 if r.kind=1 then (if r.x=true then pC 17 else pW 0)++(pW k++([5,r.n]++oC 16))
 else if r.kind=5 then pW 0++(pW k++([5,1]++(pW 15++([4,6]++(pW 4++([4,2]++oC 17))))))
 else if r.kind=2 then pW k++oC (if r.x=true then 17 else 16)
 else if r.kind=3 then pC k++oC (if r.x=true then 17 else 16)
 else if r.kind=4 then [6]++oC (if r.x=true then 17 else 16)
 else if r.kind=6 then pC (if r.x=true then 17 else 16)++oC k
 else if r.kind=7 then pC (if r.x=true then 16 else 17)++oC (if r.x=true then 17 else 16)
 else if r.kind=8 then pC 16++((if r.x=true then pC 17 else pW k)++([4,r.o]++oC 16))
 else if r.kind=9 then pW 0++(pC 16++([4,1]++oC 16))
 else if r.kind=10 then [7]++b2 d2
 else if r.kind=11 then pC 16++((if r.x=true then pC 17 else pW k)++(([8,r.o]++b2 d1)++([7]++b2 d2)))
 else (if r.x=true then pC 16 else pW k) ++ [9]
def plen (r:KR):Nat:=(piece r 0 0 0).length
theorem ite_len {c:Prop} [Decidable c] {a b a' b':List Int} (h1:a.length=a'.length) (h2:b.length=b'.length):(if c then a else b).length=(if c then a' else b').length:=by
 by_cases h:c
 ·rw [if_pos h,if_pos h,h1]
 ·rw [if_neg h,if_neg h,h2]
theorem app_len {a b a' b':List Int} (h1:a.length=a'.length) (h2:b.length=b'.length):(a++b).length=(a'++b').length:=by
 rw [List.length_append,List.length_append,h1,h2]
theorem piece_len (r:KR) (k d1 d2:Int):(piece r k d1 d2).length=plen r:=by
 unfold plen piece
 repeat' (first | apply ite_len | apply app_len | exact rfl)
def start (q:Nat→Int):Nat→Nat
 | 0=>0
 | i+1=>start q i+plen (kd (q (4*i)))
theorem start_le (q:Nat→Int) (i:Nat):∀ d,start q i≤start q (i+d)
 | 0=>Nat.le_refl _
 | d+1=>Nat.le_trans (start_le q i d) (Nat.le_add_right _ _)
theorem start_mono (q:Nat→Int) {i j:Nat} (h:i≤j):start q i≤start q j:=by
 obtain ⟨d,rfl⟩:=Nat.le.dest h
 exact start_le q i d
theorem plen_le (C:Int):plen (kd C)≤28:=kd_all (fun r=>plen r≤28) (by decide) C (by show (pW 0 ++ [9]).length≤28;decide)
theorem start_bd (q:Nat→Int):∀ i,start q i≤28*i
 | 0=>Nat.le_refl _
 | i+1=>by have:=start_bd q i;have:=plen_le (q (4*i));unfold start;omega
def dist1 (q:Nat→Int) (i:Nat):Int:=(start q (i+1+(q (4*i+1)).toNat):Int)-start q (i+1)+3
def dist2 (q:Nat→Int) (i:Nat):Int:=(start q (i+1+(if (kd (q (4*i))).kind=10 then q (4*i+3) else q (4*i+2)).toNat):Int)-start q (i+1)
def fp (q:Nat→Int) (i:Nat):List Int:=piece (kd (q (4*i))) (q (4*i+3)) (dist1 q i) (dist2 q i)
def At (g:Nat→Int) (pc:Nat) (l:List Int):Prop:=∀ r,r<l.length→g (pc+r)=l.getD r 0
theorem At.app {g:Nat→Int} {pc:Nat} {l l':List Int} (h:At g pc (l++l')):At g pc l∧At g (pc+l.length) l':=by
 refine ⟨fun r hr=>?_,fun r hr=>?_⟩
 ·rw [h r (by simp;omega)]
  simp [List.getD_eq_getElem?_getD,List.getElem?_append_left hr]
 ·rw [Nat.add_assoc,h (l.length+r) (by simp;omega)]
  simp [List.getD_eq_getElem?_getD,List.getElem?_append_right]
def CodeOf (q:Nat→Int) (n:Nat) (g:Nat→Int):Prop:=∀ i,i<n→At g (start q i) (fp q i)
def Goes (g:Nat→Int) (N:Nat) (p:Nat→Int) (m c:Nat) (M M':Mst):Prop:=∀ f s,execM g N p m (f+c) s M=execM g N p m f (s+c) M'
def Fins (g:Nat→Int) (N:Nat) (p:Nat→Int) (m c:Nat) (M:Mst) (v:Int):Prop:=∀ f s,execM g N p m (f+c) s M=(v,s+c,0)
section
variable {g p:Nat→Int} {N m:Nat}
theorem Goes.then {c d:Nat} {M M' M'':Mst} (h:Goes g N p m c M M') (h':Goes g N p m d M' M''):Goes g N p m (c+d) M M'':=fun f s=>by
 rw [show f+(c+d)=(f+d)+c by omega,h,h',Nat.add_assoc]
theorem Goes.fin {c d:Nat} {M M':Mst} {v:Int} (h:Goes g N p m c M M') (h':Fins g N p m d M' v):Fins g N p m (c+d) M v:=fun f s=>by
 rw [show f+(c+d)=(f+d)+c by omega,h,h',Nat.add_assoc]
theorem goes_one {M:Mst} (hf:fitB g N M=true) (hd:(stepM g p m M).done=false):Goes g N p m 1 M (stepM g p m M).S:=fun f s=>by
 show (if fitB g N M=true then _ else _)=_
 rw [if_pos hf,if_neg (by simp [hd])]
theorem fins_one {M:Mst} (hf:fitB g N M=true) (hd:(stepM g p m M).done=true):Fins g N p m 1 M (stepM g p m M).v:=fun f s=>by
 show (if fitB g N M=true then _ else _)=_
 rw [if_pos hf,if_pos hd]
theorem fit_is {M:Mst} {s:Shp} (h:shp (g M.pc)=some s) (h1:M.pc+1+s.wh+s.nb≤N) (h2:s.po≤M.sp) (h3:M.sp-s.po+s.pu≤8) (h4:knw (g M.pc) (g (M.pc+1))=true):fitB g N M=true:=by
 rw [fit_some (by omega) h]
 simp [h1,h2,h3,h4]
variable {pc sp:Nat} {st cs:Nat→Int}
theorem ex_W {k:Int} (h:At g pc (pW k)) (hk:U32 k) (hN:pc+5≤N) (hs:sp<8):Goes g N p m 1 ⟨pc,sp,st,cs⟩ ⟨pc+5,sp+1,upd st sp k,cs⟩:=by
 have h0:g pc=1:=h 0 (by simp [pW,pC,oC,b2])
 have e:be g (pc+1) 4=k:=by
  have h1:g (pc+1)=k/16777216%256:=h 1 (by simp [pW,pC,oC,b2])
  have h2:g (pc+2)=k/65536%256:=h 2 (by simp [pW,pC,oC,b2])
  have h3:g (pc+3)=k/256%256:=h 3 (by simp [pW,pC,oC,b2])
  have h4:g (pc+4)=k%256:=h 4 (by simp [pW,pC,oC,b2])
  simp only [be,Nat.add_zero]
  rw [show pc+1+1=pc+2 by omega,show pc+1+2=pc+3 by omega,show pc+1+3=pc+4 by omega,h1,h2,h3,h4]
  obtain ⟨k0,k1⟩:=hk
  omega
 have S:stepM g p m ⟨pc,sp,st,cs⟩=⟨⟨pc+5,sp+1,upd st sp k,cs⟩,0,false⟩:=by
  simp only [stepM,h0,if_true,Mst.push,e]
 have:=goes_one (g:=g) (N:=N) (p:=p) (m:=m) (M:=⟨pc,sp,st,cs⟩) (fit_is (s:=⟨0,4,0,1⟩) (by rw [h0];rfl) (by dsimp only;omega) (by dsimp only;omega) (by dsimp only;omega) (by rw [h0];rfl)) (by rw [S])
 rwa [S] at this
theorem ex_C {n:Int} (h:At g pc (pC n)) (hn:0≤n∧n≤17) (hN:pc+2≤N) (hs:sp<8):Goes g N p m 1 ⟨pc,sp,st,cs⟩ ⟨pc+2,sp+1,upd st sp (cs n.toNat),cs⟩:=by
 have h0:g pc=2:=h 0 (by simp [pW,pC,oC,b2])
 have h1:g (pc+1)=n:=h 1 (by simp [pW,pC,oC,b2])
 have S:stepM g p m ⟨pc,sp,st,cs⟩=⟨⟨pc+2,sp+1,upd st sp (cs n.toNat),cs⟩,0,false⟩:=by
  simp only [stepM,h0,h1,Int.reduceEq,if_true,if_false,Mst.push]
 have:=goes_one (g:=g) (N:=N) (p:=p) (m:=m) (M:=⟨pc,sp,st,cs⟩) (fit_is (s:=⟨1,0,0,1⟩) (by rw [h0];rfl) (by dsimp only;omega) (by dsimp only;omega) (by dsimp only;omega) (by dsimp only;rw [h0,h1];simp [knw,hn.2])) (by rw [S])
 rwa [S] at this
theorem ex_O {n:Int} (h:At g pc (oC n)) (hn:0≤n∧n≤17) (hN:pc+2≤N) (hs:sp<8):Goes g N p m 1 ⟨pc,sp+1,st,cs⟩ ⟨pc+2,sp,st,upd cs n.toNat (st sp)⟩:=by
 have h0:g pc=3:=h 0 (by simp [pW,pC,oC,b2])
 have h1:g (pc+1)=n:=h 1 (by simp [pW,pC,oC,b2])
 have S:stepM g p m ⟨pc,sp+1,st,cs⟩=⟨⟨pc+2,sp,st,upd cs n.toNat (st sp)⟩,0,false⟩:=by
  simp only [stepM,h0,h1,Int.reduceEq,if_true,if_false,Nat.add_sub_cancel]
 have:=goes_one (g:=g) (N:=N) (p:=p) (m:=m) (M:=⟨pc,sp+1,st,cs⟩) (fit_is (s:=⟨1,0,1,0⟩) (by rw [h0];rfl) (by dsimp only;omega) (by dsimp only;omega) (by dsimp only;omega) (by dsimp only;rw [h0,h1];simp [knw,hn.2])) (by rw [S])
 rwa [S] at this
theorem ex_L (h:At g pc [6]) (hN:pc+1≤N) (hs:sp<8):Goes g N p m 1 ⟨pc,sp,st,cs⟩ ⟨pc+1,sp+1,upd st sp m,cs⟩:=by
 have h0:g pc=6:=h 0 (by simp [pW,pC,oC,b2])
 have S:stepM g p m ⟨pc,sp,st,cs⟩=⟨⟨pc+1,sp+1,upd st sp m,cs⟩,0,false⟩:=by
  simp only [stepM,h0,Int.reduceEq,if_true,if_false,Mst.push]
 have:=goes_one (g:=g) (N:=N) (p:=p) (m:=m) (M:=⟨pc,sp,st,cs⟩) (fit_is (s:=⟨0,0,0,1⟩) (by rw [h0];rfl) (by dsimp only;omega) (by dsimp only;omega) (by dsimp only;omega) (by dsimp only;rw [h0];simp [knw])) (by rw [S])
 rwa [S] at this
theorem step_4 {o:Int} (h:At g pc [4,o]):stepM g p m ⟨pc,sp+2,st,cs⟩=⟨⟨pc+2,sp+1,upd st sp (opr o (st sp) (st (sp+1))),cs⟩,0,div0 o (st (sp+1))⟩:=by
 have h0:g pc=4:=h 0 (by simp [pW,pC,oC,b2])
 have h1:g (pc+1)=o:=h 1 (by simp [pW,pC,oC,b2])
 simp only [stepM,h0,h1,Int.reduceEq,if_true,if_false,show sp+2-1=sp+1 by omega,show sp+2-2=sp by omega]
theorem fit_4 {o:Int} (h:At g pc [4,o]) (ho:0≤o∧o≤9) (hN:pc+2≤N) (hs:sp<7):fitB g N ⟨pc,sp+2,st,cs⟩=true:=by
 have h0:g pc=4:=h 0 (by simp [pW,pC,oC,b2])
 have h1:g (pc+1)=o:=h 1 (by simp [pW,pC,oC,b2])
 exact fit_is (s:=⟨1,0,2,1⟩) (by rw [h0];rfl) (by dsimp only;omega) (by dsimp only;omega) (by dsimp only;omega) (by dsimp only;rw [h0,h1];simp [knw,ho.2])
theorem ex_R {o:Int} (h:At g pc [4,o]) (ho:0≤o∧o≤9) (hN:pc+2≤N) (hs:sp<7) (hd:div0 o (st (sp+1))=false) :
  Goes g N p m 1 ⟨pc,sp+2,st,cs⟩ ⟨pc+2,sp+1,upd st sp (opr o (st sp) (st (sp+1))),cs⟩:=by
 have:=goes_one (g:=g) (N:=N) (p:=p) (m:=m) (fit_4 (st:=st) (cs:=cs) h ho hN hs) (by rw [step_4 h];exact hd)
 rwa [step_4 h] at this
theorem ex_R0 {o:Int} (h:At g pc [4,o]) (ho:0≤o∧o≤9) (hN:pc+2≤N) (hs:sp<7) (hd:div0 o (st (sp+1))=true) :
  Fins g N p m 1 ⟨pc,sp+2,st,cs⟩ 0:=by
 have:=fins_one (g:=g) (N:=N) (p:=p) (m:=m) (fit_4 (st:=st) (cs:=cs) h ho hN hs) (by rw [step_4 h];exact hd)
 rwa [step_4 h] at this
theorem fit_5 {o:Int} (h:At g pc [5,o]) (ho:o=1∨o=2∨o=4) (hN:pc+2≤N) (hs:sp<7):fitB g N ⟨pc,sp+2,st,cs⟩=true:=by
 have h0:g pc=5:=h 0 (by simp [pW,pC,oC,b2])
 have h1:g (pc+1)=o:=h 1 (by simp [pW,pC,oC,b2])
 exact fit_is (s:=⟨1,0,2,1⟩) (by rw [h0];rfl) (by dsimp only;omega) (by dsimp only;omega) (by dsimp only;omega) (by dsimp only;rw [h0,h1];simp [knw,ho])
theorem ex_B {o:Int} (h:At g pc [5,o]) (ho:o=1∨o=2∨o=4) (hN:pc+2≤N) (hs:sp<7) (hd:(st sp+st (sp+1)).toNat+o.toNat≤m) :
  Goes g N p m 1 ⟨pc,sp+2,st,cs⟩ ⟨pc+2,sp+1,upd st sp (be p (st sp+st (sp+1)).toNat o.toNat),cs⟩:=by
 have h0:g pc=5:=h 0 (by simp [pW,pC,oC,b2])
 have h1:g (pc+1)=o:=h 1 (by simp [pW,pC,oC,b2])
 have S:stepM g p m ⟨pc,sp+2,st,cs⟩=⟨⟨pc+2,sp+1,upd st sp (be p (st sp+st (sp+1)).toNat o.toNat),cs⟩,0,false⟩:=by
  simp only [stepM,h0,h1,Int.reduceEq,if_true,if_false,show sp+2-1=sp+1 by omega,show sp+2-2=sp by omega,if_pos hd]
 have:=goes_one (g:=g) (N:=N) (p:=p) (m:=m) (fit_5 (st:=st) (cs:=cs) h ho hN hs) (by rw [S])
 rwa [S] at this
theorem ex_B0 {o:Int} (h:At g pc [5,o]) (ho:o=1∨o=2∨o=4) (hN:pc+2≤N) (hs:sp<7) (hd:¬ (st sp+st (sp+1)).toNat+o.toNat≤m) :
  Fins g N p m 1 ⟨pc,sp+2,st,cs⟩ 0:=by
 have h0:g pc=5:=h 0 (by simp [pW,pC,oC,b2])
 have h1:g (pc+1)=o:=h 1 (by simp [pW,pC,oC,b2])
 have S:stepM g p m ⟨pc,sp+2,st,cs⟩=⟨⟨pc+2,sp+1,upd st sp 0,cs⟩,0,true⟩:=by
  simp only [stepM,h0,h1,Int.reduceEq,if_true,if_false,show sp+2-1=sp+1 by omega,show sp+2-2=sp by omega,if_neg hd]
 have:=fins_one (g:=g) (N:=N) (p:=p) (m:=m) (fit_5 (st:=st) (cs:=cs) h ho hN hs) (by rw [S])
 rwa [S] at this
theorem ex_G {d:Int} (h:At g pc ([7]++b2 d)) (hd:0≤d∧d<65536) (hN:pc+3≤N) (hs:sp≤8):Goes g N p m 1 ⟨pc,sp,st,cs⟩ ⟨pc+3+d.toNat,sp,st,cs⟩:=by
 have h0:g pc=7:=h 0 (by simp [pW,pC,oC,b2])
 have h1:g (pc+1)=d/256%256:=h 1 (by simp [pW,pC,oC,b2])
 have h2:g (pc+2)=d%256:=h 2 (by simp [pW,pC,oC,b2])
 have e:be g (pc+1) 2=d:=by
  simp only [be,Nat.add_zero]
  rw [show pc+1+1=pc+2 by omega,h1,h2];omega
 have S:stepM g p m ⟨pc,sp,st,cs⟩=⟨⟨pc+3+d.toNat,sp,st,cs⟩,0,false⟩:=by
  simp only [stepM,h0,Int.reduceEq,if_true,if_false,e]
 have:=goes_one (g:=g) (N:=N) (p:=p) (m:=m) (M:=⟨pc,sp,st,cs⟩) (fit_is (s:=⟨0,2,0,0⟩) (by rw [h0];rfl) (by dsimp only;omega) (by dsimp only;omega) (by dsimp only;omega) (by dsimp only;rw [h0];simp [knw])) (by rw [S])
 rwa [S] at this
theorem ex_A {o d:Int} (h:At g pc ([8,o]++b2 d)) (ho:0≤o∧o≤3) (hd:0≤d∧d<65536) (hN:pc+4≤N) (hs:sp≤6):Goes g N p m 1 ⟨pc,sp+2,st,cs⟩ ⟨pc+4+(if askv o (st sp) (st (sp+1))=true then d.toNat else 0),sp,st,cs⟩:=by
 have h0:g pc=8:=h 0 (by simp [pW,pC,oC,b2])
 have h1:g (pc+1)=o:=h 1 (by simp [pW,pC,oC,b2])
 have h2:g (pc+2)=d/256%256:=h 2 (by simp [pW,pC,oC,b2])
 have h3:g (pc+3)=d%256:=h 3 (by simp [pW,pC,oC,b2])
 have e:be g (pc+2) 2=d:=by
  simp only [be,Nat.add_zero]
  rw [show pc+2+1=pc+3 by omega,h2,h3];omega
 have S:stepM g p m ⟨pc,sp+2,st,cs⟩=⟨⟨pc+4+(if askv o (st sp) (st (sp+1))=true then d.toNat else 0),sp,st,cs⟩,0,false⟩:=by
  simp only [stepM,h0,h1,Int.reduceEq,if_true,if_false,e,show sp+2-1=sp+1 by omega,show sp+2-2=sp by omega]
 have:=goes_one (g:=g) (N:=N) (p:=p) (m:=m) (M:=⟨pc,sp+2,st,cs⟩) (fit_is (s:=⟨1,2,2,0⟩) (by rw [h0];rfl) (by dsimp only;omega) (by dsimp only;omega) (by dsimp only;omega) (by dsimp only;rw [h0,h1];simp [knw,ho.2])) (by rw [S])
 rwa [S] at this
theorem ex_S (h:At g pc [9]) (hN:pc+1≤N) (hs:sp<8):Fins g N p m 1 ⟨pc,sp+1,st,cs⟩ (st sp):=by
 have h0:g pc=9:=h 0 (by simp [pW,pC,oC,b2])
 have S:stepM g p m ⟨pc,sp+1,st,cs⟩=⟨⟨pc+1,sp,st,cs⟩,st sp,true⟩:=by
  simp only [stepM,h0,Int.reduceEq,if_false,Nat.add_sub_cancel]
 have:=fins_one (g:=g) (N:=N) (p:=p) (m:=m) (M:=⟨pc,sp+1,st,cs⟩) (fit_is (s:=⟨0,0,1,0⟩) (by rw [h0];rfl) (by dsimp only;omega) (by dsimp only;omega) (by dsimp only;omega) (by dsimp only;rw [h0];simp [knw])) (by rw [S])
 rwa [S] at this
end
end Go.Proofs.YthbcfepbkkbjiaaGreatDoor
namespace Go.Proofs.YthbcfepbkkbjiaaGreatDoor
open Go.RowKit
structure Cor (q:Nat→Int) (S:Flt) (M:Mst):Prop where
 pc:M.pc=start q S.pc
 sp:M.sp=0
 cs:∀ j,j<16→M.cs j=S.cs j
 a:M.cs 16=S.a
 x:M.cs 17=S.x
theorem upd_same (f:Nat→Int) (i:Nat) (v:Int):upd f i v i=v:=by simp [upd]
theorem upd_other (f:Nat→Int) {i j:Nat} (v:Int) (h:j≠i):upd f i v j=f j:=by simp [upd,h]
theorem and_low {v:Int} (h:0≤v∧v≤255):bits .and .u32 v 15=v%16:=by
 obtain ⟨n,rfl⟩:∃ n:Nat,v=n:=⟨v.toNat,by omega⟩
 rw [show (15:Int)=((15:Nat):Int) from rfl,(and_nat n 15 (by omega) (by decide)).1,show 15=2 ^ 4-1 from rfl,Nat.and_two_pow_sub_one_eq_mod]
 omega
section
variable {q g p:Nat→Int} {n N m:Nat} {S:Flt} {M:Mst}
def Does (q g p:Nat→Int) (N m:Nat) (R:Fres) (M:Mst):Prop :=
 (R.done=true∧∃ c,1≤c∧c≤8∧Fins g N p m c M R.v)∨(R.done=false∧∃ c M',1≤c∧c≤8∧Goes g N p m c M M'∧Cor q R.S M')
theorem Does.go {R:Fres} {F:Flt} {c:Nat} {M':Mst} (hE:R=⟨F,0,false⟩) (h:Goes g N p m c M M') (h1:1≤c) (h8:c≤8) (hC:Cor q F M'):Does q g p N m R M:=by
 subst hE;exact Or.inr ⟨rfl,c,M',h1,h8,h,hC⟩
theorem Does.fin {R:Fres} {F:Flt} {v:Int} {c:Nat} (hE:R=⟨F,v,true⟩) (h:Fins g N p m c M v) (h1:1≤c) (h8:c≤8):Does q g p N m R M:=by
 subst hE;exact Or.inl ⟨rfl,c,h1,h8,h⟩
theorem does_any (h:Good q n) (hn:n≤256) (hp:Oct p) (hm:m≤2000) (hI:FInv n S) (hc:CodeOf q n g) (hN:N=start q n) (hC:Cor q S M):Does q g p N m (flt q p m S) M:=by
 obtain ⟨pc,a,x,cs⟩:=S
 obtain ⟨mp,sp,st,ms⟩:=M
 obtain ⟨c1,c2,c3,c4,c5⟩:=hC
 obtain ⟨i1,i2,i3,i4⟩:=hI
 dsimp only at *
 obtain ⟨g1,g2,g3,g4,g5⟩:=h.at i1
 obtain ⟨r1,r2,r3,r4,r5⟩:=kd_range _ g1
 have z1:=h.num (4*pc+1)
 have z2:=h.num (4*pc+2)
 have z3:=h.num (4*pc+3)
 have u3:=num_u32 h.num (4*pc+3)
 subst c1 c2
 have hA:=hc pc i1
 have hL:start q pc+plen (kd (q (4*pc)))=start q (pc+1):=rfl
 have hE:start q (pc+1)≤N:=by rw [hN];exact start_mono q (by omega)
 have hl:(fp q pc).length=plen (kd (q (4*pc))):=piece_len _ _ _ _
 have hB:start q n≤28*n:=start_bd q n
 have d1:(kd (q (4*pc))).kind=11→0≤dist1 q pc∧dist1 q pc<65536∧(start q (pc+1):Int)-3+dist1 q pc=start q (pc+1+(q (4*pc+1)).toNat):=fun e=>by
  have l1:start q (pc+1)≤start q (pc+1+(q (4*pc+1)).toNat):=start_mono q (by omega)
  have l2:start q (pc+1+(q (4*pc+1)).toNat)≤start q n:=start_mono q (by have:=(g4 e).1;omega)
  unfold dist1
  omega
 have d2:(kd (q (4*pc))).kind=11→0≤dist2 q pc∧dist2 q pc<65536∧(start q (pc+1):Int)+dist2 q pc=start q (pc+1+(q (4*pc+2)).toNat):=fun e=>by
  have l1:start q (pc+1)≤start q (pc+1+(q (4*pc+2)).toNat):=start_mono q (by omega)
  have l2:start q (pc+1+(q (4*pc+2)).toNat)≤start q n:=start_mono q (by have:=(g4 e).2;omega)
  unfold dist2
  rw [if_neg (by omega)]
  omega
 have d3:(kd (q (4*pc))).kind=10→0≤dist2 q pc∧dist2 q pc<65536∧(start q (pc+1):Int)+dist2 q pc=start q (pc+1+(q (4*pc+3)).toNat):=fun e=>by
  have l1:start q (pc+1)≤start q (pc+1+(q (4*pc+3)).toNat):=start_mono q (by omega)
  have l2:start q (pc+1+(q (4*pc+3)).toNat)≤start q n:=start_mono q (by have:=(g3 e);omega)
  unfold dist2
  rw [if_pos e]
  omega
 have hk:(kd (q (4*pc))).kind=1∨(kd (q (4*pc))).kind=2∨(kd (q (4*pc))).kind=3∨(kd (q (4*pc))).kind=4∨(kd (q (4*pc))).kind=5∨(kd (q (4*pc))).kind=6∨(kd (q (4*pc))).kind=7∨(kd (q (4*pc))).kind=8∨(kd (q (4*pc))).kind=9∨(kd (q (4*pc))).kind=10∨(kd (q (4*pc))).kind=11∨(kd (q (4*pc))).kind=12:=by omega
 unfold fp at hA hl
 generalize hs:start q pc=s at *
 generalize hs1:start q (pc+1)=s1 at *
 rcases hk with hk | hk | hk | hk | hk | hk | hk | hk | hk | hk | hk | hk
 ·cases hx:(kd (q (4*pc))).x with
  | false =>
   simp only [piece,hk,hx,Int.reduceEq,if_true,if_false,Bool.false_eq_true] at hA hl
   obtain ⟨A1,hA⟩:=hA.app
   obtain ⟨A2,hA⟩:=hA.app
   obtain ⟨A3,A4⟩:=hA.app
   simp only [List.length_append,len_W,len_C,len_O,len_b2,List.length_cons,List.length_nil] at A1 A2 A3 A4 hl
   have ho:=r3 hk
   by_cases hq:(q (4*pc+3)).toNat+(kd (q (4*pc))).n.toNat≤m
   ·have E1:=ex_W (g:=g) (N:=N) (p:=p) (m:=m) (sp:=0) (st:=st) (cs:=ms) (k:=0) A1 ⟨by decide,by decide⟩ (by omega) (by omega)
    have E2:=ex_W (g:=g) (N:=N) (p:=p) (m:=m) (sp:=1) (st:=(upd st 0 (0))) (cs:=ms) (k:=q (4*pc+3)) A2 u3 (by omega) (by omega)
    have x3:(upd (upd st 0 (0)) 1 (q (4*pc+3))) 0=0:=by simp [upd]
    have y3:(upd (upd st 0 (0)) 1 (q (4*pc+3))) (0+1)=q (4*pc+3):=by simp [upd]
    have E3:=ex_B (g:=g) (N:=N) (p:=p) (m:=m) (sp:=0) (st:=(upd (upd st 0 (0)) 1 (q (4*pc+3)))) (cs:=ms) (o:=(kd (q (4*pc))).n) A3 ho (by omega) (by omega) (by rw [x3,y3,Int.zero_add];exact hq)
    rw [x3,y3,Int.zero_add] at E3
    have E4:=ex_O (g:=g) (N:=N) (p:=p) (m:=m) (sp:=0) (st:=(upd (upd (upd st 0 (0)) 1 (q (4*pc+3))) 0 (be p (q (4*pc+3)).toNat ((kd (q (4*pc))).n:Int).toNat))) (cs:=ms) (n:=16) A4 ⟨by omega,by omega⟩ (by omega) (by omega)
    rw [show (upd (upd (upd st 0 (0)) 1 (q (4*pc+3))) 0 (be p (q (4*pc+3)).toNat ((kd (q (4*pc))).n:Int).toNat)) 0=be p (q (4*pc+3)).toNat ((kd (q (4*pc))).n:Int).toNat by simp [upd]] at E4
    refine Does.go (F:=⟨pc+1,be p (q (4*pc+3)).toNat (kd (q (4*pc))).n.toNat,x,cs⟩) (by simp only [flt,hk,hx,hq,Int.reduceEq,if_true,if_false,Bool.false_eq_true]) (((E1.then E2).then E3).then E4) (by omega) (by omega) ⟨by dsimp only;omega,rfl,fun j hj=>?_,?_,?_⟩
    ·dsimp only;rw [upd_other _ _ (by omega)];exact c3 j hj
    ·dsimp only;rw [show (16:Int).toNat=16 from rfl,upd_same]
    ·dsimp only;rw [upd_other _ _ (by decide)];exact c5
   ·have E1:=ex_W (g:=g) (N:=N) (p:=p) (m:=m) (sp:=0) (st:=st) (cs:=ms) (k:=0) A1 ⟨by decide,by decide⟩ (by omega) (by omega)
    have E2:=ex_W (g:=g) (N:=N) (p:=p) (m:=m) (sp:=1) (st:=(upd st 0 (0))) (cs:=ms) (k:=q (4*pc+3)) A2 u3 (by omega) (by omega)
    have x3:(upd (upd st 0 (0)) 1 (q (4*pc+3))) 0=0:=by simp [upd]
    have y3:(upd (upd st 0 (0)) 1 (q (4*pc+3))) (0+1)=q (4*pc+3):=by simp [upd]
    have E3:=ex_B0 (g:=g) (N:=N) (p:=p) (m:=m) (sp:=0) (st:=(upd (upd st 0 (0)) 1 (q (4*pc+3)))) (cs:=ms) (o:=(kd (q (4*pc))).n) A3 ho (by omega) (by omega) (by rw [x3,y3,Int.zero_add];exact hq)
    exact Does.fin (F:=⟨pc,a,x,cs⟩) (by simp only [flt,hk,hx,hq,Int.reduceEq,if_true,if_false,Bool.false_eq_true]) ((E1.then E2).fin E3) (by omega) (by omega)
  | true =>
   simp only [piece,hk,hx,Int.reduceEq,if_true,if_false,Bool.false_eq_true] at hA hl
   obtain ⟨A1,hA⟩:=hA.app
   obtain ⟨A2,hA⟩:=hA.app
   obtain ⟨A3,A4⟩:=hA.app
   simp only [List.length_append,len_W,len_C,len_O,len_b2,List.length_cons,List.length_nil] at A1 A2 A3 A4 hl
   have ho:=r3 hk
   by_cases hq:(q (4*pc+3)+x).toNat+(kd (q (4*pc))).n.toNat≤m
   ·have E1:=ex_C (g:=g) (N:=N) (p:=p) (m:=m) (sp:=0) (st:=st) (cs:=ms) (n:=17) A1 ⟨by omega,by omega⟩ (by omega) (by omega)
    rw [show ms ((17:Int)).toNat=x from c5] at E1
    have E2:=ex_W (g:=g) (N:=N) (p:=p) (m:=m) (sp:=1) (st:=(upd st 0 (x))) (cs:=ms) (k:=q (4*pc+3)) A2 u3 (by omega) (by omega)
    have x3:(upd (upd st 0 (x)) 1 (q (4*pc+3))) 0=x:=by simp [upd]
    have y3:(upd (upd st 0 (x)) 1 (q (4*pc+3))) (0+1)=q (4*pc+3):=by simp [upd]
    have E3:=ex_B (g:=g) (N:=N) (p:=p) (m:=m) (sp:=0) (st:=(upd (upd st 0 (x)) 1 (q (4*pc+3)))) (cs:=ms) (o:=(kd (q (4*pc))).n) A3 ho (by omega) (by omega) (by rw [x3,y3,Int.add_comm x];exact hq)
    rw [x3,y3,Int.add_comm x] at E3
    have E4:=ex_O (g:=g) (N:=N) (p:=p) (m:=m) (sp:=0) (st:=(upd (upd (upd st 0 (x)) 1 (q (4*pc+3))) 0 (be p (q (4*pc+3)+x).toNat ((kd (q (4*pc))).n:Int).toNat))) (cs:=ms) (n:=16) A4 ⟨by omega,by omega⟩ (by omega) (by omega)
    rw [show (upd (upd (upd st 0 (x)) 1 (q (4*pc+3))) 0 (be p (q (4*pc+3)+x).toNat ((kd (q (4*pc))).n:Int).toNat)) 0=be p (q (4*pc+3)+x).toNat ((kd (q (4*pc))).n:Int).toNat by simp [upd]] at E4
    refine Does.go (F:=⟨pc+1,be p (q (4*pc+3)+x).toNat (kd (q (4*pc))).n.toNat,x,cs⟩) (by simp only [flt,hk,hx,hq,Int.reduceEq,if_true,if_false,Bool.false_eq_true]) (((E1.then E2).then E3).then E4) (by omega) (by omega) ⟨by dsimp only;omega,rfl,fun j hj=>?_,?_,?_⟩
    ·dsimp only;rw [upd_other _ _ (by omega)];exact c3 j hj
    ·dsimp only;rw [show (16:Int).toNat=16 from rfl,upd_same]
    ·dsimp only;rw [upd_other _ _ (by decide)];exact c5
   ·have E1:=ex_C (g:=g) (N:=N) (p:=p) (m:=m) (sp:=0) (st:=st) (cs:=ms) (n:=17) A1 ⟨by omega,by omega⟩ (by omega) (by omega)
    rw [show ms ((17:Int)).toNat=x from c5] at E1
    have E2:=ex_W (g:=g) (N:=N) (p:=p) (m:=m) (sp:=1) (st:=(upd st 0 (x))) (cs:=ms) (k:=q (4*pc+3)) A2 u3 (by omega) (by omega)
    have x3:(upd (upd st 0 (x)) 1 (q (4*pc+3))) 0=x:=by simp [upd]
    have y3:(upd (upd st 0 (x)) 1 (q (4*pc+3))) (0+1)=q (4*pc+3):=by simp [upd]
    have E3:=ex_B0 (g:=g) (N:=N) (p:=p) (m:=m) (sp:=0) (st:=(upd (upd st 0 (x)) 1 (q (4*pc+3)))) (cs:=ms) (o:=(kd (q (4*pc))).n) A3 ho (by omega) (by omega) (by rw [x3,y3,Int.add_comm x];exact hq)
    exact Does.fin (F:=⟨pc,a,x,cs⟩) (by simp only [flt,hk,hx,hq,Int.reduceEq,if_true,if_false,Bool.false_eq_true]) ((E1.then E2).fin E3) (by omega) (by omega)
 ·cases hx:(kd (q (4*pc))).x with
  | false =>
   simp only [piece,hk,hx,Int.reduceEq,if_true,if_false,Bool.false_eq_true] at hA hl
   obtain ⟨A1,A2⟩:=hA.app
   simp only [List.length_append,len_W,len_C,len_O,len_b2,List.length_cons,List.length_nil] at A1 A2 hl
   have E1:=ex_W (g:=g) (N:=N) (p:=p) (m:=m) (sp:=0) (st:=st) (cs:=ms) (k:=q (4*pc+3)) A1 u3 (by omega) (by omega)
   have E2:=ex_O (g:=g) (N:=N) (p:=p) (m:=m) (sp:=0) (st:=(upd st 0 (q (4*pc+3)))) (cs:=ms) (n:=16) A2 ⟨by omega,by omega⟩ (by omega) (by omega)
   rw [show (upd st 0 (q (4*pc+3))) 0=q (4*pc+3) by simp [upd]] at E2
   refine Does.go (F:=⟨pc+1,q (4*pc+3),x,cs⟩) (by simp only [flt,hk,hx,Int.reduceEq,if_true,if_false,Bool.false_eq_true]) (E1.then E2) (by omega) (by omega) ⟨by dsimp only;omega,rfl,fun j hj=>?_,?_,?_⟩
   ·dsimp only;rw [upd_other _ _ (by omega)];exact c3 j hj
   ·dsimp only;rw [show (16:Int).toNat=16 from rfl,upd_same]
   ·dsimp only;rw [upd_other _ _ (by decide)];exact c5
  | true =>
   simp only [piece,hk,hx,Int.reduceEq,if_true,if_false,Bool.false_eq_true] at hA hl
   obtain ⟨A1,A2⟩:=hA.app
   simp only [List.length_append,len_W,len_C,len_O,len_b2,List.length_cons,List.length_nil] at A1 A2 hl
   have E1:=ex_W (g:=g) (N:=N) (p:=p) (m:=m) (sp:=0) (st:=st) (cs:=ms) (k:=q (4*pc+3)) A1 u3 (by omega) (by omega)
   have E2:=ex_O (g:=g) (N:=N) (p:=p) (m:=m) (sp:=0) (st:=(upd st 0 (q (4*pc+3)))) (cs:=ms) (n:=17) A2 ⟨by omega,by omega⟩ (by omega) (by omega)
   rw [show (upd st 0 (q (4*pc+3))) 0=q (4*pc+3) by simp [upd]] at E2
   refine Does.go (F:=⟨pc+1,a,q (4*pc+3),cs⟩) (by simp only [flt,hk,hx,Int.reduceEq,if_true,if_false,Bool.false_eq_true]) (E1.then E2) (by omega) (by omega) ⟨by dsimp only;omega,rfl,fun j hj=>?_,?_,?_⟩
   ·dsimp only;rw [upd_other _ _ (by omega)];exact c3 j hj
   ·dsimp only;rw [upd_other _ _ (by decide)];exact c4
   ·dsimp only;rw [show (17:Int).toNat=17 from rfl,upd_same]
 ·cases hx:(kd (q (4*pc))).x with
  | false =>
   simp only [piece,hk,hx,Int.reduceEq,if_true,if_false,Bool.false_eq_true] at hA hl
   obtain ⟨A1,A2⟩:=hA.app
   simp only [List.length_append,len_W,len_C,len_O,len_b2,List.length_cons,List.length_nil] at A1 A2 hl
   have g2:=g2 (Or.inl hk)
   have E1:=ex_C (g:=g) (N:=N) (p:=p) (m:=m) (sp:=0) (st:=st) (cs:=ms) (n:=q (4*pc+3)) A1 ⟨by omega,by omega⟩ (by omega) (by omega)
   rw [show ms ((q (4*pc+3):Int)).toNat=cs (q (4*pc+3)).toNat from c3 _ (by omega)] at E1
   have E2:=ex_O (g:=g) (N:=N) (p:=p) (m:=m) (sp:=0) (st:=(upd st 0 (cs (q (4*pc+3)).toNat))) (cs:=ms) (n:=16) A2 ⟨by omega,by omega⟩ (by omega) (by omega)
   rw [show (upd st 0 (cs (q (4*pc+3)).toNat)) 0=cs (q (4*pc+3)).toNat by simp [upd]] at E2
   refine Does.go (F:=⟨pc+1,cs (q (4*pc+3)).toNat,x,cs⟩) (by simp only [flt,hk,hx,Int.reduceEq,if_true,if_false,Bool.false_eq_true]) (E1.then E2) (by omega) (by omega) ⟨by dsimp only;omega,rfl,fun j hj=>?_,?_,?_⟩
   ·dsimp only;rw [upd_other _ _ (by omega)];exact c3 j hj
   ·dsimp only;rw [show (16:Int).toNat=16 from rfl,upd_same]
   ·dsimp only;rw [upd_other _ _ (by decide)];exact c5
  | true =>
   simp only [piece,hk,hx,Int.reduceEq,if_true,if_false,Bool.false_eq_true] at hA hl
   obtain ⟨A1,A2⟩:=hA.app
   simp only [List.length_append,len_W,len_C,len_O,len_b2,List.length_cons,List.length_nil] at A1 A2 hl
   have g2:=g2 (Or.inl hk)
   have E1:=ex_C (g:=g) (N:=N) (p:=p) (m:=m) (sp:=0) (st:=st) (cs:=ms) (n:=q (4*pc+3)) A1 ⟨by omega,by omega⟩ (by omega) (by omega)
   rw [show ms ((q (4*pc+3):Int)).toNat=cs (q (4*pc+3)).toNat from c3 _ (by omega)] at E1
   have E2:=ex_O (g:=g) (N:=N) (p:=p) (m:=m) (sp:=0) (st:=(upd st 0 (cs (q (4*pc+3)).toNat))) (cs:=ms) (n:=17) A2 ⟨by omega,by omega⟩ (by omega) (by omega)
   rw [show (upd st 0 (cs (q (4*pc+3)).toNat)) 0=cs (q (4*pc+3)).toNat by simp [upd]] at E2
   refine Does.go (F:=⟨pc+1,a,cs (q (4*pc+3)).toNat,cs⟩) (by simp only [flt,hk,hx,Int.reduceEq,if_true,if_false,Bool.false_eq_true]) (E1.then E2) (by omega) (by omega) ⟨by dsimp only;omega,rfl,fun j hj=>?_,?_,?_⟩
   ·dsimp only;rw [upd_other _ _ (by omega)];exact c3 j hj
   ·dsimp only;rw [upd_other _ _ (by decide)];exact c4
   ·dsimp only;rw [show (17:Int).toNat=17 from rfl,upd_same]
 ·cases hx:(kd (q (4*pc))).x with
  | false =>
   simp only [piece,hk,hx,Int.reduceEq,if_true,if_false,Bool.false_eq_true] at hA hl
   obtain ⟨A1,A2⟩:=hA.app
   simp only [List.length_append,len_W,len_C,len_O,len_b2,List.length_cons,List.length_nil] at A1 A2 hl
   have E1:=ex_L (g:=g) (N:=N) (p:=p) (m:=m) (sp:=0) (st:=st) (cs:=ms) A1 (by omega) (by omega)
   have E2:=ex_O (g:=g) (N:=N) (p:=p) (m:=m) (sp:=0) (st:=(upd st 0 (m:Int))) (cs:=ms) (n:=16) A2 ⟨by omega,by omega⟩ (by omega) (by omega)
   rw [show (upd st 0 (m:Int)) 0=(m:Int) by simp [upd]] at E2
   refine Does.go (F:=⟨pc+1,(m:Int),x,cs⟩) (by simp only [flt,hk,hx,Int.reduceEq,if_true,if_false,Bool.false_eq_true]) (E1.then E2) (by omega) (by omega) ⟨by dsimp only;omega,rfl,fun j hj=>?_,?_,?_⟩
   ·dsimp only;rw [upd_other _ _ (by omega)];exact c3 j hj
   ·dsimp only;rw [show (16:Int).toNat=16 from rfl,upd_same]
   ·dsimp only;rw [upd_other _ _ (by decide)];exact c5
  | true =>
   simp only [piece,hk,hx,Int.reduceEq,if_true,if_false,Bool.false_eq_true] at hA hl
   obtain ⟨A1,A2⟩:=hA.app
   simp only [List.length_append,len_W,len_C,len_O,len_b2,List.length_cons,List.length_nil] at A1 A2 hl
   have E1:=ex_L (g:=g) (N:=N) (p:=p) (m:=m) (sp:=0) (st:=st) (cs:=ms) A1 (by omega) (by omega)
   have E2:=ex_O (g:=g) (N:=N) (p:=p) (m:=m) (sp:=0) (st:=(upd st 0 (m:Int))) (cs:=ms) (n:=17) A2 ⟨by omega,by omega⟩ (by omega) (by omega)
   rw [show (upd st 0 (m:Int)) 0=(m:Int) by simp [upd]] at E2
   refine Does.go (F:=⟨pc+1,a,(m:Int),cs⟩) (by simp only [flt,hk,hx,Int.reduceEq,if_true,if_false,Bool.false_eq_true]) (E1.then E2) (by omega) (by omega) ⟨by dsimp only;omega,rfl,fun j hj=>?_,?_,?_⟩
   ·dsimp only;rw [upd_other _ _ (by omega)];exact c3 j hj
   ·dsimp only;rw [upd_other _ _ (by decide)];exact c4
   ·dsimp only;rw [show (17:Int).toNat=17 from rfl,upd_same]
 ·simp only [piece,hk,Int.reduceEq,if_true,if_false,Bool.false_eq_true] at hA hl
  obtain ⟨A1,hA⟩:=hA.app
  obtain ⟨A2,hA⟩:=hA.app
  obtain ⟨A3,hA⟩:=hA.app
  obtain ⟨A4,hA⟩:=hA.app
  obtain ⟨A5,hA⟩:=hA.app
  obtain ⟨A6,hA⟩:=hA.app
  obtain ⟨A7,A8⟩:=hA.app
  simp only [List.length_append,len_W,len_C,len_O,len_b2,List.length_cons,List.length_nil] at A1 A2 A3 A4 A5 A6 A7 A8 hl
  have pk:=hp (q (4*pc+3)).toNat
  by_cases hq:(q (4*pc+3)).toNat+(1:Int).toNat≤m
  ·have E1:=ex_W (g:=g) (N:=N) (p:=p) (m:=m) (sp:=0) (st:=st) (cs:=ms) (k:=0) A1 ⟨by decide,by decide⟩ (by omega) (by omega)
   have E2:=ex_W (g:=g) (N:=N) (p:=p) (m:=m) (sp:=1) (st:=(upd st 0 (0))) (cs:=ms) (k:=q (4*pc+3)) A2 u3 (by omega) (by omega)
   have x3:(upd (upd st 0 (0)) 1 (q (4*pc+3))) 0=0:=by simp [upd]
   have y3:(upd (upd st 0 (0)) 1 (q (4*pc+3))) (0+1)=q (4*pc+3):=by simp [upd]
   have E3:=ex_B (g:=g) (N:=N) (p:=p) (m:=m) (sp:=0) (st:=(upd (upd st 0 (0)) 1 (q (4*pc+3)))) (cs:=ms) (o:=1) A3 (Or.inl rfl) (by omega) (by omega) (by rw [x3,y3,Int.zero_add];exact hq)
   rw [x3,y3,Int.zero_add] at E3
   have eB:be p (q (4*pc+3)).toNat (1:Int).toNat=p (q (4*pc+3)).toNat:=by show be p (q (4*pc+3)).toNat 1=_;simp [be]
   rw [eB] at E3
   have E4:=ex_W (g:=g) (N:=N) (p:=p) (m:=m) (sp:=1) (st:=(upd (upd (upd st 0 (0)) 1 (q (4*pc+3))) 0 (p (q (4*pc+3)).toNat))) (cs:=ms) (k:=15) A4 ⟨by decide,by decide⟩ (by omega) (by omega)
   have x5:(upd (upd (upd (upd st 0 (0)) 1 (q (4*pc+3))) 0 (p (q (4*pc+3)).toNat)) 1 (15)) 0=p (q (4*pc+3)).toNat:=by simp [upd]
   have y5:(upd (upd (upd (upd st 0 (0)) 1 (q (4*pc+3))) 0 (p (q (4*pc+3)).toNat)) 1 (15)) (0+1)=15:=by simp [upd]
   have E5:=ex_R (g:=g) (N:=N) (p:=p) (m:=m) (sp:=0) (st:=(upd (upd (upd (upd st 0 (0)) 1 (q (4*pc+3))) 0 (p (q (4*pc+3)).toNat)) 1 (15))) (cs:=ms) (o:=6) A5 ⟨by decide,by decide⟩ (by omega) (by omega) (by rw [y5];exact rfl)
   rw [x5,y5] at E5
   have E6:=ex_W (g:=g) (N:=N) (p:=p) (m:=m) (sp:=1) (st:=(upd (upd (upd (upd (upd st 0 (0)) 1 (q (4*pc+3))) 0 (p (q (4*pc+3)).toNat)) 1 (15)) 0 (opr 6 (p (q (4*pc+3)).toNat) (15)))) (cs:=ms) (k:=4) A6 ⟨by decide,by decide⟩ (by omega) (by omega)
   have x7:(upd (upd (upd (upd (upd (upd st 0 (0)) 1 (q (4*pc+3))) 0 (p (q (4*pc+3)).toNat)) 1 (15)) 0 (opr 6 (p (q (4*pc+3)).toNat) (15))) 1 (4)) 0=opr 6 (p (q (4*pc+3)).toNat) (15):=by simp [upd]
   have y7:(upd (upd (upd (upd (upd (upd st 0 (0)) 1 (q (4*pc+3))) 0 (p (q (4*pc+3)).toNat)) 1 (15)) 0 (opr 6 (p (q (4*pc+3)).toNat) (15))) 1 (4)) (0+1)=4:=by simp [upd]
   have E7:=ex_R (g:=g) (N:=N) (p:=p) (m:=m) (sp:=0) (st:=(upd (upd (upd (upd (upd (upd st 0 (0)) 1 (q (4*pc+3))) 0 (p (q (4*pc+3)).toNat)) 1 (15)) 0 (opr 6 (p (q (4*pc+3)).toNat) (15))) 1 (4))) (cs:=ms) (o:=2) A7 ⟨by decide,by decide⟩ (by omega) (by omega) (by rw [y7];exact rfl)
   rw [x7,y7] at E7
   have E8:=ex_O (g:=g) (N:=N) (p:=p) (m:=m) (sp:=0) (st:=(upd (upd (upd (upd (upd (upd (upd st 0 (0)) 1 (q (4*pc+3))) 0 (p (q (4*pc+3)).toNat)) 1 (15)) 0 (opr 6 (p (q (4*pc+3)).toNat) (15))) 1 (4)) 0 (opr 2 (opr 6 (p (q (4*pc+3)).toNat) (15)) (4)))) (cs:=ms) (n:=17) A8 ⟨by omega,by omega⟩ (by omega) (by omega)
   rw [show (upd (upd (upd (upd (upd (upd (upd st 0 (0)) 1 (q (4*pc+3))) 0 (p (q (4*pc+3)).toNat)) 1 (15)) 0 (opr 6 (p (q (4*pc+3)).toNat) (15))) 1 (4)) 0 (opr 2 (opr 6 (p (q (4*pc+3)).toNat) (15)) (4))) 0=opr 2 (opr 6 (p (q (4*pc+3)).toNat) (15)) (4) by simp [upd]] at E8
   have eV:opr 2 (opr 6 (p (q (4*pc+3)).toNat) (15)) (4)=p (q (4*pc+3)).toNat%16*4:=by
    show opv 6 (p (q (4*pc+3)).toNat) 15*4%4294967296=_
    rw [show opv 6 (p (q (4*pc+3)).toNat) 15=bits .and .u32 (p (q (4*pc+3)).toNat) 15 from rfl,and_low pk];omega
   refine Does.go (F:=⟨pc+1,a,p (q (4*pc+3)).toNat%16*4,cs⟩) (by simp only [flt,hk,show (q (4*pc+3)).toNat+1≤m from hq,Int.reduceEq,if_true,if_false,Bool.false_eq_true]) (((((((E1.then E2).then E3).then E4).then E5).then E6).then E7).then E8) (by omega) (by omega) ⟨by dsimp only;omega,rfl,fun j hj=>?_,?_,?_⟩
   ·dsimp only;rw [upd_other _ _ (by omega)];exact c3 j hj
   ·dsimp only;rw [upd_other _ _ (by decide)];exact c4
   ·dsimp only;rw [show (17:Int).toNat=17 from rfl,upd_same,eV]
  ·have E1:=ex_W (g:=g) (N:=N) (p:=p) (m:=m) (sp:=0) (st:=st) (cs:=ms) (k:=0) A1 ⟨by decide,by decide⟩ (by omega) (by omega)
   have E2:=ex_W (g:=g) (N:=N) (p:=p) (m:=m) (sp:=1) (st:=(upd st 0 (0))) (cs:=ms) (k:=q (4*pc+3)) A2 u3 (by omega) (by omega)
   have x3:(upd (upd st 0 (0)) 1 (q (4*pc+3))) 0=0:=by simp [upd]
   have y3:(upd (upd st 0 (0)) 1 (q (4*pc+3))) (0+1)=q (4*pc+3):=by simp [upd]
   have E3:=ex_B0 (g:=g) (N:=N) (p:=p) (m:=m) (sp:=0) (st:=(upd (upd st 0 (0)) 1 (q (4*pc+3)))) (cs:=ms) (o:=1) A3 (Or.inl rfl) (by omega) (by omega) (by rw [x3,y3,Int.zero_add];exact hq)
   exact Does.fin (F:=⟨pc,a,x,cs⟩) (by simp only [flt,hk,show ¬ (q (4*pc+3)).toNat+1≤m from hq,Int.reduceEq,if_true,if_false,Bool.false_eq_true]) ((E1.then E2).fin E3) (by omega) (by omega)
 ·cases hx:(kd (q (4*pc))).x with
  | false =>
   simp only [piece,hk,hx,Int.reduceEq,if_true,if_false,Bool.false_eq_true] at hA hl
   obtain ⟨A1,A2⟩:=hA.app
   simp only [List.length_append,len_W,len_C,len_O,len_b2,List.length_cons,List.length_nil] at A1 A2 hl
   have g2:=g2 (Or.inr hk)
   have E1:=ex_C (g:=g) (N:=N) (p:=p) (m:=m) (sp:=0) (st:=st) (cs:=ms) (n:=16) A1 ⟨by omega,by omega⟩ (by omega) (by omega)
   rw [show ms ((16:Int)).toNat=a from c4] at E1
   have E2:=ex_O (g:=g) (N:=N) (p:=p) (m:=m) (sp:=0) (st:=(upd st 0 (a))) (cs:=ms) (n:=q (4*pc+3)) A2 ⟨by omega,by omega⟩ (by omega) (by omega)
   rw [show (upd st 0 (a)) 0=a by simp [upd]] at E2
   refine Does.go (F:=⟨pc+1,a,x,upd cs (q (4*pc+3)).toNat a⟩) (by simp only [flt,hk,hx,Int.reduceEq,if_true,if_false,Bool.false_eq_true]) (E1.then E2) (by omega) (by omega) ⟨by dsimp only;omega,rfl,fun j hj=>?_,?_,?_⟩
   ·dsimp only;unfold upd;split
    ·rfl
    ·exact c3 j hj
   ·dsimp only;rw [upd_other _ _ (by omega)];exact c4
   ·dsimp only;rw [upd_other _ _ (by omega)];exact c5
  | true =>
   simp only [piece,hk,hx,Int.reduceEq,if_true,if_false,Bool.false_eq_true] at hA hl
   obtain ⟨A1,A2⟩:=hA.app
   simp only [List.length_append,len_W,len_C,len_O,len_b2,List.length_cons,List.length_nil] at A1 A2 hl
   have g2:=g2 (Or.inr hk)
   have E1:=ex_C (g:=g) (N:=N) (p:=p) (m:=m) (sp:=0) (st:=st) (cs:=ms) (n:=17) A1 ⟨by omega,by omega⟩ (by omega) (by omega)
   rw [show ms ((17:Int)).toNat=x from c5] at E1
   have E2:=ex_O (g:=g) (N:=N) (p:=p) (m:=m) (sp:=0) (st:=(upd st 0 (x))) (cs:=ms) (n:=q (4*pc+3)) A2 ⟨by omega,by omega⟩ (by omega) (by omega)
   rw [show (upd st 0 (x)) 0=x by simp [upd]] at E2
   refine Does.go (F:=⟨pc+1,a,x,upd cs (q (4*pc+3)).toNat x⟩) (by simp only [flt,hk,hx,Int.reduceEq,if_true,if_false,Bool.false_eq_true]) (E1.then E2) (by omega) (by omega) ⟨by dsimp only;omega,rfl,fun j hj=>?_,?_,?_⟩
   ·dsimp only;unfold upd;split
    ·rfl
    ·exact c3 j hj
   ·dsimp only;rw [upd_other _ _ (by omega)];exact c4
   ·dsimp only;rw [upd_other _ _ (by omega)];exact c5
 ·cases hx:(kd (q (4*pc))).x with
  | false =>
   simp only [piece,hk,hx,Int.reduceEq,if_true,if_false,Bool.false_eq_true] at hA hl
   obtain ⟨A1,A2⟩:=hA.app
   simp only [List.length_append,len_W,len_C,len_O,len_b2,List.length_cons,List.length_nil] at A1 A2 hl
   have E1:=ex_C (g:=g) (N:=N) (p:=p) (m:=m) (sp:=0) (st:=st) (cs:=ms) (n:=17) A1 ⟨by omega,by omega⟩ (by omega) (by omega)
   rw [show ms ((17:Int)).toNat=x from c5] at E1
   have E2:=ex_O (g:=g) (N:=N) (p:=p) (m:=m) (sp:=0) (st:=(upd st 0 (x))) (cs:=ms) (n:=16) A2 ⟨by omega,by omega⟩ (by omega) (by omega)
   rw [show (upd st 0 (x)) 0=x by simp [upd]] at E2
   refine Does.go (F:=⟨pc+1,x,x,cs⟩) (by simp only [flt,hk,hx,Int.reduceEq,if_true,if_false,Bool.false_eq_true]) (E1.then E2) (by omega) (by omega) ⟨by dsimp only;omega,rfl,fun j hj=>?_,?_,?_⟩
   ·dsimp only;rw [upd_other _ _ (by omega)];exact c3 j hj
   ·dsimp only;rw [show (16:Int).toNat=16 from rfl,upd_same]
   ·dsimp only;rw [upd_other _ _ (by decide)];exact c5
  | true =>
   simp only [piece,hk,hx,Int.reduceEq,if_true,if_false,Bool.false_eq_true] at hA hl
   obtain ⟨A1,A2⟩:=hA.app
   simp only [List.length_append,len_W,len_C,len_O,len_b2,List.length_cons,List.length_nil] at A1 A2 hl
   have E1:=ex_C (g:=g) (N:=N) (p:=p) (m:=m) (sp:=0) (st:=st) (cs:=ms) (n:=16) A1 ⟨by omega,by omega⟩ (by omega) (by omega)
   rw [show ms ((16:Int)).toNat=a from c4] at E1
   have E2:=ex_O (g:=g) (N:=N) (p:=p) (m:=m) (sp:=0) (st:=(upd st 0 (a))) (cs:=ms) (n:=17) A2 ⟨by omega,by omega⟩ (by omega) (by omega)
   rw [show (upd st 0 (a)) 0=a by simp [upd]] at E2
   refine Does.go (F:=⟨pc+1,a,a,cs⟩) (by simp only [flt,hk,hx,Int.reduceEq,if_true,if_false,Bool.false_eq_true]) (E1.then E2) (by omega) (by omega) ⟨by dsimp only;omega,rfl,fun j hj=>?_,?_,?_⟩
   ·dsimp only;rw [upd_other _ _ (by omega)];exact c3 j hj
   ·dsimp only;rw [upd_other _ _ (by decide)];exact c4
   ·dsimp only;rw [show (17:Int).toNat=17 from rfl,upd_same]
 ·cases hx:(kd (q (4*pc))).x with
  | false =>
   simp only [piece,hk,hx,Int.reduceEq,if_true,if_false,Bool.false_eq_true] at hA hl
   obtain ⟨A1,hA⟩:=hA.app
   obtain ⟨A2,hA⟩:=hA.app
   obtain ⟨A3,A4⟩:=hA.app
   simp only [List.length_append,len_W,len_C,len_O,len_b2,List.length_cons,List.length_nil] at A1 A2 A3 A4 hl
   have ho:=r4 hk
   cases hq:div0 (kd (q (4*pc))).o (q (4*pc+3)) with
   | false =>
    have E1:=ex_C (g:=g) (N:=N) (p:=p) (m:=m) (sp:=0) (st:=st) (cs:=ms) (n:=16) A1 ⟨by omega,by omega⟩ (by omega) (by omega)
    rw [show ms ((16:Int)).toNat=a from c4] at E1
    have E2:=ex_W (g:=g) (N:=N) (p:=p) (m:=m) (sp:=1) (st:=(upd st 0 (a))) (cs:=ms) (k:=q (4*pc+3)) A2 u3 (by omega) (by omega)
    have x3:(upd (upd st 0 (a)) 1 (q (4*pc+3))) 0=a:=by simp [upd]
    have y3:(upd (upd st 0 (a)) 1 (q (4*pc+3))) (0+1)=q (4*pc+3):=by simp [upd]
    have E3:=ex_R (g:=g) (N:=N) (p:=p) (m:=m) (sp:=0) (st:=(upd (upd st 0 (a)) 1 (q (4*pc+3)))) (cs:=ms) (o:=(kd (q (4*pc))).o) A3 ho (by omega) (by omega) (by rw [y3];exact hq)
    rw [x3,y3] at E3
    have E4:=ex_O (g:=g) (N:=N) (p:=p) (m:=m) (sp:=0) (st:=(upd (upd (upd st 0 (a)) 1 (q (4*pc+3))) 0 (opr (kd (q (4*pc))).o (a) (q (4*pc+3))))) (cs:=ms) (n:=16) A4 ⟨by omega,by omega⟩ (by omega) (by omega)
    rw [show (upd (upd (upd st 0 (a)) 1 (q (4*pc+3))) 0 (opr (kd (q (4*pc))).o (a) (q (4*pc+3)))) 0=opr (kd (q (4*pc))).o (a) (q (4*pc+3)) by simp [upd]] at E4
    refine Does.go (F:=⟨pc+1,opr (kd (q (4*pc))).o a (q (4*pc+3)),x,cs⟩) (by simp only [flt,hk,hx,hq,Int.reduceEq,if_true,if_false,Bool.false_eq_true]) (((E1.then E2).then E3).then E4) (by omega) (by omega) ⟨by dsimp only;omega,rfl,fun j hj=>?_,?_,?_⟩
    ·dsimp only;rw [upd_other _ _ (by omega)];exact c3 j hj
    ·dsimp only;rw [show (16:Int).toNat=16 from rfl,upd_same]
    ·dsimp only;rw [upd_other _ _ (by decide)];exact c5
   | true =>
    have E1:=ex_C (g:=g) (N:=N) (p:=p) (m:=m) (sp:=0) (st:=st) (cs:=ms) (n:=16) A1 ⟨by omega,by omega⟩ (by omega) (by omega)
    rw [show ms ((16:Int)).toNat=a from c4] at E1
    have E2:=ex_W (g:=g) (N:=N) (p:=p) (m:=m) (sp:=1) (st:=(upd st 0 (a))) (cs:=ms) (k:=q (4*pc+3)) A2 u3 (by omega) (by omega)
    have x3:(upd (upd st 0 (a)) 1 (q (4*pc+3))) 0=a:=by simp [upd]
    have y3:(upd (upd st 0 (a)) 1 (q (4*pc+3))) (0+1)=q (4*pc+3):=by simp [upd]
    have E3:=ex_R0 (g:=g) (N:=N) (p:=p) (m:=m) (sp:=0) (st:=(upd (upd st 0 (a)) 1 (q (4*pc+3)))) (cs:=ms) (o:=(kd (q (4*pc))).o) A3 ho (by omega) (by omega) (by rw [y3];exact hq)
    exact Does.fin (F:=⟨pc,a,x,cs⟩) (by simp only [flt,hk,hx,hq,Int.reduceEq,if_true,if_false,Bool.false_eq_true]) ((E1.then E2).fin E3) (by omega) (by omega)
  | true =>
   simp only [piece,hk,hx,Int.reduceEq,if_true,if_false,Bool.false_eq_true] at hA hl
   obtain ⟨A1,hA⟩:=hA.app
   obtain ⟨A2,hA⟩:=hA.app
   obtain ⟨A3,A4⟩:=hA.app
   simp only [List.length_append,len_W,len_C,len_O,len_b2,List.length_cons,List.length_nil] at A1 A2 A3 A4 hl
   have ho:=r4 hk
   cases hq:div0 (kd (q (4*pc))).o (x) with
   | false =>
    have E1:=ex_C (g:=g) (N:=N) (p:=p) (m:=m) (sp:=0) (st:=st) (cs:=ms) (n:=16) A1 ⟨by omega,by omega⟩ (by omega) (by omega)
    rw [show ms ((16:Int)).toNat=a from c4] at E1
    have E2:=ex_C (g:=g) (N:=N) (p:=p) (m:=m) (sp:=1) (st:=(upd st 0 (a))) (cs:=ms) (n:=17) A2 ⟨by omega,by omega⟩ (by omega) (by omega)
    rw [show ms ((17:Int)).toNat=x from c5] at E2
    have x3:(upd (upd st 0 (a)) 1 (x)) 0=a:=by simp [upd]
    have y3:(upd (upd st 0 (a)) 1 (x)) (0+1)=x:=by simp [upd]
    have E3:=ex_R (g:=g) (N:=N) (p:=p) (m:=m) (sp:=0) (st:=(upd (upd st 0 (a)) 1 (x))) (cs:=ms) (o:=(kd (q (4*pc))).o) A3 ho (by omega) (by omega) (by rw [y3];exact hq)
    rw [x3,y3] at E3
    have E4:=ex_O (g:=g) (N:=N) (p:=p) (m:=m) (sp:=0) (st:=(upd (upd (upd st 0 (a)) 1 (x)) 0 (opr (kd (q (4*pc))).o (a) (x)))) (cs:=ms) (n:=16) A4 ⟨by omega,by omega⟩ (by omega) (by omega)
    rw [show (upd (upd (upd st 0 (a)) 1 (x)) 0 (opr (kd (q (4*pc))).o (a) (x))) 0=opr (kd (q (4*pc))).o (a) (x) by simp [upd]] at E4
    refine Does.go (F:=⟨pc+1,opr (kd (q (4*pc))).o a (x),x,cs⟩) (by simp only [flt,hk,hx,hq,Int.reduceEq,if_true,if_false,Bool.false_eq_true]) (((E1.then E2).then E3).then E4) (by omega) (by omega) ⟨by dsimp only;omega,rfl,fun j hj=>?_,?_,?_⟩
    ·dsimp only;rw [upd_other _ _ (by omega)];exact c3 j hj
    ·dsimp only;rw [show (16:Int).toNat=16 from rfl,upd_same]
    ·dsimp only;rw [upd_other _ _ (by decide)];exact c5
   | true =>
    have E1:=ex_C (g:=g) (N:=N) (p:=p) (m:=m) (sp:=0) (st:=st) (cs:=ms) (n:=16) A1 ⟨by omega,by omega⟩ (by omega) (by omega)
    rw [show ms ((16:Int)).toNat=a from c4] at E1
    have E2:=ex_C (g:=g) (N:=N) (p:=p) (m:=m) (sp:=1) (st:=(upd st 0 (a))) (cs:=ms) (n:=17) A2 ⟨by omega,by omega⟩ (by omega) (by omega)
    rw [show ms ((17:Int)).toNat=x from c5] at E2
    have x3:(upd (upd st 0 (a)) 1 (x)) 0=a:=by simp [upd]
    have y3:(upd (upd st 0 (a)) 1 (x)) (0+1)=x:=by simp [upd]
    have E3:=ex_R0 (g:=g) (N:=N) (p:=p) (m:=m) (sp:=0) (st:=(upd (upd st 0 (a)) 1 (x))) (cs:=ms) (o:=(kd (q (4*pc))).o) A3 ho (by omega) (by omega) (by rw [y3];exact hq)
    exact Does.fin (F:=⟨pc,a,x,cs⟩) (by simp only [flt,hk,hx,hq,Int.reduceEq,if_true,if_false,Bool.false_eq_true]) ((E1.then E2).fin E3) (by omega) (by omega)
 ·cases hx:(kd (q (4*pc))).x with
  | false =>
   simp only [piece,hk,hx,Int.reduceEq,if_true,if_false,Bool.false_eq_true] at hA hl
   obtain ⟨A1,hA⟩:=hA.app
   obtain ⟨A2,hA⟩:=hA.app
   obtain ⟨A3,A4⟩:=hA.app
   simp only [List.length_append,len_W,len_C,len_O,len_b2,List.length_cons,List.length_nil] at A1 A2 A3 A4 hl
   have E1:=ex_W (g:=g) (N:=N) (p:=p) (m:=m) (sp:=0) (st:=st) (cs:=ms) (k:=0) A1 ⟨by decide,by decide⟩ (by omega) (by omega)
   have E2:=ex_C (g:=g) (N:=N) (p:=p) (m:=m) (sp:=1) (st:=(upd st 0 (0))) (cs:=ms) (n:=16) A2 ⟨by omega,by omega⟩ (by omega) (by omega)
   rw [show ms ((16:Int)).toNat=a from c4] at E2
   have x3:(upd (upd st 0 (0)) 1 (a)) 0=0:=by simp [upd]
   have y3:(upd (upd st 0 (0)) 1 (a)) (0+1)=a:=by simp [upd]
   have E3:=ex_R (g:=g) (N:=N) (p:=p) (m:=m) (sp:=0) (st:=(upd (upd st 0 (0)) 1 (a))) (cs:=ms) (o:=1) A3 ⟨by decide,by decide⟩ (by omega) (by omega) (by rw [y3];exact rfl)
   rw [x3,y3] at E3
   have E4:=ex_O (g:=g) (N:=N) (p:=p) (m:=m) (sp:=0) (st:=(upd (upd (upd st 0 (0)) 1 (a)) 0 (opr 1 (0) (a)))) (cs:=ms) (n:=16) A4 ⟨by omega,by omega⟩ (by omega) (by omega)
   rw [show (upd (upd (upd st 0 (0)) 1 (a)) 0 (opr 1 (0) (a))) 0=opr 1 (0) (a) by simp [upd]] at E4
   have eV:opr 1 (0) (a)=(-a)%4294967296:=by show (0-a)%4294967296=_;rw [Int.zero_sub]
   refine Does.go (F:=⟨pc+1,(-a)%4294967296,x,cs⟩) (by simp only [flt,hk,hx,Int.reduceEq,if_true,if_false,Bool.false_eq_true]) (((E1.then E2).then E3).then E4) (by omega) (by omega) ⟨by dsimp only;omega,rfl,fun j hj=>?_,?_,?_⟩
   ·dsimp only;rw [upd_other _ _ (by omega)];exact c3 j hj
   ·dsimp only;rw [show (16:Int).toNat=16 from rfl,upd_same,eV]
   ·dsimp only;rw [upd_other _ _ (by decide)];exact c5
  | true =>
   simp only [piece,hk,hx,Int.reduceEq,if_true,if_false,Bool.false_eq_true] at hA hl
   obtain ⟨A1,hA⟩:=hA.app
   obtain ⟨A2,hA⟩:=hA.app
   obtain ⟨A3,A4⟩:=hA.app
   simp only [List.length_append,len_W,len_C,len_O,len_b2,List.length_cons,List.length_nil] at A1 A2 A3 A4 hl
   have E1:=ex_W (g:=g) (N:=N) (p:=p) (m:=m) (sp:=0) (st:=st) (cs:=ms) (k:=0) A1 ⟨by decide,by decide⟩ (by omega) (by omega)
   have E2:=ex_C (g:=g) (N:=N) (p:=p) (m:=m) (sp:=1) (st:=(upd st 0 (0))) (cs:=ms) (n:=16) A2 ⟨by omega,by omega⟩ (by omega) (by omega)
   rw [show ms ((16:Int)).toNat=a from c4] at E2
   have x3:(upd (upd st 0 (0)) 1 (a)) 0=0:=by simp [upd]
   have y3:(upd (upd st 0 (0)) 1 (a)) (0+1)=a:=by simp [upd]
   have E3:=ex_R (g:=g) (N:=N) (p:=p) (m:=m) (sp:=0) (st:=(upd (upd st 0 (0)) 1 (a))) (cs:=ms) (o:=1) A3 ⟨by decide,by decide⟩ (by omega) (by omega) (by rw [y3];exact rfl)
   rw [x3,y3] at E3
   have E4:=ex_O (g:=g) (N:=N) (p:=p) (m:=m) (sp:=0) (st:=(upd (upd (upd st 0 (0)) 1 (a)) 0 (opr 1 (0) (a)))) (cs:=ms) (n:=16) A4 ⟨by omega,by omega⟩ (by omega) (by omega)
   rw [show (upd (upd (upd st 0 (0)) 1 (a)) 0 (opr 1 (0) (a))) 0=opr 1 (0) (a) by simp [upd]] at E4
   have eV:opr 1 (0) (a)=(-a)%4294967296:=by show (0-a)%4294967296=_;rw [Int.zero_sub]
   refine Does.go (F:=⟨pc+1,(-a)%4294967296,x,cs⟩) (by simp only [flt,hk,hx,Int.reduceEq,if_true,if_false,Bool.false_eq_true]) (((E1.then E2).then E3).then E4) (by omega) (by omega) ⟨by dsimp only;omega,rfl,fun j hj=>?_,?_,?_⟩
   ·dsimp only;rw [upd_other _ _ (by omega)];exact c3 j hj
   ·dsimp only;rw [show (16:Int).toNat=16 from rfl,upd_same,eV]
   ·dsimp only;rw [upd_other _ _ (by decide)];exact c5
 ·cases hx:(kd (q (4*pc))).x with
  | false =>
   simp only [piece,hk,hx,Int.reduceEq,if_true,if_false,Bool.false_eq_true] at hA hl
   have A1:=hA
   simp only [List.length_append,len_W,len_C,len_O,len_b2,List.length_cons,List.length_nil] at A1 hl
   have d3:=d3 hk
   have E1:=ex_G (g:=g) (N:=N) (p:=p) (m:=m) (sp:=0) (st:=st) (cs:=ms) (d:=dist2 q pc) A1 ⟨d3.1,d3.2.1⟩ (by omega) (by omega)
   refine Does.go (F:=⟨pc+1+(q (4*pc+3)).toNat,a,x,cs⟩) (by simp only [flt,hk,hx,Int.reduceEq,if_true,if_false,Bool.false_eq_true]) E1 (by omega) (by omega) ⟨by dsimp only;omega,rfl,fun j hj=>?_,?_,?_⟩
   ·exact c3 j hj
   ·exact c4
   ·exact c5
  | true =>
   simp only [piece,hk,hx,Int.reduceEq,if_true,if_false,Bool.false_eq_true] at hA hl
   have A1:=hA
   simp only [List.length_append,len_W,len_C,len_O,len_b2,List.length_cons,List.length_nil] at A1 hl
   have d3:=d3 hk
   have E1:=ex_G (g:=g) (N:=N) (p:=p) (m:=m) (sp:=0) (st:=st) (cs:=ms) (d:=dist2 q pc) A1 ⟨d3.1,d3.2.1⟩ (by omega) (by omega)
   refine Does.go (F:=⟨pc+1+(q (4*pc+3)).toNat,a,x,cs⟩) (by simp only [flt,hk,hx,Int.reduceEq,if_true,if_false,Bool.false_eq_true]) E1 (by omega) (by omega) ⟨by dsimp only;omega,rfl,fun j hj=>?_,?_,?_⟩
   ·exact c3 j hj
   ·exact c4
   ·exact c5
 ·cases hx:(kd (q (4*pc))).x with
  | false =>
   simp only [piece,hk,hx,Int.reduceEq,if_true,if_false,Bool.false_eq_true] at hA hl
   obtain ⟨A1,hA⟩:=hA.app
   obtain ⟨A2,hA⟩:=hA.app
   obtain ⟨A3,A4⟩:=hA.app
   simp only [List.length_append,len_W,len_C,len_O,len_b2,List.length_cons,List.length_nil] at A1 A2 A3 A4 hl
   have ho:=r5 hk
   have d1:=d1 hk
   have d2:=d2 hk
   cases hq:askv (kd (q (4*pc))).o a (q (4*pc+3)) with
   | false =>
    have E1:=ex_C (g:=g) (N:=N) (p:=p) (m:=m) (sp:=0) (st:=st) (cs:=ms) (n:=16) A1 ⟨by omega,by omega⟩ (by omega) (by omega)
    rw [show ms ((16:Int)).toNat=a from c4] at E1
    have E2:=ex_W (g:=g) (N:=N) (p:=p) (m:=m) (sp:=1) (st:=(upd st 0 (a))) (cs:=ms) (k:=q (4*pc+3)) A2 u3 (by omega) (by omega)
    have x3:(upd (upd st 0 (a)) 1 (q (4*pc+3))) 0=a:=by simp [upd]
    have y3:(upd (upd st 0 (a)) 1 (q (4*pc+3))) (0+1)=q (4*pc+3):=by simp [upd]
    have E3:=ex_A (g:=g) (N:=N) (p:=p) (m:=m) (sp:=0) (st:=(upd (upd st 0 (a)) 1 (q (4*pc+3)))) (cs:=ms) (o:=(kd (q (4*pc))).o) (d:=dist1 q pc) A3 ho ⟨d1.1,d1.2.1⟩ (by omega) (by omega)
    rw [x3,y3,hq] at E3
    simp only [Bool.false_eq_true,if_true,if_false,Nat.add_zero] at E3
    have E4:=ex_G (g:=g) (N:=N) (p:=p) (m:=m) (sp:=0) (st:=(upd (upd st 0 (a)) 1 (q (4*pc+3)))) (cs:=ms) (d:=dist2 q pc) A4 ⟨d2.1,d2.2.1⟩ (by omega) (by omega)
    refine Does.go (F:=⟨pc+1+(q (4*pc+2)).toNat,a,x,cs⟩) (by simp only [flt,hk,hx,hq,Int.reduceEq,if_true,if_false,Bool.false_eq_true]) (((E1.then E2).then E3).then E4) (by omega) (by omega) ⟨by dsimp only;omega,rfl,fun j hj=>?_,?_,?_⟩
    ·exact c3 j hj
    ·exact c4
    ·exact c5
   | true =>
    have E1:=ex_C (g:=g) (N:=N) (p:=p) (m:=m) (sp:=0) (st:=st) (cs:=ms) (n:=16) A1 ⟨by omega,by omega⟩ (by omega) (by omega)
    rw [show ms ((16:Int)).toNat=a from c4] at E1
    have E2:=ex_W (g:=g) (N:=N) (p:=p) (m:=m) (sp:=1) (st:=(upd st 0 (a))) (cs:=ms) (k:=q (4*pc+3)) A2 u3 (by omega) (by omega)
    have x3:(upd (upd st 0 (a)) 1 (q (4*pc+3))) 0=a:=by simp [upd]
    have y3:(upd (upd st 0 (a)) 1 (q (4*pc+3))) (0+1)=q (4*pc+3):=by simp [upd]
    have E3:=ex_A (g:=g) (N:=N) (p:=p) (m:=m) (sp:=0) (st:=(upd (upd st 0 (a)) 1 (q (4*pc+3)))) (cs:=ms) (o:=(kd (q (4*pc))).o) (d:=dist1 q pc) A3 ho ⟨d1.1,d1.2.1⟩ (by omega) (by omega)
    rw [x3,y3,hq] at E3
    simp only [Bool.false_eq_true,if_true,if_false,Nat.add_zero] at E3
    refine Does.go (F:=⟨pc+1+(q (4*pc+1)).toNat,a,x,cs⟩) (by simp only [flt,hk,hx,hq,Int.reduceEq,if_true,if_false,Bool.false_eq_true]) ((E1.then E2).then E3) (by omega) (by omega) ⟨by dsimp only;omega,rfl,fun j hj=>?_,?_,?_⟩
    ·exact c3 j hj
    ·exact c4
    ·exact c5
  | true =>
   simp only [piece,hk,hx,Int.reduceEq,if_true,if_false,Bool.false_eq_true] at hA hl
   obtain ⟨A1,hA⟩:=hA.app
   obtain ⟨A2,hA⟩:=hA.app
   obtain ⟨A3,A4⟩:=hA.app
   simp only [List.length_append,len_W,len_C,len_O,len_b2,List.length_cons,List.length_nil] at A1 A2 A3 A4 hl
   have ho:=r5 hk
   have d1:=d1 hk
   have d2:=d2 hk
   cases hq:askv (kd (q (4*pc))).o a (x) with
   | false =>
    have E1:=ex_C (g:=g) (N:=N) (p:=p) (m:=m) (sp:=0) (st:=st) (cs:=ms) (n:=16) A1 ⟨by omega,by omega⟩ (by omega) (by omega)
    rw [show ms ((16:Int)).toNat=a from c4] at E1
    have E2:=ex_C (g:=g) (N:=N) (p:=p) (m:=m) (sp:=1) (st:=(upd st 0 (a))) (cs:=ms) (n:=17) A2 ⟨by omega,by omega⟩ (by omega) (by omega)
    rw [show ms ((17:Int)).toNat=x from c5] at E2
    have x3:(upd (upd st 0 (a)) 1 (x)) 0=a:=by simp [upd]
    have y3:(upd (upd st 0 (a)) 1 (x)) (0+1)=x:=by simp [upd]
    have E3:=ex_A (g:=g) (N:=N) (p:=p) (m:=m) (sp:=0) (st:=(upd (upd st 0 (a)) 1 (x))) (cs:=ms) (o:=(kd (q (4*pc))).o) (d:=dist1 q pc) A3 ho ⟨d1.1,d1.2.1⟩ (by omega) (by omega)
    rw [x3,y3,hq] at E3
    simp only [Bool.false_eq_true,if_true,if_false,Nat.add_zero] at E3
    have E4:=ex_G (g:=g) (N:=N) (p:=p) (m:=m) (sp:=0) (st:=(upd (upd st 0 (a)) 1 (x))) (cs:=ms) (d:=dist2 q pc) A4 ⟨d2.1,d2.2.1⟩ (by omega) (by omega)
    refine Does.go (F:=⟨pc+1+(q (4*pc+2)).toNat,a,x,cs⟩) (by simp only [flt,hk,hx,hq,Int.reduceEq,if_true,if_false,Bool.false_eq_true]) (((E1.then E2).then E3).then E4) (by omega) (by omega) ⟨by dsimp only;omega,rfl,fun j hj=>?_,?_,?_⟩
    ·exact c3 j hj
    ·exact c4
    ·exact c5
   | true =>
    have E1:=ex_C (g:=g) (N:=N) (p:=p) (m:=m) (sp:=0) (st:=st) (cs:=ms) (n:=16) A1 ⟨by omega,by omega⟩ (by omega) (by omega)
    rw [show ms ((16:Int)).toNat=a from c4] at E1
    have E2:=ex_C (g:=g) (N:=N) (p:=p) (m:=m) (sp:=1) (st:=(upd st 0 (a))) (cs:=ms) (n:=17) A2 ⟨by omega,by omega⟩ (by omega) (by omega)
    rw [show ms ((17:Int)).toNat=x from c5] at E2
    have x3:(upd (upd st 0 (a)) 1 (x)) 0=a:=by simp [upd]
    have y3:(upd (upd st 0 (a)) 1 (x)) (0+1)=x:=by simp [upd]
    have E3:=ex_A (g:=g) (N:=N) (p:=p) (m:=m) (sp:=0) (st:=(upd (upd st 0 (a)) 1 (x))) (cs:=ms) (o:=(kd (q (4*pc))).o) (d:=dist1 q pc) A3 ho ⟨d1.1,d1.2.1⟩ (by omega) (by omega)
    rw [x3,y3,hq] at E3
    simp only [Bool.false_eq_true,if_true,if_false,Nat.add_zero] at E3
    refine Does.go (F:=⟨pc+1+(q (4*pc+1)).toNat,a,x,cs⟩) (by simp only [flt,hk,hx,hq,Int.reduceEq,if_true,if_false,Bool.false_eq_true]) ((E1.then E2).then E3) (by omega) (by omega) ⟨by dsimp only;omega,rfl,fun j hj=>?_,?_,?_⟩
    ·exact c3 j hj
    ·exact c4
    ·exact c5
 ·cases hx:(kd (q (4*pc))).x with
  | false =>
   simp only [piece,hk,hx,Int.reduceEq,if_true,if_false,Bool.false_eq_true] at hA hl
   obtain ⟨A1,A2⟩:=hA.app
   simp only [List.length_append,len_W,len_C,len_O,len_b2,List.length_cons,List.length_nil] at A1 A2 hl
   have E1:=ex_W (g:=g) (N:=N) (p:=p) (m:=m) (sp:=0) (st:=st) (cs:=ms) (k:=q (4*pc+3)) A1 u3 (by omega) (by omega)
   have E2:=ex_S (g:=g) (N:=N) (p:=p) (m:=m) (sp:=0) (st:=(upd st 0 (q (4*pc+3)))) (cs:=ms) A2 (by omega) (by omega)
   rw [show (upd st 0 (q (4*pc+3))) 0=q (4*pc+3) by simp [upd]] at E2
   exact Does.fin (F:=⟨pc,a,x,cs⟩) (by simp only [flt,hk,hx,Int.reduceEq,if_true,if_false,Bool.false_eq_true]) (E1.fin E2) (by omega) (by omega)
  | true =>
   simp only [piece,hk,hx,Int.reduceEq,if_true,if_false,Bool.false_eq_true] at hA hl
   obtain ⟨A1,A2⟩:=hA.app
   simp only [List.length_append,len_W,len_C,len_O,len_b2,List.length_cons,List.length_nil] at A1 A2 hl
   have E1:=ex_C (g:=g) (N:=N) (p:=p) (m:=m) (sp:=0) (st:=st) (cs:=ms) (n:=16) A1 ⟨by omega,by omega⟩ (by omega) (by omega)
   rw [show ms ((16:Int)).toNat=a from c4] at E1
   have E2:=ex_S (g:=g) (N:=N) (p:=p) (m:=m) (sp:=0) (st:=(upd st 0 (a))) (cs:=ms) A2 (by omega) (by omega)
   rw [show (upd st 0 (a)) 0=a by simp [upd]] at E2
   exact Does.fin (F:=⟨pc,a,x,cs⟩) (by simp only [flt,hk,hx,Int.reduceEq,if_true,if_false,Bool.false_eq_true]) (E1.fin E2) (by omega) (by omega)
theorem runF_succ (q p:Nat→Int) (m f:Nat) (S:Flt):runF q p m (f+1) S=if (flt q p m S).done=true then (flt q p m S).v else runF q p m f (flt q p m S).S:=rfl
theorem code_runs (h:Good q n) (hn:n≤256) (hp:Oct p) (hm:m≤2000) (hc:CodeOf q n g) (hN:N=start q n):∀ (f:Nat) (S:Flt) (M:Mst),FInv n S→Cor q S M→n≤S.pc+f→∀ e s,∃ c,1≤c∧c≤8*f∧execM g N p m (e+8*f) s M=(runF q p m f S,s+c,0)
 | 0,S,M,hI,_,hf,_,_=>absurd hI.pc (by omega)
 | f+1,S,M,hI,hC,hf,e,s=>by
  rcases does_any h hn hp hm hI hc hN hC with ⟨hd,c,c1,c8,hF⟩ | ⟨hd,c,M',c1,c8,hG,hC'⟩
  ·refine ⟨c,c1,by omega,?_⟩
   rw [show e+8*(f+1)=(e+8*(f+1)-c)+c by omega,hF]
   rw [runF_succ,if_pos hd]
  ·obtain ⟨hI',hpc⟩:=flt_inv h hp hm hI hd
   obtain ⟨c',d1,d8,hR⟩:=code_runs h hn hp hm hc hN f _ M' hI' hC' (by omega) (e+8-c) (s+c)
   refine ⟨c+c',by omega,by omega,?_⟩
   rw [show e+8*(f+1)=(e+8-c+8*f)+c by omega,hG,hR]
   rw [runF_succ,if_neg (by simp [hd]),Nat.add_assoc]
end
end Go.Proofs.YthbcfepbkkbjiaaGreatDoor
namespace Go.Proofs.YthbcfepbkkbjiaaGreatDoor
open Go.RowKit
def pc0 (q:Nat→Int) (i:Nat):List Int:=piece (kd (q (4*i))) (q (4*i+3)) 0 0
def code0 (q:Nat→Int):Nat→List Int
 | 0=>[]
 | i+1=>code0 q i++pc0 q i
def full (q:Nat→Int):Nat→List Int
 | 0=>[]
 | i+1=>full q i++fp q i
def rest0 (q:Nat→Int):Nat→Nat→List Int
 | _,0=>[]
 | i,d+1=>pc0 q i++rest0 q (i+1) d
def gapsI (q:Nat→Int) (i:Nat):List (Int × Int) :=
 if (kd (q (4*i))).kind=10 then [((start q (i+1):Int),(i:Int)+1+q (4*i+3))]
 else if (kd (q (4*i))).kind=11 then [((start q (i+1):Int)-3,(i:Int)+1+q (4*i+1)),((start q (i+1):Int),(i:Int)+1+q (4*i+2))]
 else []
def gapsU (q:Nat→Int):Nat→List (Int × Int)
 | 0=>[]
 | i+1=>gapsU q i++gapsI q i
def set2 (l:List Int) (r:Nat) (d:Int):List Int:=(l.set r (d/256%256)).set (r+1) (d%256)
def fill1 (q:Nat→Int) (l:List Int) (g:Int × Int):List Int:=set2 l (g.1.toNat-2) ((start q g.2.toNat:Int)-g.1)
def fill (q:Nat→Int) (l:List Int) (gs:List (Int × Int)):List Int:=gs.foldl (fill1 q) l
theorem code0_len (q:Nat→Int):∀ i,(code0 q i).length=start q i
 | 0=>rfl
 | i+1=>by unfold code0 start;rw [List.length_append,code0_len q i];congr 1;exact piece_len _ _ _ _
theorem full_len (q:Nat→Int):∀ i,(full q i).length=start q i
 | 0=>rfl
 | i+1=>by unfold full start;rw [List.length_append,full_len q i];congr 1;exact piece_len _ _ _ _
theorem rest0_snoc (q:Nat→Int):∀ (i d:Nat),rest0 q i d++pc0 q (i+d)=rest0 q i (d+1)
 | i,0=>by simp [rest0]
 | i,d+1=>by
  show (pc0 q i++rest0 q (i+1) d)++pc0 q (i+(d+1))=pc0 q i++rest0 q (i+1) (d+1)
  rw [List.append_assoc,show i+(d+1)=(i+1)+d by omega,rest0_snoc q (i+1) d]
theorem code0_split (q:Nat→Int) (i:Nat):∀ d,code0 q (i+d)=code0 q i++rest0 q i d
 | 0=>by simp [rest0]
 | d+1=>by
  rw [show i+(d+1)=(i+d)+1 by omega]
  show code0 q (i+d)++pc0 q (i+d)=_
  rw [code0_split q i d,List.append_assoc]
  congr 1
  exact rest0_snoc q i d
theorem set_mid (A P B:List Int) (r:Nat) (x:Int) (h:r<P.length):(A++(P++B)).set (A.length+r) x=A++(P.set r x++B):=by
 rw [List.set_append_right (s:=A) (t:=P++B) (A.length+r) x (by omega),show A.length+r-A.length=r by omega,List.set_append_left (s:=P) (t:=B) r x h]
theorem set2_mid (A P B:List Int) (r:Nat) (d:Int) (h:r+1<P.length) (p:Nat) (hp:p=A.length+r):set2 (A++(P++B)) p d=A++(set2 P r d++B):=by
 subst hp
 unfold set2
 rw [set_mid A P B r _ (by omega),Nat.add_assoc,set_mid A _ B (r+1) _ (by simp;omega)]
theorem dist2_10 {q:Nat→Int} {i:Nat} (h:(kd (q (4*i))).kind=10) (h0:0≤q (4*i+3)):(start q ((i:Int)+1+q (4*i+3)).toNat:Int)-start q (i+1)=dist2 q i:=by
 unfold dist2
 rw [if_pos h,show ((i:Int)+1+q (4*i+3)).toNat=i+1+(q (4*i+3)).toNat by omega]
theorem dist2_11 {q:Nat→Int} {i:Nat} (h:(kd (q (4*i))).kind=11) (h0:0≤q (4*i+2)):(start q ((i:Int)+1+q (4*i+2)).toNat:Int)-start q (i+1)=dist2 q i:=by
 unfold dist2
 rw [if_neg (by omega),show ((i:Int)+1+q (4*i+2)).toNat=i+1+(q (4*i+2)).toNat by omega]
theorem dist1_11 {q:Nat→Int} {i:Nat} (h0:0≤q (4*i+1)):(start q ((i:Int)+1+q (4*i+1)).toNat:Int)-((start q (i+1):Int)-3)=dist1 q i:=by
 unfold dist1
 rw [show ((i:Int)+1+q (4*i+1)).toNat=i+1+(q (4*i+1)).toNat by omega]
 omega
theorem fill_step {q:Nat→Int} (hq:Num q) (i d:Nat):fill q (full q i++rest0 q i (d+1)) (gapsI q i)=full q (i+1)++rest0 q (i+1) d:=by
 have z1:=hq (4*i+1)
 have z2:=hq (4*i+2)
 have z3:=hq (4*i+3)
 have hl:=full_len q i
 have hL:start q (i+1)=start q i+plen (kd (q (4*i))):=rfl
 show fill q (full q i++(pc0 q i++rest0 q (i+1) d)) _=(full q i++fp q i)++rest0 q (i+1) d
 rw [List.append_assoc]
 by_cases e10:(kd (q (4*i))).kind=10
 ·have p0:pc0 q i=[7,0,0]:=by simp only [pc0,piece,e10,Int.reduceEq,if_true,if_false];rfl
  have pf:fp q i=[7,dist2 q i/256%256,dist2 q i%256]:=by simp only [fp,piece,e10,Int.reduceEq,if_true,if_false];rfl
  have hp:plen (kd (q (4*i)))=3:=by have:(pc0 q i).length=_:=piece_len (kd (q (4*i))) (q (4*i+3)) 0 0;rw [p0] at this;exact this.symm
  unfold gapsI
  rw [if_pos e10]
  show fill1 q _ _=_
  unfold fill1
  dsimp only
  rw [dist2_10 e10 z3.1,p0,pf,set2_mid (full q i) [7,0,0] _ 1 _ (by decide) _ (by omega)]
  rfl
 ·by_cases e11:(kd (q (4*i))).kind=11
  ·unfold gapsI
   rw [if_neg e10,if_pos e11]
   show fill1 q (fill1 q _ _) _=_
   unfold fill1
   dsimp only
   rw [dist1_11 z1.1,dist2_11 e11 z2.1]
   cases hx:(kd (q (4*i))).x with
   | false =>
    have p0:pc0 q i=pC 16++(pW (q (4*i+3))++(([8,(kd (q (4*i))).o]++b2 0)++([7]++b2 0))):=by simp only [pc0,piece,e11,hx,Int.reduceEq,if_true,if_false,Bool.false_eq_true]
    have pf:fp q i=pC 16++(pW (q (4*i+3))++(([8,(kd (q (4*i))).o]++b2 (dist1 q i))++([7]++b2 (dist2 q i)))):=by simp only [fp,piece,e11,hx,Int.reduceEq,if_true,if_false,Bool.false_eq_true]
    have hp:plen (kd (q (4*i)))=14:=by have:(pc0 q i).length=_:=piece_len (kd (q (4*i))) (q (4*i+3)) 0 0;rw [p0] at this;exact this.symm
    rw [p0,pf,set2_mid (full q i) _ _ 9 _ (by simp [pC,pW,b2]) _ (by omega),set2_mid (full q i) _ _ 12 _ (by simp [pC,pW,b2,set2]) _ (by omega)]
    rfl
   | true =>
    have p0:pc0 q i=pC 16++(pC 17++(([8,(kd (q (4*i))).o]++b2 0)++([7]++b2 0))):=by simp only [pc0,piece,e11,hx,Int.reduceEq,if_true,if_false,Bool.false_eq_true]
    have pf:fp q i=pC 16++(pC 17++(([8,(kd (q (4*i))).o]++b2 (dist1 q i))++([7]++b2 (dist2 q i)))):=by simp only [fp,piece,e11,hx,Int.reduceEq,if_true,if_false,Bool.false_eq_true]
    have hp:plen (kd (q (4*i)))=11:=by have:(pc0 q i).length=_:=piece_len (kd (q (4*i))) (q (4*i+3)) 0 0;rw [p0] at this;exact this.symm
    rw [p0,pf,set2_mid (full q i) _ _ 6 _ (by simp [pC,pW,b2]) _ (by omega),set2_mid (full q i) _ _ 9 _ (by simp [pC,pW,b2,set2]) _ (by omega)]
    rfl
  ·have e:pc0 q i=fp q i:=by
    simp only [pc0,fp,piece,e10,e11,if_false]
   unfold gapsI
   rw [if_neg e10,if_neg e11,e]
   rfl
theorem fill_all {q:Nat→Int} (hq:Num q) (n:Nat):∀ i,i≤n→fill q (code0 q n) (gapsU q i)=full q i++rest0 q i (n-i)
 | 0,_=>by
  have:=code0_split q 0 n
  rw [Nat.zero_add] at this
  rw [this]
  rfl
 | i+1,h=>by
  show (gapsU q i++gapsI q i).foldl (fill1 q) (code0 q n)=_
  rw [List.foldl_append]
  have ih:=fill_all hq n i (by omega)
  unfold fill at ih
  rw [ih,show n-i=(n-(i+1))+1 by omega]
  exact fill_step hq i (n-(i+1))
theorem fill_full {q:Nat→Int} (hq:Num q) (n:Nat):fill q (code0 q n) (gapsU q n)=full q n:=by
 rw [fill_all hq n n (Nat.le_refl _),Nat.sub_self]
 simp [rest0]
theorem full_split (q:Nat→Int) (i:Nat):∀ d,∃ t,full q (i+1+d)=full q i++(fp q i++t)
 | 0=>⟨[],by show full q i++fp q i=_;simp⟩
 | d+1=>by
  obtain ⟨t,ht⟩:=full_split q i d
  exact ⟨t++fp q (i+1+d),by rw [show i+1+(d+1)=(i+1+d)+1 by omega];show full q (i+1+d)++fp q (i+1+d)=_;rw [ht];simp [List.append_assoc]⟩
def codeF (q:Nat→Int) (n:Nat):Nat→Int:=fun j=>(full q n).getD j 0
theorem codeF_of (q:Nat→Int) (n:Nat):CodeOf q n (codeF q n):=fun i hi=>by
 obtain ⟨t,ht⟩:=full_split q i (n-(i+1))
 rw [show i+1+(n-(i+1))=n by omega] at ht
 have:At (codeF q n) 0 (full q i++(fp q i++t)):=fun r hr=>by rw [← ht,Nat.zero_add];rfl
 have h2:=this.app.2
 rw [Nat.zero_add,full_len] at h2
 exact h2.app.1
def octs (l:List Int):Prop:=∀ b ∈ l,0≤b∧b≤255
theorem octs_app {a b:List Int} (h1:octs a) (h2:octs b):octs (a++b):=fun x hx=>by
 rcases List.mem_append.1 hx with h | h
 ·exact h1 x h
 ·exact h2 x h
theorem octs_ite {c:Prop} [Decidable c] {a b:List Int} (h1:c→octs a) (h2:¬ c→octs b):octs (if c then a else b):=by
 by_cases h:c
 ·rw [if_pos h];exact h1 h
 ·rw [if_neg h];exact h2 h
theorem octs_W (k:Int):octs (pW k):=fun x hx=>by
 simp only [pW,List.mem_cons,List.not_mem_nil,or_false] at hx
 rcases hx with rfl | rfl | rfl | rfl | rfl <;> omega
theorem octs_b2 (k:Int):octs (b2 k):=fun x hx=>by
 simp only [b2,List.mem_cons,List.not_mem_nil,or_false] at hx
 rcases hx with rfl | rfl <;> omega
theorem octs_two {a b:Int} (h1:0≤a∧a≤255) (h2:0≤b∧b≤255):octs [a,b]:=fun x hx=>by
 simp only [List.mem_cons,List.not_mem_nil,or_false] at hx
 rcases hx with rfl | rfl <;> assumption
theorem octs_one {a:Int} (h1:0≤a∧a≤255):octs [a]:=fun x hx=>by
 simp only [List.mem_cons,List.not_mem_nil,or_false] at hx
 subst hx;exact h1
theorem piece_oct {C k:Int} (hC:okk C=true) (hk:((kd C).kind=3∨(kd C).kind=6)→0≤k∧k<16) (d1 d2:Int):octs (piece (kd C) k d1 d2):=by
 obtain ⟨r1,r2,r3,r4,r5⟩:=kd_range C hC
 generalize kd C=r at *
 have h16:octs (pC 16):=octs_two (by omega) (by omega)
 have h17:octs (pC 17):=octs_two (by omega) (by omega)
 have o16:octs (oC 16):=octs_two (by omega) (by omega)
 have o17:octs (oC 17):=octs_two (by omega) (by omega)
 have y:octs (if r.x=true then pC 17 else pW k):=octs_ite (fun _=>h17) (fun _=>octs_W _)
 have ox:octs (oC (if r.x=true then 17 else 16)):=by split <;> assumption
 unfold piece
 refine octs_ite (fun e=>?_) (fun _=>octs_ite (fun e=>?_) (fun _=>octs_ite (fun e=>?_) (fun _=>octs_ite (fun e=>?_) (fun _=>octs_ite (fun e=>?_) (fun _=>octs_ite (fun e=>?_) (fun _=>octs_ite (fun e=>?_) (fun _=>octs_ite (fun e=>?_) (fun _=>octs_ite (fun e=>?_) (fun _=>octs_ite (fun e=>?_) (fun _=>octs_ite (fun e=>?_) (fun _=>?_)))))))))))
 ·exact octs_app (octs_ite (fun _=>h17) (fun _=>octs_W _)) (octs_app (octs_W _) (octs_app (octs_two (by omega) (by have:=r3 e;omega)) o16))
 ·exact octs_app (octs_W _) (octs_app (octs_W _) (octs_app (octs_two (by omega) (by omega)) (octs_app (octs_W _) (octs_app (octs_two (by omega) (by omega)) (octs_app (octs_W _) (octs_app (octs_two (by omega) (by omega)) o17))))))
 ·exact octs_app (octs_W _) ox
 ·exact octs_app (octs_two (by omega) (by have:=hk (Or.inl e);omega)) ox
 ·exact octs_app (octs_one (by omega)) ox
 ·exact octs_app (by split <;> assumption) (octs_two (by omega) (by have:=hk (Or.inr e);omega))
 ·exact octs_app (by split <;> assumption) ox
 ·exact octs_app h16 (octs_app y (octs_app (octs_two (by omega) (by have:=r4 e;omega)) o16))
 ·exact octs_app (octs_W _) (octs_app h16 (octs_app (octs_two (by omega) (by omega)) o16))
 ·exact octs_app (octs_one (by omega)) (octs_b2 _)
 ·exact octs_app h16 (octs_app y (octs_app (octs_app (octs_two (by omega) (by have:=r5 e;omega)) (octs_b2 _)) (octs_app (octs_one (by omega)) (octs_b2 _))))
 ·exact octs_app (octs_ite (fun _=>h16) (fun _=>octs_W _)) (octs_one (by omega))
theorem full_oct {q:Nat→Int} {n:Nat} (h:Good q n):∀ i,i≤n→octs (full q i)
 | 0,_=>fun x hx=>by cases hx
 | i+1,hi=>octs_app (full_oct h i (by omega)) (by
   obtain ⟨g1,g2,_⟩:=h.at (i:=i) (by omega)
   exact piece_oct g1 (fun e=>⟨(h.num (4*i+3)).1,g2 e⟩) _ _)
theorem codeF_oct {q:Nat→Int} {n:Nat} (h:Good q n):Oct (codeF q n):=fun j=>by
 show 0≤(full q n).getD j 0∧(full q n).getD j 0≤255
 by_cases hj:j<(full q n).length
 ·rw [List.getD_eq_getElem?_getD,List.getElem?_eq_getElem hj]
  exact full_oct h n (Nat.le_refl _) _ (List.getElem_mem hj)
 ·rw [List.getD_eq_getElem?_getD,List.getElem?_eq_none (by omega)]
  decide
end Go.Proofs.YthbcfepbkkbjiaaGreatDoor
