import Derived.Test.YthbcfepbkkbjiaaGreatDoorI3
import Derived.Test.YthbcfepbkkbjiaaGreatDoorI8
import Derived.Test.YthbcfepbkkbjiaaGreatDoorI5
set_option linter.unusedVariables false
set_option maxRecDepth 100000
namespace Go.Proofs.YthbcfepbkkbjiaaGreatDoor
open Go.RowKit
def srow (a x:Int) (CB pc:Nat):Nat→Value:=fun j=>if j=0 then .int .i64 a else if j=1 then .int .i64 x else if j=2 then .slice (some ⟨CB,0,none⟩) 16 16 else .int .i64 pc
structure RS (w0 w:World) (T CB:Nat) (S:Flt):Prop where
 gr:w0.grownBy w none
 hT:w0.heap.size≤T
 hC:w0.heap.size≤CB
 ne:T≠CB
 m:Blk w T 137 4 4 (srow S.a S.x CB S.pc)
 cs:Blk w CB 3 16 16 (ints .i64 S.cs)
section
variable {w0 w w':World} {T CB:Nat} {S:Flt}
theorem RS.cells (h:RS w0 w T CB S):(w.cell? ⟨T,0,none⟩=some (.int .i64 S.a)∧w.cell? ⟨T,1,none⟩=some (.int .i64 S.x)∧w.cell? ⟨T,2,none⟩=some (.slice (some ⟨CB,0,none⟩) 16 16)∧w.cell? ⟨T,3,none⟩=some (.int .i64 S.pc)) ∧
  w.frozen? ⟨T,0,none⟩=false∧w.frozen? ⟨T,1,none⟩=false∧w.frozen? ⟨T,3,none⟩=false :=
 ⟨⟨h.m.cell (j:=0) (by omega),h.m.cell (j:=1) (by omega),h.m.cell (j:=2) (by omega),h.m.cell (j:=3) (by omega)⟩,h.m.frozen 0,h.m.frozen 1,h.m.frozen 3⟩
theorem RS.keep (h:RS w0 w T CB S) (hg:w.grownBy w' none):RS w0 w' T CB S:=⟨grown_trans h.gr hg,h.hT,h.hC,h.ne,h.m.keep hg (by simp),h.cs.keep hg (by simp)⟩
theorem RS.drew (h:RS w0 w T CB S):RS w0 w.drew T CB S:=h.keep (grown_drew (grown_refl _ _))
theorem RS.drewN (h:RS w0 w T CB S) (k:Nat):RS w0 (w.drewN k) T CB S:=h.keep (grown_drewN _ _ _)
theorem RS.allo (h:RS w0 w T CB S) (o:Obj):RS w0 (w.alloc o) T CB S:=h.keep (World.grownBy_alloc _ _ none)
theorem RS.setA (h:RS w0 w T CB S) (v:Int):RS w0 (w.setCell ⟨T,0,none⟩ (.int .i64 v)) T CB ⟨S.pc,v,S.x,S.cs⟩:=by
 have hg:=grown_setCell w ⟨T,0,none⟩ (.int .i64 v)
 refine ⟨grown_set h.gr h.hT _,h.hT,h.hC,h.ne,(h.m.set' (j:=0) (by omega) _).congr fun j hj=>?_,h.cs.keep hg (by simp;exact fun e=>h.ne e.symm)⟩
 match j,hj with
 | 0,_=>rfl
 | 1,_=>rfl
 | 2,_=>rfl
 | 3,_=>rfl
theorem RS.setX (h:RS w0 w T CB S) (v:Int):RS w0 (w.setCell ⟨T,1,none⟩ (.int .i64 v)) T CB ⟨S.pc,S.a,v,S.cs⟩:=by
 have hg:=grown_setCell w ⟨T,1,none⟩ (.int .i64 v)
 refine ⟨grown_set h.gr h.hT _,h.hT,h.hC,h.ne,(h.m.set' (j:=1) (by omega) _).congr fun j hj=>?_,h.cs.keep hg (by simp;exact fun e=>h.ne e.symm)⟩
 match j,hj with
 | 0,_=>rfl
 | 1,_=>rfl
 | 2,_=>rfl
 | 3,_=>rfl
theorem RS.setPc (h:RS w0 w T CB S) (pc:Nat) (v:Int) (hv:v=pc):RS w0 (w.setCell ⟨T,3,none⟩ (.int .i64 v)) T CB ⟨pc,S.a,S.x,S.cs⟩:=by
 subst hv
 have hg:=grown_setCell w ⟨T,3,none⟩ (.int .i64 pc)
 refine ⟨grown_set h.gr h.hT _,h.hT,h.hC,h.ne,(h.m.set' (j:=3) (by omega) _).congr fun j hj=>?_,h.cs.keep hg (by simp;exact fun e=>h.ne e.symm)⟩
 match j,hj with
 | 0,_=>rfl
 | 1,_=>rfl
 | 2,_=>rfl
 | 3,_=>rfl
theorem RS.setCs (h:RS w0 w T CB S) (i:Nat) (hi:i<16) (v:Int):RS w0 (w.setCell ⟨CB,i,none⟩ (.int .i64 v)) T CB ⟨S.pc,S.a,S.x,upd S.cs i v⟩:=by
 have hg:=grown_setCell w ⟨CB,i,none⟩ (.int .i64 v)
 refine ⟨grown_set h.gr h.hC _,h.hT,h.hC,h.ne,h.m.keep hg (by simp;exact h.ne),(h.cs.set' hi _).congr fun j hj=>?_⟩
 show (if j=i then Value.int .i64 v else .int .i64 (S.cs j))=.int .i64 (upd S.cs i v j)
 unfold upd;split <;> rfl
end
set_option maxHeartbeats 1000000 in
theorem put_x (w0 w:World) (T CB:Nat) (S:Flt) (f0 f1 f2 f4 c jt jf v k:Int) (m:Nat) (h:RS w0 w T CB S) (hk:(f1=2∧v=k)∨(f1=3∧0≤k∧k<16∧v=S.cs k.toNat)∨(f1=4∧v=m)) :
  Calls Tryz.prog 111 #[.pointer (some ⟨T,0,none⟩),.agg #[.int .i64 f0,.int .i64 f1,.int .i64 f2,.bool true,.int .i64 f4],.agg #[.int .i64 c,.int .i64 jt,.int .i64 jf,.int .i64 k],.int .i64 m] w
   fun e w'=>e=.returned (.tuple #[])∧RS w0 w' T CB ⟨S.pc,S.a,v,S.cs⟩:=by
 obtain ⟨⟨c0,c1,c2,c3⟩,z0,z1,z3⟩:=h.cells
 have HH:Hid (RS w0 w T CB S):=h
 have lT:=h.m.lt
 have lC:=h.cs.lt
 have cX:∀ k<16,w.cell? ⟨CB,k,none⟩=some (.int .i64 (S.cs k)):=fun k hk=>h.cs.cell hk
 clear h
 rcases hk with ⟨hk,rfl⟩ | ⟨hk,k0,k16,rfl⟩ | ⟨hk,rfl⟩
 ·rw [hk]
  clear cX
  go_enter Tryz.func111,Tryz.ntmps111
  go_wp2
  go_end0
  exact ⟨rfl,RS.allo (RS.allo (HH.out.setX _) _) _⟩
 ·rw [hk]
  have cx:=cX k.toNat (by omega)
  clear cX
  go_enter Tryz.func111,Tryz.ntmps111
  go_wp2
  go_quiet (fail)
  go_wp2
  go_end0
  exact ⟨rfl,(((HH.out.allo _).allo _).drewN _).setX _⟩
 ·rw [hk]
  clear cX
  go_enter Tryz.func111,Tryz.ntmps111
  go_wp2
  go_end0
  exact ⟨rfl,RS.allo (RS.allo (HH.out.setX _) _) _⟩
set_option maxHeartbeats 1000000 in
theorem put_a (w0 w:World) (T CB:Nat) (S:Flt) (f0 f1 f2 f4 c jt jf v k:Int) (m:Nat) (h:RS w0 w T CB S) (hk:(f1=2∧v=k)∨(f1=3∧0≤k∧k<16∧v=S.cs k.toNat)∨(f1=4∧v=m)) :
  Calls Tryz.prog 111 #[.pointer (some ⟨T,0,none⟩),.agg #[.int .i64 f0,.int .i64 f1,.int .i64 f2,.bool false,.int .i64 f4],.agg #[.int .i64 c,.int .i64 jt,.int .i64 jf,.int .i64 k],.int .i64 m] w
   fun e w'=>e=.returned (.tuple #[])∧RS w0 w' T CB ⟨S.pc,v,S.x,S.cs⟩:=by
 obtain ⟨⟨c0,c1,c2,c3⟩,z0,z1,z3⟩:=h.cells
 have HH:Hid (RS w0 w T CB S):=h
 have lT:=h.m.lt
 have lC:=h.cs.lt
 have cX:∀ k<16,w.cell? ⟨CB,k,none⟩=some (.int .i64 (S.cs k)):=fun k hk=>h.cs.cell hk
 clear h
 rcases hk with ⟨hk,rfl⟩ | ⟨hk,k0,k16,rfl⟩ | ⟨hk,rfl⟩
 ·rw [hk]
  clear cX
  go_enter Tryz.func111,Tryz.ntmps111
  go_wp2
  go_end0
  exact ⟨rfl,RS.allo (RS.allo (HH.out.setA _) _) _⟩
 ·rw [hk]
  have cx:=cX k.toNat (by omega)
  clear cX
  go_enter Tryz.func111,Tryz.ntmps111
  go_wp2
  go_quiet (fail)
  go_wp2
  go_end0
  exact ⟨rfl,(((HH.out.allo _).allo _).drewN _).setA _⟩
 ·rw [hk]
  clear cX
  go_enter Tryz.func111,Tryz.ntmps111
  go_wp2
  go_end0
  exact ⟨rfl,RS.allo (RS.allo (HH.out.setA _) _) _⟩
structure Fsp (w0 w:World) (T CB lb loff n:Nat) (q:Nat→Int) (po:Option Addr) (m:Nat) (p:Nat→Int) (S:Flt):Prop where
 hn:n≤256
 hm:m≤2000
 good:Good q n
 hp:Oct p
 inv:FInv n S
 rs:RS w0 w T CB S
 row:Row w0 .i64 lb loff (4*n) q
 src:Src w0 .u8 po m p
end Go.Proofs.YthbcfepbkkbjiaaGreatDoor
namespace Go.Proofs.YthbcfepbkkbjiaaGreatDoor
open Go.RowKit
def szmap (D:Int):Option Value:=if D=177 then some (.int .i64 1) else if D=80 then some (.int .i64 1) else if D=72 then some (.int .i64 2) else if D=64 then some (.int .i64 4) else if D=48 then some (.int .i64 1) else if D=40 then some (.int .i64 2) else if D=32 then some (.int .i64 4) else none
set_option maxHeartbeats 2000000 in
theorem sizes_any (w:World):Calls Tryz.prog 71 #[] w fun e w'=>e=.returned (.map (some w.heap.size))∧IMap w' w.heap.size szmap∧w.grownBy w' none:=by
 have hmm:=@run_makeMap Tryz.prog
 have h0:IMap (w.alloc (.map #[] 0)) w.heap.size (fun _=>none)∧w.grownBy (w.alloc (.map #[] 0)) none:=⟨imap_new w,grown_alloc (grown_refl w none) (.map #[] 0)⟩
 go_enter Tryz.func71,Tryz.ntmps71
 go_wp2_with (refine wpList_put_own _ w rfl _ _ _ 125 rfl 3 3 Tryz.underlying125 Tryz.underlying3 w.heap.size _ _ _ _ rfl rfl rfl (by assumption) (Nat.le_refl _) ?_;clear h0;intro w0 h0)
 go_ret
 exact ⟨rfl,h0.1,h0.2⟩
def opmap (D:Int):Option Value:=if D=124 then some (.int .i64 9) else if D=116 then some (.int .i64 9) else if D=108 then some (.int .i64 8) else if D=100 then some (.int .i64 8) else if D=172 then some (.int .i64 7) else if D=164 then some (.int .i64 7) else if D=92 then some (.int .i64 6) else if D=84 then some (.int .i64 6) else if D=76 then some (.int .i64 5) else if D=68 then some (.int .i64 5) else if D=156 then some (.int .i64 4) else if D=148 then some (.int .i64 4) else if D=60 then some (.int .i64 3) else if D=52 then some (.int .i64 3) else if D=44 then some (.int .i64 2) else if D=36 then some (.int .i64 2) else if D=28 then some (.int .i64 1) else if D=20 then some (.int .i64 1) else if D=12 then some (.int .i64 0) else if D=4 then some (.int .i64 0) else none
set_option maxHeartbeats 2000000 in
theorem operators_any (w:World):Calls Tryz.prog 72 #[] w fun e w'=>e=.returned (.map (some w.heap.size))∧IMap w' w.heap.size opmap∧w.grownBy w' none:=by
 have hmm:=@run_makeMap Tryz.prog
 have h0:IMap (w.alloc (.map #[] 0)) w.heap.size (fun _=>none)∧w.grownBy (w.alloc (.map #[] 0)) none:=⟨imap_new w,grown_alloc (grown_refl w none) (.map #[] 0)⟩
 go_enter Tryz.func72,Tryz.ntmps72
 go_wp2_with (refine wpList_put_own _ w rfl _ _ _ 127 rfl 3 189 Tryz.underlying127 Tryz.underlying3 w.heap.size _ _ _ _ rfl rfl rfl (by assumption) (Nat.le_refl _) ?_;clear h0;intro w0 h0)
 go_ret
 exact ⟨rfl,h0.1,h0.2⟩
def qumap (D:Int):Option Value:=if D=77 then some (.int .i64 3) else if D=69 then some (.int .i64 3) else if D=61 then some (.int .i64 2) else if D=53 then some (.int .i64 2) else if D=45 then some (.int .i64 1) else if D=37 then some (.int .i64 1) else if D=29 then some (.int .i64 0) else if D=21 then some (.int .i64 0) else none
set_option maxHeartbeats 2000000 in
theorem questions_any (w:World):Calls Tryz.prog 73 #[] w fun e w'=>e=.returned (.map (some w.heap.size))∧IMap w' w.heap.size qumap∧w.grownBy w' none:=by
 have hmm:=@run_makeMap Tryz.prog
 have h0:IMap (w.alloc (.map #[] 0)) w.heap.size (fun _=>none)∧w.grownBy (w.alloc (.map #[] 0)) none:=⟨imap_new w,grown_alloc (grown_refl w none) (.map #[] 0)⟩
 go_enter Tryz.func73,Tryz.ntmps73
 go_wp2_with (refine wpList_put_own _ w rfl _ _ _ 129 rfl 3 190 Tryz.underlying129 Tryz.underlying3 w.heap.size _ _ _ _ rfl rfl rfl (by assumption) (Nat.le_refl _) ?_;clear h0;intro w0 h0)
 go_ret
 exact ⟨rfl,h0.1,h0.2⟩
end Go.Proofs.YthbcfepbkkbjiaaGreatDoor
namespace Go.Proofs.YthbcfepbkkbjiaaGreatDoor
open Go.RowKit
def qrow (pv:Value) (S:Flt) (en:Bool) (vd:Int) (KB SB OB UB:Nat):Nat→Value:=fun j =>
 if j=0 then pv else if j=1 then .int .u32 S.a else if j=2 then .int .u32 S.x else if j<19 then .int .u32 (S.cs (j-3)) else if j=19 then .int .i64 S.pc else if j=20 then .bool en else if j=21 then .int .u32 vd
 else if j=22 then .map (some KB) else if j=23 then .map (some SB) else if j=24 then .map (some OB) else .map (some UB)
structure QM (w0 w:World) (M KB SB OB UB:Nat) (pv:Value) (S:Flt) (en:Bool) (vd:Int):Prop where
 gr:w0.grownBy w none
 hM:w0.heap.size≤M
 m:Blk w M 133 26 26 (qrow pv S en vd KB SB OB UB)
 nk:KB≠M
 ns:SB≠M
 no:OB≠M
 nu:UB≠M
 ik:IMap w KB kmap
 iz:IMap w SB szmap
 io:IMap w OB opmap
 iu:IMap w UB qumap
section
variable {w0 w w':World} {M KB SB OB UB:Nat} {pv:Value} {S:Flt} {en:Bool} {vd:Int}
theorem QM.cells (h:QM w0 w M KB SB OB UB pv S en vd) :
  w.cell? ⟨M,0,none⟩=some pv∧w.cell? ⟨M,1,none⟩=some (.int .u32 S.a)∧w.cell? ⟨M,2,none⟩=some (.int .u32 S.x)∧w.cell? ⟨M,19,none⟩=some (.int .i64 S.pc)∧w.cell? ⟨M,20,none⟩=some (.bool en)∧w.cell? ⟨M,21,none⟩=some (.int .u32 vd) ∧
  w.cell? ⟨M,22,none⟩=some (.map (some KB))∧w.cell? ⟨M,23,none⟩=some (.map (some SB))∧w.cell? ⟨M,24,none⟩=some (.map (some OB))∧w.cell? ⟨M,25,none⟩=some (.map (some UB)) :=
 ⟨h.m.cell (j:=0) (by omega),h.m.cell (j:=1) (by omega),h.m.cell (j:=2) (by omega),h.m.cell (j:=19) (by omega),h.m.cell (j:=20) (by omega),h.m.cell (j:=21) (by omega),h.m.cell (j:=22) (by omega),h.m.cell (j:=23) (by omega),h.m.cell (j:=24) (by omega),h.m.cell (j:=25) (by omega)⟩
theorem QM.free (h:QM w0 w M KB SB OB UB pv S en vd):w.frozen? ⟨M,1,none⟩=false∧w.frozen? ⟨M,2,none⟩=false∧w.frozen? ⟨M,19,none⟩=false∧w.frozen? ⟨M,20,none⟩=false∧w.frozen? ⟨M,21,none⟩=false :=
 ⟨h.m.frozen 1,h.m.frozen 2,h.m.frozen 19,h.m.frozen 20,h.m.frozen 21⟩
theorem QM.cs (h:QM w0 w M KB SB OB UB pv S en vd) {i:Nat} (hi:i<16):w.cell? ⟨M,3+i,none⟩=some (.int .u32 (S.cs i)):=by
 have:=h.m.cell (j:=3+i) (by omega)
 rw [this]
 unfold qrow
 rw [if_neg (by omega),if_neg (by omega),if_neg (by omega),if_pos (by omega),show 3+i-3=i by omega]
theorem QM.keep (h:QM w0 w M KB SB OB UB pv S en vd) (hg:w.grownBy w' none):QM w0 w' M KB SB OB UB pv S en vd :=
 ⟨grown_trans h.gr hg,h.hM,h.m.keep hg (by simp),h.nk,h.ns,h.no,h.nu,h.ik.keep hg (by simp),h.iz.keep hg (by simp),h.io.keep hg (by simp),h.iu.keep hg (by simp)⟩
theorem QM.drew (h:QM w0 w M KB SB OB UB pv S en vd):QM w0 w.drew M KB SB OB UB pv S en vd:=h.keep (grown_drew (grown_refl _ _))
theorem QM.drewN (h:QM w0 w M KB SB OB UB pv S en vd) (k:Nat):QM w0 (w.drewN k) M KB SB OB UB pv S en vd:=h.keep (grown_drewN _ _ _)
theorem QM.allo (h:QM w0 w M KB SB OB UB pv S en vd) (o:Obj):QM w0 (w.alloc o) M KB SB OB UB pv S en vd:=h.keep (World.grownBy_alloc _ _ none)
theorem QM.put (h:QM w0 w M KB SB OB UB pv S en vd) (j:Nat) (hj:j<26) (v:Value) (S':Flt) (en':Bool) (vd':Int) (hv:qrow pv S' en' vd' KB SB OB UB j=v) (ho:∀ i,i<26→i≠j→qrow pv S en vd KB SB OB UB i=qrow pv S' en' vd' KB SB OB UB i) :
  QM w0 (w.setCell ⟨M,j,none⟩ v) M KB SB OB UB pv S' en' vd':=by
 have hg:=grown_setCell w ⟨M,j,none⟩ v
 refine ⟨grown_set h.gr h.hM _,h.hM,(h.m.set' hj v).congr fun i hi=>?_,h.nk,h.ns,h.no,h.nu,h.ik.keep hg (by simp;exact h.nk),h.iz.keep hg (by simp;exact h.ns),h.io.keep hg (by simp;exact h.no),h.iu.keep hg (by simp;exact h.nu)⟩
 by_cases e:i=j
 ·subst e;rw [if_pos rfl,hv]
 ·rw [if_neg e];exact ho i hi e
theorem QM.setA (h:QM w0 w M KB SB OB UB pv S en vd) (v:Int):QM w0 (w.setCell ⟨M,1,none⟩ (.int .u32 v)) M KB SB OB UB pv ⟨S.pc,v,S.x,S.cs⟩ en vd :=
 h.put 1 (by omega) _ _ _ _ rfl fun i _ hi=>by unfold qrow;simp only [if_neg hi]
theorem QM.setX (h:QM w0 w M KB SB OB UB pv S en vd) (v:Int):QM w0 (w.setCell ⟨M,2,none⟩ (.int .u32 v)) M KB SB OB UB pv ⟨S.pc,S.a,v,S.cs⟩ en vd :=
 h.put 2 (by omega) _ _ _ _ rfl fun i _ hi=>by unfold qrow;simp only [if_neg hi]
theorem QM.setPc (h:QM w0 w M KB SB OB UB pv S en vd) (pc:Nat) (v:Int) (hv:v=pc):QM w0 (w.setCell ⟨M,19,none⟩ (.int .i64 v)) M KB SB OB UB pv ⟨pc,S.a,S.x,S.cs⟩ en vd:=by
 subst hv
 exact h.put 19 (by omega) _ _ _ _ rfl fun i _ hi=>by unfold qrow;simp only [if_neg hi]
theorem QM.setCs (h:QM w0 w M KB SB OB UB pv S en vd) (k:Nat) (hk:k<16) (v:Int):QM w0 (w.setCell ⟨M,3+k,none⟩ (.int .u32 v)) M KB SB OB UB pv ⟨S.pc,S.a,S.x,upd S.cs k v⟩ en vd:=by
 refine h.put (3+k) (by omega) _ _ _ _ ?_ fun i _ hi=>?_
 ·unfold qrow upd
  dsimp only
  rw [if_neg (by omega),if_neg (by omega),if_neg (by omega),if_pos (by omega),if_pos (by omega)]
 ·unfold qrow upd
  dsimp only
  by_cases h3:3≤i
  ·rw [show (if i-3=k then v else S.cs (i-3))=S.cs (i-3) from if_neg (by omega)]
  ·rcases (by omega:i=0∨i=1∨i=2) with rfl | rfl | rfl <;> rfl
theorem QM.fin (h:QM w0 w M KB SB OB UB pv S en vd) (v:Int):QM w0 ((w.setCell ⟨M,20,none⟩ (.bool true)).setCell ⟨M,21,none⟩ (.int .u32 v)) M KB SB OB UB pv S true v :=
 (h.put 20 (by omega) (.bool true) S true vd rfl fun i _ hi=>by unfold qrow;simp only [if_neg hi]).put 21 (by omega) _ S true v rfl fun i _ hi=>by unfold qrow;simp only [if_neg hi]
end
set_option maxHeartbeats 400000 in
theorem end_any (w0 w:World) (M KB SB OB UB:Nat) (pv:Value) (S:Flt) (en:Bool) (vd v:Int) (h:QM w0 w M KB SB OB UB pv S en vd) :
  Calls Tryz.prog 143 #[.pointer (some ⟨M,0,none⟩),.int .u32 v] w fun e w'=>e=.returned (.tuple #[])∧QM w0 w' M KB SB OB UB pv S true v:=by
 obtain ⟨c0,c1,c2,c3,c4,c5,c6,c7,c8,c9⟩:=h.cells
 obtain ⟨z1,z2,z3,z4,z5⟩:=h.free
 have HH:Hid (QM w0 w M KB SB OB UB pv S en vd):=h
 clear h
 go_enter Tryz.func143,Tryz.ntmps143
 go_wp2
 go_end0
 exact ⟨rfl,HH.out.fin v⟩
set_option maxHeartbeats 400000 in
theorem choose_t (w0 w:World) (M KB SB OB UB:Nat) (pv:Value) (S:Flt) (en:Bool) (vd c:Int) (jt jf:Nat) (k:Int) (h:QM w0 w M KB SB OB UB pv S en vd) (hp:S.pc≤1000000) (h1:jt≤4294967295) (h2:jf≤4294967295) :
  Calls Tryz.prog 142 #[.pointer (some ⟨M,0,none⟩),.agg #[.int .i64 c,.int .i64 jt,.int .i64 jf,.int .i64 k],.bool true] w fun e w'=>e=.returned (.tuple #[])∧QM w0 w' M KB SB OB UB pv ⟨S.pc+jt,S.a,S.x,S.cs⟩ en vd:=by
 obtain ⟨c0,c1,c2,c3,c4,c5,c6,c7,c8,c9⟩:=h.cells
 obtain ⟨z1,z2,z3,z4,z5⟩:=h.free
 have lM:=h.m.lt
 have HH:Hid (QM w0 w M KB SB OB UB pv S en vd):=h
 clear h
 go_enter Tryz.func142,Tryz.ntmps142
 go_wp2
 go_region
 all_goals go_wp2
 go_end0
 exact ⟨rfl,by repeat (first | exact HH.out.setPc (S.pc+jt) _ (by omega) | refine QM.drew ?_ | refine QM.allo ?_ _ | refine QM.drewN ?_ _)⟩
set_option maxHeartbeats 400000 in
theorem choose_f (w0 w:World) (M KB SB OB UB:Nat) (pv:Value) (S:Flt) (en:Bool) (vd c:Int) (jt jf:Nat) (k:Int) (h:QM w0 w M KB SB OB UB pv S en vd) (hp:S.pc≤1000000) (h1:jt≤4294967295) (h2:jf≤4294967295) :
  Calls Tryz.prog 142 #[.pointer (some ⟨M,0,none⟩),.agg #[.int .i64 c,.int .i64 jt,.int .i64 jf,.int .i64 k],.bool false] w fun e w'=>e=.returned (.tuple #[])∧QM w0 w' M KB SB OB UB pv ⟨S.pc+jf,S.a,S.x,S.cs⟩ en vd:=by
 obtain ⟨c0,c1,c2,c3,c4,c5,c6,c7,c8,c9⟩:=h.cells
 obtain ⟨z1,z2,z3,z4,z5⟩:=h.free
 have lM:=h.m.lt
 have HH:Hid (QM w0 w M KB SB OB UB pv S en vd):=h
 clear h
 go_enter Tryz.func142,Tryz.ntmps142
 go_wp2
 go_region
 all_goals go_wp2
 go_end0
 exact ⟨rfl,by repeat (first | exact HH.out.setPc (S.pc+jf) _ (by omega) | refine QM.drew ?_ | refine QM.allo ?_ _ | refine QM.drewN ?_ _)⟩
end Go.Proofs.YthbcfepbkkbjiaaGreatDoor
