import Derived.Laws.Tables
import Derived.Deep.WholeRow
import Derived.Great.Walk
import Derived.Test.YthbcfepbkkbjiaaGreatDoorIRL
import Derived.Test.YthbcfepbkkbjiaaGreatDoorIRA
import Derived.Test.YthbcfepbkkbjiaaGreatDoorI7
import Derived.Test.YthbcfepbkkbjiaaGreatDoorI4
set_option linter.unusedSimpArgs false
set_option linter.unusedVariables false
set_option maxRecDepth 100000
namespace Go.Proofs.YthbcfepbkkbjiaaGreatDoor
open Go.RowKit
theorem wpList_build_eq' {P:Program} {ops:Array Oper} {rest:List Oper} {o:Oper} {a:Act} {w:World} {Q:Exit→Act→World→Prop} (hg:o.guard=none) (t:TypeId) (parts:Array (Nat × Operand)) (ho:o.op=.build t parts) (cells:Array Value)
  (hf:P.built t (parts.map fun (i,x)=>(i,a.eval x)).toList=some cells)
  (h:wpList P ops Q rest (a.put o.dst (.agg cells)) w):wpList P ops Q (o::rest) a w :=
 wpList_build hg t parts ho (by rw [hf];rfl) (by rw [hf];exact h)
theorem Tryz.sizeRun:(Tryz.prog.info? 133).map (·.size)=some 26:=by kernel_rfl
def qcells (po:Option Addr) (m pc KB SB OB UB:Nat):Array Value:=#[.slice po m pc,.int .u32 0,.int .u32 0,.int .u32 0,.int .u32 0,.int .u32 0,.int .u32 0,.int .u32 0,.int .u32 0,.int .u32 0,.int .u32 0,.int .u32 0,.int .u32 0,.int .u32 0,.int .u32 0,.int .u32 0,.int .u32 0,.int .u32 0,.int .u32 0,.int .i64 0,.bool false,.int .u32 0,.map (some KB),.map (some SB),.map (some OB),.map (some UB)]
def zqcells:Array Value:=#[.slice none 0 0,.int .u32 0,.int .u32 0,.int .u32 0,.int .u32 0,.int .u32 0,.int .u32 0,.int .u32 0,.int .u32 0,.int .u32 0,.int .u32 0,.int .u32 0,.int .u32 0,.int .u32 0,.int .u32 0,.int .u32 0,.int .u32 0,.int .u32 0,.int .u32 0,.int .i64 0,.bool false,.int .u32 0,.map none,.map none,.map none,.map none]
theorem qcells_one (po:Option Addr) (m pc KB SB OB UB:Nat):(qcells po m pc KB SB OB UB).all (·.oneCell')=true:=by simp [qcells,Value.oneCell']
theorem Tryz.zeroRun:(Tryz.prog.info? 133).map (fun i=>(i.zero,i.size))=some (some (.agg zqcells),26):=by kernel_rfl
theorem alloc_run (w:World) (ρ:Operand→Value) (o:Oper) (ho:o.op=.alloc 133):(execOp ρ o).run Tryz.prog w=.ok (.value (.pointer (some ⟨w.heap.size,0,none⟩))) (w.alloc (.cells zqcells 133)):=by
 have hz:=(zero_of_info (P:=Tryz.prog) Tryz.zeroRun).1
 simp [execOp,ho,Instr.alloc,hz,newVar,newRow,Value.cells,Result.andThen]
theorem qcells_row (po:Option Addr) (m pc KB SB OB UB:Nat) (j:Nat) (hj:j<26):(qcells po m pc KB SB OB UB).getD j .nilFunc=qrow (.slice po m pc) F0 false 0 KB SB OB UB j:=by
 match j,hj with
 | 0,_=>rfl
 | 1,_=>rfl
 | 2,_=>rfl
 | 3,_=>rfl
 | 4,_=>rfl
 | 5,_=>rfl
 | 6,_=>rfl
 | 7,_=>rfl
 | 8,_=>rfl
 | 9,_=>rfl
 | 10,_=>rfl
 | 11,_=>rfl
 | 12,_=>rfl
 | 13,_=>rfl
 | 14,_=>rfl
 | 15,_=>rfl
 | 16,_=>rfl
 | 17,_=>rfl
 | 18,_=>rfl
 | 19,_=>rfl
 | 20,_=>rfl
 | 21,_=>rfl
 | 22,_=>rfl
 | 23,_=>rfl
 | 24,_=>rfl
 | 25,_=>rfl
 | k+26,h=>exact absurd h (by omega)
theorem qm_new {w w1 w2 w3 w4:World} (po:Option Addr) (m pc:Nat) (h1:IMap w1 w.heap.size kmap) (g1:w.grownBy w1 none) (h2:IMap w2 w1.heap.size szmap) (g2:w1.grownBy w2 none) (h3:IMap w3 w2.heap.size opmap) (g3:w2.grownBy w3 none) (h4:IMap w4 w3.heap.size qumap) (g4:w3.grownBy w4 none) :
  QM w (w4.alloc (.cells (qcells po m pc w.heap.size w1.heap.size w2.heap.size w3.heap.size) 133)) w4.heap.size w.heap.size w1.heap.size w2.heap.size w3.heap.size (.slice po m pc) F0 false 0:=by
 have l1:=h1.lt
 have l2:=h2.lt
 have l3:=h3.lt
 have l4:=h4.lt
 have s1:=g1.size
 have s2:=g2.size
 have s3:=g3.size
 have s4:=g4.size
 have ga:=World.grownBy_alloc w4 (.cells (qcells po m pc w.heap.size w1.heap.size w2.heap.size w3.heap.size) 133) none
 exact ⟨grown_trans (grown_trans (grown_trans (grown_trans g1 g2) g3) g4) ga,by omega,(blk_new w4 _ _).congr fun j hj=>qcells_row po m pc _ _ _ _ j hj,by omega,by omega,by omega,by omega,
  (((h1.keep g2 (by simp)).keep g3 (by simp)).keep g4 (by simp)).keep ga (by simp),((h2.keep g3 (by simp)).keep g4 (by simp)).keep ga (by simp),(h3.keep g4 (by simp)).keep ga (by simp),h4.keep ga (by simp)⟩
def todo (w:World) (M:Nat):Nat:=match w.cell? ⟨M,20,none⟩ with
 | some (.bool true)=>0
 | _=>257-(intOf ((w.cell? ⟨M,19,none⟩).getD (.int .i64 0))).toNat
theorem QM.todo_f {w0 w:World} {M KB SB OB UB:Nat} {pv:Value} {S:Flt} {vd:Int} (h:QM w0 w M KB SB OB UB pv S false vd):todo w M=257-S.pc:=by
 obtain ⟨_,_,_,c3,c4,_⟩:=h.cells
 unfold todo
 rw [c4,c3]
 simp [intOf]
theorem QM.todo_t {w0 w:World} {M KB SB OB UB:Nat} {pv:Value} {S:Flt} {vd:Int} (h:QM w0 w M KB SB OB UB pv S true vd):todo w M=0:=by
 obtain ⟨_,_,_,c3,c4,_⟩:=h.cells
 unfold todo
 rw [c4]
set_option maxHeartbeats 2000000 in
theorem pfilter (lb loff n lc:Nat) (q:Nat→Int) (po:Option Addr) (m pc:Nat) (p:Nat→Int) (w:World) (hn:n≤256) (hm:m≤2000) (hmc:m≤pc) (hp:Oct p) (hR:Row w .i64 lb loff (4*n) q) (hq:Src w .u8 po m p) (hgood:Good q n) :
  Calls Tryz.prog 43 #[.slice (some ⟨lb,loff,none⟩) n lc,.slice po m pc] w fun e w'=>e=.returned (.int .u32 (runF q p m 256 F0))∧w.grownBy w' none:=by
 obtain ⟨R,hRR⟩:∃ R,R=runF q p m 256 F0:=⟨_,rfl⟩
 rw [← hRR]
 have HR:Hid (runF q p m (256-0) F0=R):=hRR.symm
 clear hRR
 go_enter Tryz.func43,Tryz.ntmps43
 go_wp2_with (first | (go_at_call 70;refine (kinds_any _).mono ?_;rintro e w1 ⟨rfl,hb1,hg1⟩) | (go_at_call 71;refine (sizes_any _).mono ?_;rintro e w2 ⟨rfl,hb2,hg2⟩) | (go_at_call 72;refine (operators_any _).mono ?_;rintro e w3 ⟨rfl,hb3,hg3⟩) | (go_at_call 73;refine (questions_any _).mono ?_;rintro e w4 ⟨rfl,hb4,hg4⟩) | (refine wpList_build_eq' rfl 133 _ rfl (qcells po m pc w.heap.size w1.heap.size w2.heap.size w3.heap.size) (by kernel_rfl) ?_;refine Go.Great.wpList_allocTo rfl _ rfl (.pointer (some ⟨w4.heap.size,0,none⟩)) (.cells zqcells 133) (alloc_run w4 _ _ rfl) ?_;refine wpList_store_row rfl 133 _ _ rfl w4.heap.size (qcells po m pc w.heap.size w1.heap.size w2.heap.size w3.heap.size) rfl rfl 133 zqcells (heap_top _ _ _ rfl) Tryz.sizeRun rfl (qcells_one _ _ _ _ _ _ _) ?_;rw [World.setRow_alloc_new]))
 go_frame
 go_loopw [] (fun wr=>∃ (S:Flt) (en:Bool) (vd:Int),QM w wr w4.heap.size w.heap.size w1.heap.size w2.heap.size w3.heap.size (.slice po m pc) S en vd∧((en=true∧vd=R)∨(en=false∧∃ k,k≤S.pc∧FInv n S∧Hid (runF q p m (256-k) S=R)))) (fun wr=>todo wr w4.heap.size)
 case atStart=>exact ⟨F0,false,0,qm_new po m pc hb1 hg1 hb2 hg2 hb3 hg3 hb4 hg4,Or.inr ⟨rfl,0,Nat.zero_le _,finv0 hgood.pos,HR⟩⟩
 case round =>
  clear HR
  obtain ⟨S,en,vd,hM,hS⟩:=hrel
  rcases hS with ⟨rfl,rfl⟩ | ⟨rfl,k,hk,hI,hX⟩
  ·obtain ⟨d0,d1,d2,d3,d4,d5,d6,d7,d8,d9⟩:=hM.cells
   go_wp2
   go_ret
   exact ⟨rfl,hM.gr⟩
  ·have hlt:k<256:=by have:=hI.pc;omega
   have HS:Hid (∀ w',DPost w w' w4.heap.size w.heap.size w1.heap.size w2.heap.size w3.heap.size (.slice po m pc) vd (flt q p m S)→∃ (S':Flt) (en':Bool) (vd':Int),QM w w' w4.heap.size w.heap.size w1.heap.size w2.heap.size w3.heap.size (.slice po m pc) S' en' vd'∧((en'=true∧vd'=R)∨(en'=false∧∃ k,k≤S'.pc∧FInv n S'∧Hid (runF q p m (256-k) S'=R)))∧todo w' w4.heap.size<todo wr w4.heap.size):=fun w' hD=>by
    rw [hM.todo_f]
    rcases hD with ⟨hd,S',h'⟩ | ⟨hd,h'⟩
    ·exact ⟨S',true,_,h',Or.inl ⟨rfl,runF_fin hlt hX.out hd⟩,by rw [h'.todo_t];have:=hI.pc;omega⟩
    ·obtain ⟨hI',hpc'⟩:=flt_inv hgood hp hm hI hd
     exact ⟨_,false,vd,h',Or.inr ⟨rfl,k+1,by omega,hI',runF_go hlt hX.out hd⟩,by rw [h'.todo_f];have:=hI'.pc;have:=hI.pc;omega⟩
   obtain ⟨spc,a,x,cs⟩:=S
   obtain ⟨d0,d1,d2,d3,d4,d5,d6,d7,d8,d9⟩:=hM.cells
   obtain ⟨z1,z2,z3,z4,z5⟩:=hM.free
   have lM:=hM.m.lt
   obtain ⟨i1,ua,ux,i4⟩:=hI
   dsimp only at *
   obtain ⟨g1,g2,g3,g4,g5⟩:=hgood.at i1
   obtain ⟨l0,l1,l2,l3⟩:=(hR.keep hM.gr (by simp)).insn i1
   have n1:=hgood.num (4*spc+1)
   have n2:=hgood.num (4*spc+2)
   have uk:U32 (q (4*spc+3)):=num_u32 hgood.num _
   have HM:Hid (QM w wr w4.heap.size w.heap.size w1.heap.size w2.heap.size w3.heap.size (.slice po m pc) ⟨spc,a,x,cs⟩ false vd):=hM
   have HF:Hid (flt q p m ⟨spc,a,x,cs⟩=fl (kd (q (4*spc))) (q (4*spc+1)) (q (4*spc+2)) (q (4*spc+3)) p m ⟨spc,a,x,cs⟩):=flt_fl q p m ⟨spc,a,x,cs⟩
   have HG:Hid (okk (q (4*spc))=true∧(((kd (q (4*spc))).kind=3∨(kd (q (4*spc))).kind=6)→q (4*spc+3)<16)):=⟨g1,g2⟩
   clear hM hX g1 g2 g3 g4 g5 hb1 hb2 hb3 hb4 hg1 hg2 hg3 hg4
   have spi:(spc:Int)<n:=by omega
   go_wp2_with (go_at_call 74;refine (df_any w _ w4.heap.size w.heap.size w1.heap.size w2.heap.size w3.heap.size po m pc p spc a x cs vd _ _ _ (by repeat (first | exact HM.out | refine QM.allo ?_ _ | refine QM.setPc (S:=⟨spc,a,x,cs⟩) ?_ (spc+1) _ (by omega))) hm (by omega) ua ux uk hmc hp hq n1 n2 _ HG.out.1 HG.out.2).mono ?_;rw [← HF.out];rintro e w5 ⟨rfl,h5⟩;obtain ⟨S',en',vd',h6,h7,h8⟩:=HS.out w5 h5)
   go_roundw
   case rel=>exact ⟨S',en',vd',h6,h7⟩
   case measure=>exact h8
end Go.Proofs.YthbcfepbkkbjiaaGreatDoor
namespace Go.Proofs.YthbcfepbkkbjiaaGreatDoor
open Go.RowKit
set_option maxHeartbeats 1000000 in
theorem checked_no (ao:Option Addr) (n c:Nat) (g:Nat→Int) (tb:TypeId) (pb:Value) (w:World) (hm:n≤maxLen) (hc:n≤c) (hg:Oct g) (h:Src w .u8 ao n g) (hl:Laid w tb pb) (hno:¬ Chk g n 0 0) :
  Calls Tryz.prog 42 #[.slice ao n c] w fun e w'=>∃ E k,e=.returned (.tuple #[.slice none 0 0,.int .i64 E])∧E≠0∧Chk g n E k∧w.grownBy w' none:=by
 have HO:Hid (¬ Chk g n 0 0):=hno
 clear hno
 go_enter Tryz.func42,Tryz.ntmps42
 go_wp2_with (go_at_call 35;refine (check_any ao n c g tb pb w hm hc hg h hl).mono ?_;rintro e w1 ⟨⟨E,k,rfl,hC⟩,hg1⟩;have hE:E≠0:=chk_ne hC HO.out;have hE':(E != 0)=true:=(by simp [hE]))
 go_ret2
 exact ⟨E,k,rfl,hE,hC,hg1⟩
theorem ite_u32 {c:Prop} [Decidable c] {a b:Int} (h1:U32 a) (h2:U32 b):U32 (if c then a else b):=by split <;> assumption
theorem runF_u32 {q:Nat→Int} {n:Nat} {p:Nat→Int} {m:Nat} (h:Good q n) (hp:Oct p) (hm:m≤2000):∀ (f:Nat) (S:Flt),FInv n S→U32 (runF q p m f S)
 | 0,S,_=>u32_zero
 | f+1,S,hI=>by
  show U32 (if (flt q p m S).done=true then (flt q p m S).v else runF q p m f (flt q p m S).S)
  cases hd:(flt q p m S).done with
  | true =>
   rw [if_pos rfl]
   have u3:=num_u32 h.num (4*S.pc+3)
   simp only [flt,apply_ite Fres.v,ite_self]
   repeat' (refine ite_u32 ?_ ?_)
   all_goals first | exact u32_zero | exact hI.a | exact u3
  | false =>
   rw [if_neg (by simp)]
   exact runF_u32 h hp hm f _ (flt_inv h hp hm hI hd).1
end Go.Proofs.YthbcfepbkkbjiaaGreatDoor
