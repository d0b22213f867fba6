import Derived.Test.YthbcfepbkkbjiaaGreatDoorRows
import Derived.BigQuiet
import Derived.Deep.QuietTactic
import Derived.Laws.BitsAllLaws
import Derived.Test.YthbcfepbkkbjiaaGreatDoorI1
import Derived.Test.YthbcfepbkkbjiaaGreatDoorI3
set_option linter.unusedVariables false
set_option maxRecDepth 100000
namespace Go.Proofs.YthbcfepbkkbjiaaGreatDoor
open Go.RowKit
def kmap (C:Int):Option Value:=(look C).map fun r=>.int .i64 r.cls
theorem IMap.congr {w:World} {b:Nat} {f f':Int→Option Value} (h:IMap w b f) (hf:∀ D,f D=f' D):IMap w b f':=by
 have:f=f':=funext hf
 rwa [this] at h
theorem kmap_eq (D:Int):(if D=22 then some (.int .i64 11) else if D=6 then some (.int .i64 11) else if D=77 then some (.int .i64 10) else if D=61 then some (.int .i64 10) else if D=45 then some (.int .i64 10) else if D=29 then some (.int .i64 10) else if D=69 then some (.int .i64 10) else if D=53 then some (.int .i64 10) else if D=37 then some (.int .i64 10) else if D=21 then some (.int .i64 10) else if D=5 then some (.int .i64 9) else if D=132 then some (.int .i64 6) else if D=124 then some (.int .i64 6) else if D=108 then some (.int .i64 6) else if D=172 then some (.int .i64 6) else if D=92 then some (.int .i64 6) else if D=76 then some (.int .i64 6) else if D=156 then some (.int .i64 6) else if D=60 then some (.int .i64 6) else if D=44 then some (.int .i64 6) else if D=28 then some (.int .i64 6) else if D=12 then some (.int .i64 6) else if D=116 then some (.int .i64 8) else if D=100 then some (.int .i64 8) else if D=164 then some (.int .i64 6) else if D=84 then some (.int .i64 6) else if D=68 then some (.int .i64 6) else if D=148 then some (.int .i64 7) else if D=52 then some (.int .i64 7) else if D=36 then some (.int .i64 6) else if D=20 then some (.int .i64 6) else if D=4 then some (.int .i64 6) else if D=135 then some (.int .i64 5) else if D=7 then some (.int .i64 5) else if D=3 then some (.int .i64 4) else if D=2 then some (.int .i64 4) else if D=97 then some (.int .i64 3) else if D=96 then some (.int .i64 3) else if D=129 then some (.int .i64 2) else if D=1 then some (.int .i64 2) else if D=128 then some (.int .i64 2) else if D=0 then some (.int .i64 2) else if D=177 then some (.int .i64 1) else if D=80 then some (.int .i64 1) else if D=72 then some (.int .i64 1) else if D=64 then some (.int .i64 1) else if D=48 then some (.int .i64 1) else if D=40 then some (.int .i64 1) else if D=32 then some (.int .i64 1) else none)=kmap D:=by
 by_cases e22:D=22
 ·subst e22;rfl
 rw [if_neg e22]
 by_cases e6:D=6
 ·subst e6;rfl
 rw [if_neg e6]
 by_cases e77:D=77
 ·subst e77;rfl
 rw [if_neg e77]
 by_cases e61:D=61
 ·subst e61;rfl
 rw [if_neg e61]
 by_cases e45:D=45
 ·subst e45;rfl
 rw [if_neg e45]
 by_cases e29:D=29
 ·subst e29;rfl
 rw [if_neg e29]
 by_cases e69:D=69
 ·subst e69;rfl
 rw [if_neg e69]
 by_cases e53:D=53
 ·subst e53;rfl
 rw [if_neg e53]
 by_cases e37:D=37
 ·subst e37;rfl
 rw [if_neg e37]
 by_cases e21:D=21
 ·subst e21;rfl
 rw [if_neg e21]
 by_cases e5:D=5
 ·subst e5;rfl
 rw [if_neg e5]
 by_cases e132:D=132
 ·subst e132;rfl
 rw [if_neg e132]
 by_cases e124:D=124
 ·subst e124;rfl
 rw [if_neg e124]
 by_cases e108:D=108
 ·subst e108;rfl
 rw [if_neg e108]
 by_cases e172:D=172
 ·subst e172;rfl
 rw [if_neg e172]
 by_cases e92:D=92
 ·subst e92;rfl
 rw [if_neg e92]
 by_cases e76:D=76
 ·subst e76;rfl
 rw [if_neg e76]
 by_cases e156:D=156
 ·subst e156;rfl
 rw [if_neg e156]
 by_cases e60:D=60
 ·subst e60;rfl
 rw [if_neg e60]
 by_cases e44:D=44
 ·subst e44;rfl
 rw [if_neg e44]
 by_cases e28:D=28
 ·subst e28;rfl
 rw [if_neg e28]
 by_cases e12:D=12
 ·subst e12;rfl
 rw [if_neg e12]
 by_cases e116:D=116
 ·subst e116;rfl
 rw [if_neg e116]
 by_cases e100:D=100
 ·subst e100;rfl
 rw [if_neg e100]
 by_cases e164:D=164
 ·subst e164;rfl
 rw [if_neg e164]
 by_cases e84:D=84
 ·subst e84;rfl
 rw [if_neg e84]
 by_cases e68:D=68
 ·subst e68;rfl
 rw [if_neg e68]
 by_cases e148:D=148
 ·subst e148;rfl
 rw [if_neg e148]
 by_cases e52:D=52
 ·subst e52;rfl
 rw [if_neg e52]
 by_cases e36:D=36
 ·subst e36;rfl
 rw [if_neg e36]
 by_cases e20:D=20
 ·subst e20;rfl
 rw [if_neg e20]
 by_cases e4:D=4
 ·subst e4;rfl
 rw [if_neg e4]
 by_cases e135:D=135
 ·subst e135;rfl
 rw [if_neg e135]
 by_cases e7:D=7
 ·subst e7;rfl
 rw [if_neg e7]
 by_cases e3:D=3
 ·subst e3;rfl
 rw [if_neg e3]
 by_cases e2:D=2
 ·subst e2;rfl
 rw [if_neg e2]
 by_cases e97:D=97
 ·subst e97;rfl
 rw [if_neg e97]
 by_cases e96:D=96
 ·subst e96;rfl
 rw [if_neg e96]
 by_cases e129:D=129
 ·subst e129;rfl
 rw [if_neg e129]
 by_cases e1:D=1
 ·subst e1;rfl
 rw [if_neg e1]
 by_cases e128:D=128
 ·subst e128;rfl
 rw [if_neg e128]
 by_cases e0:D=0
 ·subst e0;rfl
 rw [if_neg e0]
 by_cases e177:D=177
 ·subst e177;rfl
 rw [if_neg e177]
 by_cases e80:D=80
 ·subst e80;rfl
 rw [if_neg e80]
 by_cases e72:D=72
 ·subst e72;rfl
 rw [if_neg e72]
 by_cases e64:D=64
 ·subst e64;rfl
 rw [if_neg e64]
 by_cases e48:D=48
 ·subst e48;rfl
 rw [if_neg e48]
 by_cases e40:D=40
 ·subst e40;rfl
 rw [if_neg e40]
 by_cases e32:D=32
 ·subst e32;rfl
 rw [if_neg e32]
 unfold kmap look
 rw [List.find?_eq_none.2]
 ·rfl
 ·intro r hr
  simp only [tab,List.mem_cons,List.not_mem_nil,or_false] at hr
  simp only [beq_iff_eq]
  rcases hr with rfl | rfl | rfl | rfl | rfl | rfl | rfl | rfl | rfl | rfl | rfl | rfl | rfl | rfl | rfl | rfl | rfl | rfl | rfl | rfl | rfl | rfl | rfl | rfl | rfl | rfl | rfl | rfl | rfl | rfl | rfl | rfl | rfl | rfl | rfl | rfl | rfl | rfl | rfl | rfl | rfl | rfl | rfl | rfl | rfl | rfl | rfl | rfl | rfl <;> (dsimp only;omega)
set_option maxHeartbeats 2000000 in
theorem kinds_any (w:World):Calls Tryz.prog 70 #[] w fun e w'=>e=.returned (.map (some w.heap.size))∧IMap w' w.heap.size kmap∧w.grownBy w' none:=by
 have hmm:=@run_makeMap Tryz.prog
 have h0:IMap (w.alloc (.map #[] 0)) w.heap.size (fun _=>none)∧w.grownBy (w.alloc (.map #[] 0)) none:=⟨imap_new w,grown_alloc (grown_refl w none) (.map #[] 0)⟩
 go_enter Tryz.func70,Tryz.ntmps70
 go_wp2_with (refine wpList_put_own _ w rfl _ _ _ 123 rfl 3 188 Tryz.underlying123 Tryz.underlying3 w.heap.size _ _ _ _ rfl rfl rfl (by assumption) (Nat.le_refl _) ?_;clear h0;intro w0 h0)
 go_ret
 exact ⟨rfl,h0.1.congr kmap_eq,h0.2⟩
end Go.Proofs.YthbcfepbkkbjiaaGreatDoor
namespace Go.Proofs.YthbcfepbkkbjiaaGreatDoor
open Go.RowKit
def RowS (w:World) (R B n cap MB:Nat) (bad:Value) (q:Nat→Int):Prop :=
 w.heap[R]?=some (.cells #[.slice (some ⟨B,0,none⟩) n cap,.map (some MB),bad] 228 (0,0))∧Row w .i64 B 0 (4*n) q∧IMap w MB kmap
theorem RowS.keep {w w':World} {R B n cap MB:Nat} {bad:Value} {q:Nat→Int} (h:RowS w R B n cap MB bad q) (hg:w.grownBy w' none):RowS w' R B n cap MB bad q :=
 ⟨by rw [hg.block R (Array.getElem?_eq_some_iff.1 h.1).1 (by simp)];exact h.1,h.2.1.keep hg (by simp),h.2.2.keep hg (by simp)⟩
theorem RowS.cells {w:World} {R B n cap MB:Nat} {bad:Value} {q:Nat→Int} (h:RowS w R B n cap MB bad q) :
  w.cell? ⟨R,0,none⟩=some (.slice (some ⟨B,0,none⟩) n cap)∧w.cell? ⟨R,1,none⟩=some (.map (some MB))∧w.cell? ⟨R,2,none⟩=some bad :=
 ⟨cell_of_row w R 0 _ _ (0,0) h.1,cell_of_row w R 1 _ _ (0,0) h.1,cell_of_row w R 2 _ _ (0,0) h.1⟩
theorem kmap_get (C:Int):(kmap C).getD (.int .i64 0)=.int .i64 ((kd C).cls:Int):=by
 unfold kmap kd
 cases look C with
 | none=>rfl
 | some r=>rfl
theorem Tryz.zeroKind (w:World):(zeroValue 188).run Tryz.prog w=.ok (.int .i64 0) w:=by kernel_rfl
set_option maxHeartbeats 1000000 in
theorem pkind_any (R B n cap MB i:Nat) (bad:Value) (q:Nat→Int) (w:World) (hi:i<n) (hn:n≤1000000) (h:RowS w R B n cap MB bad q) :
  Calls Tryz.prog 163 #[.pointer (some ⟨R,0,none⟩),.int .i64 i] w fun e w'=>e=.returned (.int .i64 ((kd (q (4*i))).cls:Int))∧w.grownBy w' none:=by
 obtain ⟨r0,r1,_⟩:=h.cells
 obtain ⟨c0,c1,c2,c3⟩:=h.2.1.insn hi
 rw [Nat.zero_add] at c0 c1 c2 c3
 have hl:∀ m,(Instr.lookup 123 (.map (some MB)) (.int .i64 (q (4*i))) false).run Tryz.prog (w.drewN m)=.ok (.int .i64 ((kd (q (4*i))).cls:Int)) (w.drewN m):=fun m=>by
  have:=(h.2.2.same (w':=w.drewN m) rfl).look (P:=Tryz.prog) Tryz.underlying123 Tryz.underlying3 (Tryz.zeroKind _) (q (4*i)) false
  rw [this,kmap_get];rfl
 have hl0:=hl 0
 have t1:(i:Int)<(n:Int):=by omega
 clear h
 go_enter Tryz.func163,Tryz.ntmps163
 go_wp2
 go_quiet (fail)
 go_wp2
 go_ret
 exact ⟨rfl,grown_drewN _ _ _⟩
theorem when_any (b:Bool) (c:Int) (w:World):Calls Tryz.prog 171 #[.bool b,.int .i64 c] w fun e w'=>e=.returned (.int .i64 (if b then c else 0))∧w'=w:=by
 cases b
 ·go_enter Tryz.func171,Tryz.ntmps171
  go_wp2
  go_ret
  exact ⟨rfl,rfl⟩
 ·go_enter Tryz.func171,Tryz.ntmps171
  go_wp2
  go_ret
  exact ⟨rfl,rfl⟩
theorem last_any (R B n cap MB:Nat) (bad:Value) (q:Nat→Int) (w:World) (hn1:1≤n) (hn:n≤1000000) (h:RowS w R B n cap MB bad q) :
  Calls Tryz.prog 164 #[.pointer (some ⟨R,0,none⟩)] w fun e w'=>e=.returned (.int .i64 ((n:Int)-1))∧w'=w:=by
 obtain ⟨r0,r1,_⟩:=h.cells
 clear h
 go_enter Tryz.func164,Tryz.ntmps164
 go_wp2
 go_ret
 exact ⟨rfl,rfl⟩
theorem cls_kind (C:Int):((kd C).cls=11↔(kd C).kind=12)∧((kd C).cls=9↔(kd C).kind=10)∧((kd C).cls=10↔(kd C).kind=11)∧((kd C).cls=3↔(kd C).kind=3)∧((kd C).cls=4↔(kd C).kind=6) ∧
  ((kd C).cls=7↔(kd C).kind=8∧(kd C).x=false∧((kd C).o=3∨(kd C).o=4))∧((kd C).cls=8↔(kd C).kind=8∧(kd C).x=false∧8≤(kd C).o)∧(kd C).cls≤11 :=
 kd_all (fun r=>(r.cls=11↔r.kind=12)∧(r.cls=9↔r.kind=10)∧(r.cls=10↔r.kind=11)∧(r.cls=3↔r.kind=3)∧(r.cls=4↔r.kind=6) ∧
  (r.cls=7↔r.kind=8∧r.x=false∧(r.o=3∨r.o=4))∧(r.cls=8↔r.kind=8∧r.x=false∧8≤r.o)∧r.cls≤11) (by decide) C (by simp)
set_option maxHeartbeats 1000000 in
theorem pnext_any (R B n cap MB i:Nat) (bad:Value) (q:Nat→Int) (w:World) (hi:i<n) (hn:n≤1000000) (hq:Num q) (h:RowS w R B n cap MB bad q) :
  Calls Tryz.prog 166 #[.pointer (some ⟨R,0,none⟩),.int .i64 i] w fun e w'=>∃ ao cc,e=.returned (.slice ao (nx q i).length cc)∧Src w' .i64 ao (nx q i).length (fun j=>(nx q i).getD j 0)∧w.grownBy w' none:=by
 obtain ⟨r0,r1,_⟩:=h.cells
 obtain ⟨c0,c1,c2,c3⟩:=h.2.1.insn hi
 rw [Nat.zero_add] at c0 c1 c2 c3
 obtain ⟨a8,a6,a7,_⟩:=cls_kind (q (4*i))
 have z1:=hq (4*i+1)
 have z2:=hq (4*i+2)
 have z3:=hq (4*i+3)
 have t1:(i:Int)<(n:Int):=by omega
 by_cases k12:(kd (q (4*i))).kind=12
 ·have t8:(((kd (q (4*i))).cls:Int) == 11)=true:=by simp;have:=a8.2 k12;omega
  rw [show nx q i=[] from if_pos k12]
  clear k12 a8 a6 a7
  go_enter Tryz.func166,Tryz.ntmps166
  go_wp2_with (go_at_call 163;refine (pkind_any R B n cap MB i bad q _ hi hn (h.keep (World.grownBy_alloc w _ none))).mono ?_;rintro e w1 ⟨rfl,hg1⟩;obtain ⟨x0,x1,x2,x3⟩:=box_four hg1 (by simp);have hz:=alloc_lt hg1)
  go_ret
  exact ⟨none,0,rfl,fun h=>absurd h (by decide),grown_trans (grown_alloc (grown_refl w none) _) hg1⟩
 have t8:(((kd (q (4*i))).cls:Int) == 11)=false:=by simp;exact fun e=>k12 (a8.1 (by omega))
 by_cases k10:(kd (q (4*i))).kind=10
 ·have t6:(((kd (q (4*i))).cls:Int) == 9)=true:=by simp;have:=a6.2 k10;omega
  rw [show nx q i=[(i:Int)+1+q (4*i+3)] from (if_neg k12).trans (if_pos k10)]
  clear k12 k10 a8 a6 a7
  go_enter Tryz.func166,Tryz.ntmps166
  go_wp2_with (go_at_call 163;refine (pkind_any R B n cap MB i bad q _ hi hn (h.keep (World.grownBy_alloc w _ none))).mono ?_;rintro e w1 ⟨rfl,hg1⟩;obtain ⟨x0,x1,x2,x3⟩:=box_four hg1 (by simp);have hz:=alloc_lt hg1)
  go_ret
  exact ⟨_,_,rfl,src_new1 _ _ _ _ (by simp),grown_alloc (grown_trans (grown_alloc (grown_refl w none) _) hg1) _⟩
 have t6:(((kd (q (4*i))).cls:Int) == 9)=false:=by simp;exact fun e=>k10 (a6.1 (by omega))
 by_cases k11:(kd (q (4*i))).kind=11
 ·have t7:(((kd (q (4*i))).cls:Int) == 10)=true:=by simp;have:=a7.2 k11;omega
  rw [show nx q i=[(i:Int)+1+q (4*i+1),(i:Int)+1+q (4*i+2)] from (if_neg k12).trans ((if_neg k10).trans (if_pos k11))]
  clear k12 k10 k11 a8 a6 a7
  go_enter Tryz.func166,Tryz.ntmps166
  go_wp2_with (go_at_call 163;refine (pkind_any R B n cap MB i bad q _ hi hn (h.keep (World.grownBy_alloc w _ none))).mono ?_;rintro e w1 ⟨rfl,hg1⟩;obtain ⟨x0,x1,x2,x3⟩:=box_four hg1 (by simp);have hz:=alloc_lt hg1)
  go_ret
  exact ⟨_,_,rfl,src_new2 _ _ _ _ _ (by simp),grown_alloc (grown_trans (grown_alloc (grown_refl w none) _) hg1) _⟩
 ·have t7:(((kd (q (4*i))).cls:Int) == 10)=false:=by simp;exact fun e=>k11 (a7.1 (by omega))
  rw [show nx q i=[(i:Int)+1] from (if_neg k12).trans ((if_neg k10).trans (if_neg k11))]
  clear k12 k10 k11 a8 a6 a7
  go_enter Tryz.func166,Tryz.ntmps166
  go_wp2_with (go_at_call 163;refine (pkind_any R B n cap MB i bad q _ hi hn (h.keep (World.grownBy_alloc w _ none))).mono ?_;rintro e w1 ⟨rfl,hg1⟩;obtain ⟨x0,x1,x2,x3⟩:=box_four hg1 (by simp);have hz:=alloc_lt hg1)
  go_ret
  exact ⟨_,_,rfl,src_new1 _ _ _ _ (by simp),grown_alloc (grown_trans (grown_alloc (grown_refl w none) _) hg1) _⟩
end Go.Proofs.YthbcfepbkkbjiaaGreatDoor
namespace Go.Proofs.YthbcfepbkkbjiaaGreatDoor
open Go.RowKit
theorem wrong_cls (q:Nat→Int) (n i:Nat) :
  ((kd (q (4*i))).cls=0→wrong q n i=2)∧((kd (q (4*i))).cls=7→wrong q n i=if q (4*i+3)=0 then 3 else 0)∧((kd (q (4*i))).cls=8→wrong q n i=if 31<q (4*i+3) then 4 else 0) ∧
  ((kd (q (4*i))).cls=3∨(kd (q (4*i))).cls=4→wrong q n i=if 16≤q (4*i+3) then 5 else 0) ∧
  ((kd (q (4*i))).cls=9∨(kd (q (4*i))).cls=10→wrong q n i=if (nx q i).any (fun x=>decide ((n:Int)≤x))=true then 6 else 0) ∧
  ((kd (q (4*i))).cls=1∨(kd (q (4*i))).cls=2∨(kd (q (4*i))).cls=5∨(kd (q (4*i))).cls=6∨(kd (q (4*i))).cls=11→wrong q n i=0):=by
 obtain ⟨a8,a6,a7,a4,a5,a2,a3,_⟩:=cls_kind (q (4*i))
 have hok:okk (q (4*i))=((kd (q (4*i))).cls != 0):=rfl
 unfold wrong
 generalize (nx q i)=l
 generalize q (4*i+3)=K
 generalize okk (q (4*i))=ok at hok
 generalize kd (q (4*i))=r at *
 subst hok
 unfold wrg
 refine ⟨fun h=>?_,fun h=>?_,fun h=>?_,fun h=>?_,fun h=>?_,fun h=>?_⟩
 ·simp [h]
 ·obtain ⟨b1,b2,b3⟩:=a2.1 h
  have b4:¬ 8≤r.o:=by rcases b3 with b | b <;> omega
  simp [h,b1,b2,b3,b4]
 ·obtain ⟨b1,b2,b3⟩:=a3.1 h
  have b4:¬ (r.o=3∨r.o=4):=by omega
  simp [h,b1,b2,b3,b4]
 ·have b:r.kind=3∨r.kind=6:=h.imp a4.1 a5.1
  have b0:¬ r.cls=0:=by omega
  have b1:¬ r.kind=8:=by omega
  have b2:¬ (r.kind=10∨r.kind=11):=by omega
  simp [b0,b,b1,b2]
 ·have b:r.kind=10∨r.kind=11:=h.imp a6.1 a7.1
  have b0:¬ r.cls=0:=by omega
  have b1:¬ r.kind=8:=by omega
  have b2:¬ (r.kind=3∨r.kind=6):=by omega
  simp [b0,b,b1,b2]
 ·have b0:¬ r.cls=0:=by omega
  have c2:¬ (r.kind=8∧r.x=false∧(r.o=3∨r.o=4)):=fun e=>by have:=a2.2 e;omega
  have c3:¬ (r.kind=8∧r.x=false∧8≤r.o):=fun e=>by have:=a3.2 e;omega
  have c4:¬ (r.kind=3∨r.kind=6):=fun e=>by omega
  have c6:¬ (r.kind=10∨r.kind=11):=fun e=>by omega
  have d0:(r.cls != 0)=true:=by simp [b0]
  rw [d0,if_neg (by simp),if_neg (fun e=>c2 ⟨e.1,e.2.1,e.2.2.1⟩),if_neg (fun e=>c3 ⟨e.1,e.2.1,e.2.2.1⟩),if_neg (fun e=>c4 e.1),if_neg (fun e=>c6 e.1)]
theorem first_le (f:Nat→Int):Hid (∀ j,j<1→f j≤f 0):=fun j hj=>by
 have:j=0:=by omega
 subst this
 exact Int.le_refl _
set_option maxHeartbeats 1000000 in
theorem max_any (ao:Option Addr) (L cc:Nat) (f:Nat→Int) (w:World) (hL:1≤L) (hL2:L≤1000000) (h:Src w .i64 ao L f) :
  Calls Tryz.prog 172 #[.slice ao L cc] w fun e w'=>(∃ M:Int,e=.returned (.int .i64 M)∧(∃ j,j<L∧M=f j)∧∀ j,j<L→f j≤M)∧w'=w:=by
 obtain ⟨B,off,rfl,hR⟩:=h (by omega)
 have c0:w.cell? ⟨B,off,none⟩=some (.int .i64 (f 0)):=hR 0 (by omega)
 have t0:(0:Int)<(L:Int):=by omega
 have t1:¬ (L:Int)<1:=by omega
 clear h
 go_enter Tryz.func172,Tryz.ntmps172
 go_wp2
 go_loop [3,4] (fun v i=>∃ (k:Nat) (M:Int),1≤k∧k≤L∧i=.int .i64 k∧v=.int .i64 M∧(∃ j,j<L∧M=f j)∧Hid (∀ j,j<k→f j≤M)) (fun _ i=>L-(intOf i).toNat)
 case atStart=>exact ⟨1,f 0,by omega,by omega,rfl,rfl,⟨0,by omega,rfl⟩,first_le f⟩
 case round =>
  obtain ⟨k,M,hk1,hk,rfl,rfl,hex,hall⟩:=hrel
  by_cases hlt:k<L
  ·have ck:w.cell? ⟨B,off+k,none⟩=some (.int .i64 (f k)):=hR k hlt
   clear hR c0
   go_wp2
   go_round
   case rel=>exact ⟨k+1,if M<f k then f k else M,by omega,by omega,by go_num,rfl,by
     by_cases h:M<f k
     ·rw [if_pos h];exact ⟨k,hlt,rfl⟩
     ·rw [if_neg h];exact hex,fun j hj=>by
     by_cases e:j=k
     ·subst e;split <;> omega
     ·have:=hall.out j (by omega)
      split <;> omega⟩
   case measure=>simp [intOf];omega
  ·have hke:k=L:=by omega
   subst hke
   go_wp2
   go_ret
   exact ⟨⟨M,rfl,hex,hall.out⟩,rfl⟩
set_option maxHeartbeats 1000000 in
theorem pwrong_0 (R B n cap MB i:Nat) (bad:Value) (q:Nat→Int) (w:World) (hi:i<n) (hn:n≤1000000) (hq:Num q) (h:RowS w R B n cap MB bad q)
  (hc:(kd (q (4*i))).cls=0) :
  Calls Tryz.prog 161 #[.pointer (some ⟨R,0,none⟩),.int .i64 i] w fun e w'=>e=.returned (.int .i64 (wrong q n i))∧w.grownBy w' none:=by
 obtain ⟨r0,r1,_⟩:=h.cells
 obtain ⟨c0,c1,c2,c3⟩:=h.2.1.insn hi
 rw [Nat.zero_add] at c0 c1 c2 c3
 have z3:=hq (4*i+3)
 have t1:(i:Int)<(n:Int):=by omega
 have HE:Hid (wrong q n i=2):=(wrong_cls q n i).1 hc
 have t10:(((kd (q (4*i))).cls:Int) == 0)=true:=by simp;omega
 clear hc
 go_enter Tryz.func161,Tryz.ntmps161
 go_wp2_with (first | (go_at_call 163;refine (pkind_any R B n cap MB i bad q _ hi hn h).mono ?_;rintro e w1 ⟨rfl,hg1⟩) | (go_at_call 171;refine (when_any _ _ _).mono ?_;rintro e w2 ⟨rfl,rfl⟩))
 go_ret
 exact ⟨ret_int HE.out.symm,hg1⟩
set_option maxHeartbeats 1000000 in
theorem pwrong_2 (R B n cap MB i:Nat) (bad:Value) (q:Nat→Int) (w:World) (hi:i<n) (hn:n≤1000000) (hq:Num q) (h:RowS w R B n cap MB bad q)
  (hc:(kd (q (4*i))).cls=7) :
  Calls Tryz.prog 161 #[.pointer (some ⟨R,0,none⟩),.int .i64 i] w fun e w'=>e=.returned (.int .i64 (wrong q n i))∧w.grownBy w' none:=by
 obtain ⟨r0,r1,_⟩:=h.cells
 obtain ⟨c0,c1,c2,c3⟩:=h.2.1.insn hi
 rw [Nat.zero_add] at c0 c1 c2 c3
 have z3:=hq (4*i+3)
 have t1:(i:Int)<(n:Int):=by omega
 have HE:Hid (wrong q n i=if q (4*i+3)=0 then 3 else 0):=(wrong_cls q n i).2.1 hc
 have t10:(((kd (q (4*i))).cls:Int) == 0)=false:=by simp;omega
 have t12:(((kd (q (4*i))).cls:Int) == 7)=true:=by simp;omega
 clear hc
 go_enter Tryz.func161,Tryz.ntmps161
 go_wp2_with (first | (go_at_call 163;refine (pkind_any R B n cap MB i bad q _ hi hn h).mono ?_;rintro e w1 ⟨rfl,hg1⟩) | (go_at_call 171;refine (when_any _ _ _).mono ?_;rintro e w2 ⟨rfl,rfl⟩))
 all_goals go_ret
 all_goals exact ⟨ret_int (by rw [HE.out];first | rw [if_pos (by omega)] | rw [if_neg (by omega)]),hg1⟩
set_option maxHeartbeats 1000000 in
theorem pwrong_3 (R B n cap MB i:Nat) (bad:Value) (q:Nat→Int) (w:World) (hi:i<n) (hn:n≤1000000) (hq:Num q) (h:RowS w R B n cap MB bad q)
  (hc:(kd (q (4*i))).cls=8) :
  Calls Tryz.prog 161 #[.pointer (some ⟨R,0,none⟩),.int .i64 i] w fun e w'=>e=.returned (.int .i64 (wrong q n i))∧w.grownBy w' none:=by
 obtain ⟨r0,r1,_⟩:=h.cells
 obtain ⟨c0,c1,c2,c3⟩:=h.2.1.insn hi
 rw [Nat.zero_add] at c0 c1 c2 c3
 have z3:=hq (4*i+3)
 have t1:(i:Int)<(n:Int):=by omega
 have HE:Hid (wrong q n i=if 31<q (4*i+3) then 4 else 0):=(wrong_cls q n i).2.2.1 hc
 have t10:(((kd (q (4*i))).cls:Int) == 0)=false:=by simp;omega
 have t12:(((kd (q (4*i))).cls:Int) == 7)=false:=by simp;omega
 have t13:(((kd (q (4*i))).cls:Int) == 8)=true:=by simp;omega
 clear hc
 go_enter Tryz.func161,Tryz.ntmps161
 go_wp2_with (first | (go_at_call 163;refine (pkind_any R B n cap MB i bad q _ hi hn h).mono ?_;rintro e w1 ⟨rfl,hg1⟩) | (go_at_call 171;refine (when_any _ _ _).mono ?_;rintro e w2 ⟨rfl,rfl⟩))
 all_goals go_ret
 all_goals exact ⟨ret_int (by rw [HE.out];first | rw [if_pos (by omega)] | rw [if_neg (by omega)]),hg1⟩
set_option maxHeartbeats 1000000 in
theorem pwrong_4 (R B n cap MB i:Nat) (bad:Value) (q:Nat→Int) (w:World) (hi:i<n) (hn:n≤1000000) (hq:Num q) (h:RowS w R B n cap MB bad q)
  (hc:(kd (q (4*i))).cls=3) :
  Calls Tryz.prog 161 #[.pointer (some ⟨R,0,none⟩),.int .i64 i] w fun e w'=>e=.returned (.int .i64 (wrong q n i))∧w.grownBy w' none:=by
 obtain ⟨r0,r1,_⟩:=h.cells
 obtain ⟨c0,c1,c2,c3⟩:=h.2.1.insn hi
 rw [Nat.zero_add] at c0 c1 c2 c3
 have z3:=hq (4*i+3)
 have t1:(i:Int)<(n:Int):=by omega
 have HE:Hid (wrong q n i=if 16≤q (4*i+3) then 5 else 0):=(wrong_cls q n i).2.2.2.1 (Or.inl hc)
 have t10:(((kd (q (4*i))).cls:Int) == 0)=false:=by simp;omega
 have t12:(((kd (q (4*i))).cls:Int) == 7)=false:=by simp;omega
 have t13:(((kd (q (4*i))).cls:Int) == 8)=false:=by simp;omega
 have t14:(((kd (q (4*i))).cls:Int) == 3)=true:=by simp;omega
 clear hc
 go_enter Tryz.func161,Tryz.ntmps161
 go_wp2_with (first | (go_at_call 163;refine (pkind_any R B n cap MB i bad q _ hi hn h).mono ?_;rintro e w1 ⟨rfl,hg1⟩) | (go_at_call 171;refine (when_any _ _ _).mono ?_;rintro e w2 ⟨rfl,rfl⟩))
 all_goals go_ret
 all_goals exact ⟨ret_int (by rw [HE.out];first | rw [if_pos (by omega)] | rw [if_neg (by omega)]),hg1⟩
set_option maxHeartbeats 1000000 in
theorem pwrong_5 (R B n cap MB i:Nat) (bad:Value) (q:Nat→Int) (w:World) (hi:i<n) (hn:n≤1000000) (hq:Num q) (h:RowS w R B n cap MB bad q)
  (hc:(kd (q (4*i))).cls=4) :
  Calls Tryz.prog 161 #[.pointer (some ⟨R,0,none⟩),.int .i64 i] w fun e w'=>e=.returned (.int .i64 (wrong q n i))∧w.grownBy w' none:=by
 obtain ⟨r0,r1,_⟩:=h.cells
 obtain ⟨c0,c1,c2,c3⟩:=h.2.1.insn hi
 rw [Nat.zero_add] at c0 c1 c2 c3
 have z3:=hq (4*i+3)
 have t1:(i:Int)<(n:Int):=by omega
 have HE:Hid (wrong q n i=if 16≤q (4*i+3) then 5 else 0):=(wrong_cls q n i).2.2.2.1 (Or.inr hc)
 have t10:(((kd (q (4*i))).cls:Int) == 0)=false:=by simp;omega
 have t12:(((kd (q (4*i))).cls:Int) == 7)=false:=by simp;omega
 have t13:(((kd (q (4*i))).cls:Int) == 8)=false:=by simp;omega
 have t14:(((kd (q (4*i))).cls:Int) == 3)=false:=by simp;omega
 have t15:(((kd (q (4*i))).cls:Int) == 4)=true:=by simp;omega
 clear hc
 go_enter Tryz.func161,Tryz.ntmps161
 go_wp2_with (first | (go_at_call 163;refine (pkind_any R B n cap MB i bad q _ hi hn h).mono ?_;rintro e w1 ⟨rfl,hg1⟩) | (go_at_call 171;refine (when_any _ _ _).mono ?_;rintro e w2 ⟨rfl,rfl⟩))
 all_goals go_ret
 all_goals exact ⟨ret_int (by rw [HE.out];first | rw [if_pos (by omega)] | rw [if_neg (by omega)]),hg1⟩
set_option maxHeartbeats 1000000 in
theorem pwrong_1 (R B n cap MB i:Nat) (bad:Value) (q:Nat→Int) (w:World) (hi:i<n) (hn:n≤1000000) (hq:Num q) (h:RowS w R B n cap MB bad q)
  (hc:(kd (q (4*i))).cls=1∨(kd (q (4*i))).cls=2∨(kd (q (4*i))).cls=5∨(kd (q (4*i))).cls=6∨(kd (q (4*i))).cls=11) :
  Calls Tryz.prog 161 #[.pointer (some ⟨R,0,none⟩),.int .i64 i] w fun e w'=>e=.returned (.int .i64 (wrong q n i))∧w.grownBy w' none:=by
 obtain ⟨r0,r1,_⟩:=h.cells
 obtain ⟨c0,c1,c2,c3⟩:=h.2.1.insn hi
 rw [Nat.zero_add] at c0 c1 c2 c3
 have z3:=hq (4*i+3)
 have t1:(i:Int)<(n:Int):=by omega
 have HE:Hid (wrong q n i=0):=(wrong_cls q n i).2.2.2.2.2 hc
 have t10:(((kd (q (4*i))).cls:Int) == 0)=false:=by simp;omega
 have t12:(((kd (q (4*i))).cls:Int) == 7)=false:=by simp;omega
 have t13:(((kd (q (4*i))).cls:Int) == 8)=false:=by simp;omega
 have t14:(((kd (q (4*i))).cls:Int) == 3)=false:=by simp;omega
 have t15:(((kd (q (4*i))).cls:Int) == 4)=false:=by simp;omega
 have t16:(((kd (q (4*i))).cls:Int) == 9)=false:=by simp;omega
 have t17:(((kd (q (4*i))).cls:Int) == 10)=false:=by simp;omega
 clear hc
 go_enter Tryz.func161,Tryz.ntmps161
 go_wp2_with (first | (go_at_call 163;refine (pkind_any R B n cap MB i bad q _ hi hn h).mono ?_;rintro e w1 ⟨rfl,hg1⟩) | (go_at_call 171;refine (when_any _ _ _).mono ?_;rintro e w2 ⟨rfl,rfl⟩))
 go_ret
 exact ⟨ret_int HE.out.symm,hg1⟩
theorem any_max {l:List Int} {n:Nat} {M:Int} (hL:1≤l.length) (hex:∃ j,j<l.length∧M=l.getD j 0) (hall:∀ j,j<l.length→l.getD j 0≤M) :
  l.any (fun x=>decide ((n:Int)≤x))=decide ((n:Int)-1<M):=by
 by_cases h:(n:Int)-1<M
 ·obtain ⟨j,hj,e⟩:=hex
  rw [any_le l n j hj (by omega)];simp [h]
 ·rw [any_lt l n (fun j hj=>by have:=hall j hj;omega)];simp [h]
theorem nx_pos (q:Nat→Int) (i:Nat) (h:(kd (q (4*i))).kind≠12):1≤(nx q i).length:=by
 unfold nx
 rw [if_neg h]
 split
 ·simp
 ·split <;> simp
set_option maxHeartbeats 1000000 in
theorem pwrong_67 (R B n cap MB i:Nat) (bad:Value) (q:Nat→Int) (w:World) (hi:i<n) (hn:n≤1000000) (hq:Num q) (h:RowS w R B n cap MB bad q)
  (hc:(kd (q (4*i))).cls=9∨(kd (q (4*i))).cls=10) :
  Calls Tryz.prog 161 #[.pointer (some ⟨R,0,none⟩),.int .i64 i] w fun e w'=>e=.returned (.int .i64 (wrong q n i))∧w.grownBy w' none:=by
 obtain ⟨r0,r1,_⟩:=h.cells
 obtain ⟨c0,c1,c2,c3⟩:=h.2.1.insn hi
 rw [Nat.zero_add] at c0 c1 c2 c3
 have z3:=hq (4*i+3)
 have t1:(i:Int)<(n:Int):=by omega
 have HE:Hid (wrong q n i=if (nx q i).any (fun x=>decide ((n:Int)≤x))=true then 6 else 0):=(wrong_cls q n i).2.2.2.2.1 hc
 have hL1:1≤(nx q i).length:=nx_pos q i (by obtain ⟨a8,_⟩:=cls_kind (q (4*i));intro e;have:=a8.2 e;omega)
 have hL2:=nx_len q i
 have t10:(((kd (q (4*i))).cls:Int) == 0)=false:=by simp;omega
 have t12:(((kd (q (4*i))).cls:Int) == 7)=false:=by simp;omega
 have t13:(((kd (q (4*i))).cls:Int) == 8)=false:=by simp;omega
 have t14:(((kd (q (4*i))).cls:Int) == 3)=false:=by simp;omega
 have t15:(((kd (q (4*i))).cls:Int) == 4)=false:=by simp;omega
 have t16:(((kd (q (4*i))).cls:Int) == 9)=true∨((((kd (q (4*i))).cls:Int) == 9)=false∧(((kd (q (4*i))).cls:Int) == 10)=true):=by
  rcases hc with e | e <;> simp [e]
 clear hc
 rcases t16 with t16 | ⟨t16,t17⟩
 all_goals
  go_enter Tryz.func161,Tryz.ntmps161
  go_wp2_with (first | (go_at_call 163;refine (pkind_any R B n cap MB i bad q _ hi hn h).mono ?_;rintro e w1 ⟨rfl,hg1⟩) | (go_at_call 171;refine (when_any _ _ _).mono ?_;rintro e w2 ⟨rfl,rfl⟩) | (go_at_call 166;refine (pnext_any R B n cap MB i bad q _ hi hn hq (h.keep hg1)).mono ?_;rintro e w3 ⟨ao,cc,rfl,hs,hg3⟩) | (go_at_call 172;refine (max_any ao _ cc _ _ hL1 (by omega) hs).mono ?_;rintro e w4 ⟨⟨M,rfl,hex,hall⟩,rfl⟩) | (go_at_call 164;refine (last_any R B n cap MB bad q _ (by omega) hn (h.keep (grown_trans hg1 hg3))).mono ?_;rintro e w5 ⟨rfl,rfl⟩))
  all_goals go_ret
  all_goals exact ⟨ret_int (by rw [HE.out,any_max hL1 hex hall];simp only [decide_eq_true_eq];first | rw [if_pos (by omega)] | rw [if_neg (by omega)]),grown_trans hg1 hg3⟩
theorem pwrong_any (R B n cap MB i:Nat) (bad:Value) (q:Nat→Int) (w:World) (hi:i<n) (hn:n≤1000000) (hq:Num q) (h:RowS w R B n cap MB bad q) :
  Calls Tryz.prog 161 #[.pointer (some ⟨R,0,none⟩),.int .i64 i] w fun e w'=>e=.returned (.int .i64 (wrong q n i))∧w.grownBy w' none:=by
 have hle:=(cls_kind (q (4*i))).2.2.2.2.2.2.2
 by_cases e0:(kd (q (4*i))).cls=0
 ·exact pwrong_0 R B n cap MB i bad q w hi hn hq h e0
 by_cases e2:(kd (q (4*i))).cls=7
 ·exact pwrong_2 R B n cap MB i bad q w hi hn hq h e2
 by_cases e3:(kd (q (4*i))).cls=8
 ·exact pwrong_3 R B n cap MB i bad q w hi hn hq h e3
 by_cases e4:(kd (q (4*i))).cls=3
 ·exact pwrong_4 R B n cap MB i bad q w hi hn hq h e4
 by_cases e5:(kd (q (4*i))).cls=4
 ·exact pwrong_5 R B n cap MB i bad q w hi hn hq h e5
 by_cases e6:(kd (q (4*i))).cls=9∨(kd (q (4*i))).cls=10
 ·exact pwrong_67 R B n cap MB i bad q w hi hn hq h e6
 ·exact pwrong_1 R B n cap MB i bad q w hi hn hq h (by omega)
end Go.Proofs.YthbcfepbkkbjiaaGreatDoor
namespace Go.Proofs.YthbcfepbkkbjiaaGreatDoor
open Go.RowKit
theorem wrap_bit (K:Nat) (hK:K<16):IntKind.u16.wrap (2 ^ K)=((2 ^ K:Nat):Int):=by
 rw [IntKind.wrap_u16]
 have:∀ K,K<16→(2 ^ K:Int)%65536=((2 ^ K:Nat):Int):=by decide
 exact this K hK
theorem cell_any (K:Nat) (w:World) (hK:K<16):Calls Tryz.prog 165 #[.int .i64 K] w fun e w'=>e=.returned (.int .u16 ((2 ^ K:Nat):Int))∧w'=w:=by
 have h:=wrap_bit K hK
 go_enter Tryz.func165,Tryz.ntmps165
 go_wp2
 go_ret
 exact ⟨ret_int (by rw [← wrap_bit K hK,h];simp),rfl⟩
def wm (W:Int→Option Nat) (C:Int):Option Value:=(W C).map fun v=>.int .u16 (v:Int)
def joined (W:Int→Option Nat) (p:Int) (v:Nat) (D:Int):Option Nat:=if D=p then some (match W p with | some k=>v &&& k | none=>v) else W D
theorem wm_joined (W:Int→Option Nat) (p:Int) (v:Nat):wm (joined W p v)=fun D=>if D=p then some (.int .u16 ((match W p with | some k=>v &&& k | none=>v:Nat):Int)) else wm W D:=by
 funext D
 unfold wm joined
 by_cases h:D=p <;> simp [h]
theorem Tryz.zeroCells (w:World):(zeroValue 251).run Tryz.prog w=.ok (.int .u16 0) w:=by kernel_rfl
set_option maxHeartbeats 1000000 in
theorem join_any (b:Nat) (p:Int) (v:Nat) (W:Int→Option Nat) (w:World) (hv:v<65536) (hW:∀ C k,W C=some k→k<65536) (h:IMap w b (wm W)) :
  Calls Tryz.prog 167 #[.map (some b),.int .i64 p,.int .u16 v] w fun e w'=>e=.returned (.tuple #[])∧IMap w' b (wm (joined W p v))∧w.grownBy w' (some b):=by
 have hl:=h.look (P:=Tryz.prog) (t:=253) (k:=3) (e:=251) Tryz.underlying253 Tryz.underlying3 (Tryz.zeroCells _) p true
 cases hp:W p with
 | none =>
  have e0:wm W p=none:=by unfold wm;rw [hp];rfl
  rw [e0] at hl
  obtain ⟨w',hrun,r1,r2⟩:=h.store (P:=Tryz.prog) (t:=253) (k:=3) (e:=251) Tryz.underlying253 Tryz.underlying3 p (.int .u16 (v:Int))
  have R:Hid (IMap w' b (wm (joined W p v))):=by unfold Hid;rw [wm_joined,hp];exact r1
  clear r1 h
  go_enter Tryz.func167,Tryz.ntmps167
  go_wp2
  go_end0
  exact ⟨rfl,R.out,r2⟩
 | some k =>
  have e0:wm W p=some (.int .u16 (k:Int)):=by unfold wm;rw [hp];rfl
  have hk:=hW p k hp
  rw [e0] at hl
  have hb:=u16_and_nat v k hv hk
  obtain ⟨w',hrun,r1,r2⟩:=h.store (P:=Tryz.prog) (t:=253) (k:=3) (e:=251) Tryz.underlying253 Tryz.underlying3 p (.int .u16 ((v &&& k:Nat):Int))
  have R:Hid (IMap w' b (wm (joined W p v))):=by unfold Hid;rw [wm_joined,hp];exact r1
  clear r1 h
  go_enter Tryz.func167,Tryz.ntmps167
  go_wp2
  go_end0
  exact ⟨rfl,R.out,r2⟩
end Go.Proofs.YthbcfepbkkbjiaaGreatDoor
