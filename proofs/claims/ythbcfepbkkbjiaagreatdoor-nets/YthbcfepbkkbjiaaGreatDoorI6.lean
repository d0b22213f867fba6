import Derived.Shelf.Strconv.Itoa0
import Derived.Shelf.Strconv.Itoa1
import Derived.Shelf.LaysM
import Derived.Shelf.Strconv.Itoa2
import Derived.Shelf.Strconv.Itoa3
import Derived.Test.YthbcfepbkkbjiaaGreatDoorProg
import Derived.Lib.AppendIntMem
import Derived.Lib.ItoaLen
import Derived.Test.YthbcfepbkkbjiaaGreatDoorI5
import Derived.Test.YthbcfepbkkbjiaaGreatDoorI3
set_option linter.unusedVariables false
set_option maxRecDepth 100000
namespace Go.Proofs.YthbcfepbkkbjiaaGreatDoor
open Go.Shelf
def laysItoa_ren:Go.Shelf.Ren:=⟨fun | 171=>160 | 243=>170 | 246=>174 | 283=>175 | 284=>176 | 285=>177 | 286=>178 | 129=>180 | 317=>179 | 318=>181 | 319=>182 | 320=>183 | 337=>184 | 338=>185 | n=>n,fun | 3=>3 | 9=>9 | 2=>2 | 4=>4 | 171=>266 | 0=>0 | 53=>267 | 37=>25 | 5=>5 | 173=>270 | 212=>273 | 51=>65 | 20=>20 | 213=>274 | 46=>71 | 232=>277 | 233=>278 | n=>n,fun | 17=>6 | 18=>7 | 19=>8 | n=>n⟩
theorem laysItoa:Go.Proofs.LaysM.n171 Tryz.prog laysItoa_ren:={
 mixed:=by kernel_rfl
 f129:=Tryz.func180.trans (congrArg some (by kernel_rfl))
 f171:=Tryz.func160.trans (congrArg some (by kernel_rfl))
 f243:=Tryz.func170.trans (congrArg some (by kernel_rfl))
 f246:=Tryz.func174.trans (congrArg some (by kernel_rfl))
 f283:=Tryz.func175.trans (congrArg some (by kernel_rfl))
 f284:=Tryz.func176.trans (congrArg some (by kernel_rfl))
 f285:=Tryz.func177.trans (congrArg some (by kernel_rfl))
 f286:=Tryz.func178.trans (congrArg some (by kernel_rfl))
 f317:=Tryz.func179.trans (congrArg some (by kernel_rfl))
 f318:=Tryz.func181.trans (congrArg some (by kernel_rfl))
 f319:=Tryz.func182.trans (congrArg some (by kernel_rfl))
 f320:=Tryz.func183.trans (congrArg some (by kernel_rfl))
 f337:=Tryz.func184.trans (congrArg some (by kernel_rfl))
 f338:=Tryz.func185.trans (congrArg some (by kernel_rfl))
 t0:=Tryz.underlying0
 a0:=Tryz.isAgg0
 z0:=Tryz.sizeOf0
 v0:=Tryz.zeroValue0
 t2:=Tryz.underlying2
 a2:=Tryz.isAgg2
 z2:=Tryz.sizeOf2
 v2:=Tryz.zeroValue2
 t3:=Tryz.underlying3
 a3:=Tryz.isAgg3
 z3:=Tryz.sizeOf3
 v3:=Tryz.zeroValue3
 t4:=Tryz.underlying4
 a4:=Tryz.isAgg4
 z4:=Tryz.sizeOf4
 v4:=Tryz.zeroValue4
 t5:=Tryz.underlying5
 a5:=Tryz.isAgg5
 z5:=Tryz.sizeOf5
 v5:=Tryz.zeroValue5
 t9:=Tryz.underlying9
 a9:=Tryz.isAgg9
 z9:=Tryz.sizeOf9
 v9:=Tryz.zeroValue9
 t20:=Tryz.underlying20
 a20:=Tryz.isAgg20
 z20:=Tryz.sizeOf20
 v20:=Tryz.zeroValue20
 t37:=Tryz.underlying25
 a37:=Tryz.isAgg25
 z37:=Tryz.sizeOf25
 v37:=Tryz.zeroValue25
 t46:=Tryz.underlying71
 a46:=Tryz.isAgg71
 z46:=Tryz.sizeOf71
 v46:=Tryz.zeroValue71
 t51:=Tryz.underlying65
 a51:=Tryz.isAgg65
 z51:=Tryz.sizeOf65
 v51:=Tryz.zeroValue65
 t53:=Tryz.underlying267
 a53:=Tryz.isAgg267
 z53:=Tryz.sizeOf267
 v53:=Tryz.zeroValue267
 t171:=Tryz.underlying266
 a171:=Tryz.isAgg266
 z171:=Tryz.sizeOf266
 v171:=Tryz.zeroValue266
 t173:=Tryz.underlying270
 a173:=Tryz.isAgg270
 z173:=Tryz.sizeOf270
 v173:=Tryz.zeroValue270
 t212:=Tryz.underlying273
 a212:=Tryz.isAgg273
 z212:=Tryz.sizeOf273
 v212:=Tryz.zeroValue273
 t213:=Tryz.underlying274
 a213:=Tryz.isAgg274
 z213:=Tryz.sizeOf274
 t232:=Tryz.underlying277
 a232:=Tryz.isAgg277
 z232:=Tryz.sizeOf277
 v232:=Tryz.zeroValue277
 t233:=Tryz.underlying278
 a233:=Tryz.isAgg278
 z233:=Tryz.sizeOf278
 v233:=Tryz.zeroValue278
 g17:=by kernel_rfl
 g18:=by kernel_rfl
 g19:=by kernel_rfl
 i0:=by kernel_rfl
 i2:=by kernel_rfl
 i3:=by kernel_rfl
 i4:=by kernel_rfl
 i5:=by kernel_rfl
 i9:=by kernel_rfl
 i20:=by kernel_rfl
 i37:=by kernel_rfl
 i46:=by kernel_rfl
 i51:=by kernel_rfl
 i53:=by kernel_rfl
 i171:=by kernel_rfl
 i173:=by kernel_rfl
 i212:=by kernel_rfl
 i232:=by kernel_rfl
 i233:=by kernel_rfl
 m17:=by kernel_rfl
 m18:=by kernel_rfl
 m19:=by kernel_rfl }
end Go.Proofs.YthbcfepbkkbjiaaGreatDoor
namespace Go.Proofs.YthbcfepbkkbjiaaGreatDoor
open Go.RowKit
def Tab (w : World) : Prop := Lib.TabIs Tryz.prog w "internal/strconv.uint64pow10" .u64 Lib.pow10Tab
theorem var_keep {P:Program} {w w':World} {n:String} {cs:Array Value} (hg:w.grownBy w' none) (h:w.var? P n=some cs):w'.var? P n=some cs:=by
 unfold World.var? at h ⊢
 cases hx:P.globalNamed n with
 | none=>rw [hx] at h;cases h
 | some g =>
  rw [hx] at h
  simp only [Option.bind_some] at h ⊢
  have hlt:g<w.heap.size:=by
   cases e:w.heap[g]? with
   | none=>rw [e] at h;cases h
   | some o=>exact (Array.getElem?_eq_some_iff.1 e).1
  rw [hg.block g hlt (by simp)]
  exact h
theorem Tab.keep {w w':World} (h:Tab w) (hg:w.grownBy w' none):Tab w':=var_keep hg h
theorem itoa_any (n:Nat) (w:World) (hn:n≤1000000) (h:Tab w) :
  Calls Tryz.prog 160 #[.int .i64 n] w fun e w'=>(∃ s,e=.returned (.string s)∧s.size≤21)∧w.grownBy w' none:=by
 refine (Any.strconv_Itoa laysItoa (n:Int) (by omega) (by omega) w h).mono ?_
 rintro e w' ⟨rfl,k,os,rfl⟩
 exact ⟨⟨_,rfl,by simpa [ByteArray.size] using Lib.itoa_length_le (n:Int) (by omega) (by omega)⟩,below_grown (Lib.below_grow _ w (Nat.le_refl _) k os)⟩
theorem describe_any (c:Int) (w:World):Calls Tryz.prog 159 #[.int .i64 c] w fun e w'=>(∃ s,e=.returned (.string s)∧s.size≤100)∧w'=w:=by
 go_enter Tryz.func159,Tryz.ntmps159
 go_wp2
 all_goals go_ret
 all_goals exact ⟨⟨_,rfl,by decide⟩,rfl⟩
def FaultS (w:World) (F:Nat) (at_ c:Int) (bad:Value):Prop :=
 ∃ (R:Nat) (s:ByteArray),w.heap[F]?=some (.cells #[.int .i64 at_,.int .i64 c,.iface 244 (.pointer (some ⟨R,0,none⟩))] 121 (0,0)) ∧
  w.heap[R]?=some (.cells #[.string s,bad] 246 (0,0))
theorem FaultS.keep {w w':World} {F:Nat} {at_ c:Int} {bad:Value} (h:FaultS w F at_ c bad) (hg:w.grownBy w' none):FaultS w' F at_ c bad:=by
 obtain ⟨R,s,h1,h2⟩:=h
 exact ⟨R,s,by rw [hg.block F (Array.getElem?_eq_some_iff.1 h1).1 (by simp)];exact h1,by rw [hg.block R (Array.getElem?_eq_some_iff.1 h2).1 (by simp)];exact h2⟩
theorem two_new (w:World) (s:ByteArray) (at_ c:Int) (bad:Value) :
  FaultS ((w.alloc (.cells #[.string s,bad] 246)).alloc (.cells #[.int .i64 at_,.int .i64 c,.iface 244 (.pointer (some ⟨w.heap.size,0,none⟩))] 121)) (w.heap.size+1) at_ c bad :=
 ⟨w.heap.size,s,heap_top _ _ _ (by simp),by
  have:=(World.grownBy_alloc (w.alloc (.cells #[.string s,bad] 246)) (.cells #[.int .i64 at_,.int .i64 c,.iface 244 (.pointer (some ⟨w.heap.size,0,none⟩))] 121) none).block w.heap.size (by simp) (by simp)
  rw [this];exact heap_top _ _ _ rfl⟩
set_option maxHeartbeats 1000000 in
theorem newFault_any (c:Int) (n:Nat) (tb:TypeId) (pb:Value) (w:World) (hn:n≤1000000) (h:Tab w) :
  Calls Tryz.prog 136 #[.int .i64 c,.int .i64 n,.iface tb pb] w fun e w'=>∃ F,e=.returned (.iface 114 (.pointer (some ⟨F,0,none⟩)))∧FaultS w' F n c (.iface tb pb)∧w.heap.size≤F∧w.grownBy w' none:=by
 by_cases hc:c=1
 ·subst hc
  go_enter Tryz.func136,Tryz.ntmps136
  go_wp2_with (first | (go_at_call 159;refine (describe_any _ _).mono ?_;rintro e w1 ⟨⟨s,rfl,hs⟩,rfl⟩))
  go_ret
  exact ⟨_,rfl,two_new _ _ _ _ _,by simp,grown_alloc (grown_alloc (grown_refl _ _) _) _⟩
 ·have t1:(c == 1)=false:=by simpa using hc
  have t0:(c != 1)=true:=by simpa using hc
  go_enter Tryz.func136,Tryz.ntmps136
  go_wp2_with (first | (go_at_call 159;refine (describe_any _ _).mono ?_;rintro e w1 ⟨⟨s,rfl,hs⟩,rfl⟩) | (go_at_call 160;refine (itoa_any n _ hn h).mono ?_;rintro e w2 ⟨⟨s2,rfl,hs2⟩,hg2⟩;have t2:¬ 9223372036854775807<16+s2.size:=(by omega);have t3:¬ 9223372036854775807<s.size+(16+s2.size):=(by omega)))
  go_ret
  exact ⟨_,rfl,two_new _ _ _ _ _,by have:=hg2.size;omega,grown_alloc (grown_alloc hg2 _) _⟩
theorem fault_any (R B n cap MB k:Nat) (c:Int) (tb:TypeId) (pb:Value) (q:Nat→Int) (w:World) (hk:k≤1000000) (h:RowS w R B n cap MB (.iface tb pb) q) (ht:Tab w) :
  Calls Tryz.prog 162 #[.pointer (some ⟨R,0,none⟩),.int .i64 c,.int .i64 k] w fun e w'=>∃ F,e=.returned (.iface 114 (.pointer (some ⟨F,0,none⟩)))∧FaultS w' F k c (.iface tb pb)∧w.heap.size≤F∧w.grownBy w' none:=by
 obtain ⟨_,_,r2⟩:=h.cells
 clear h
 go_enter Tryz.func162,Tryz.ntmps162
 go_wp2_with (first | (go_at_call 136;refine (newFault_any c k tb pb _ hk ht).mono ?_;rintro e w1 ⟨F,rfl,hF,hlt,hg⟩))
 go_ret
 exact ⟨F,rfl,hF,hlt,hg⟩
def ErrS (w w':World) (e:Ending) (nil:Prop) (P:Nat→Int→Prop) (bad:Value):Prop :=
 (nil∧e=.returned .nilIface)∨∃ F k c,P k c∧e=.returned (.iface 114 (.pointer (some ⟨F,0,none⟩)))∧FaultS w' F k c bad∧w.heap.size≤F
theorem last_succ (R B m cap MB:Nat) (bad:Value) (q:Nat→Int) (w:World) (hn:m+1≤1000000) (h:RowS w R B (m+1) cap MB bad q) :
  Calls Tryz.prog 164 #[.pointer (some ⟨R,0,none⟩)] w fun e w'=>e=.returned (.int .i64 (m:Int))∧w'=w:=by
 refine (last_any R B (m+1) cap MB bad q w (by omega) hn h).mono ?_
 rintro e w' ⟨rfl,rfl⟩
 exact ⟨ret_int (by omega),rfl⟩
set_option maxHeartbeats 1000000 in
theorem checkEnd_any (R B n cap MB:Nat) (tb:TypeId) (pb:Value) (q:Nat→Int) (w:World) (hn1:1≤n) (hn:n≤1000000) (h:RowS w R B n cap MB (.iface tb pb) q) (ht:Tab w) :
  Calls Tryz.prog 138 #[.pointer (some ⟨R,0,none⟩)] w fun e w'=>ErrS w w' e ((kd (q (4*(n-1)))).kind=12) (fun k c=>(kd (q (4*(n-1)))).kind≠12∧k=n-1∧c=7) (.iface tb pb)∧w.grownBy w' none:=by
 obtain ⟨m,rfl⟩:∃ m,n=m+1:=⟨n-1,by omega⟩
 rw [Nat.add_sub_cancel]
 have a8:=(cls_kind (q (4*m))).1
 by_cases hk:(kd (q (4*m))).kind=12
 ·have t9:(((kd (q (4*m))).cls:Int) != 11)=false:=by simp;have:=a8.2 hk;omega
  have t8:((kd (q (4*m))).cls:Int)=11:=by have:=a8.2 hk;omega
  have hk':Hid ((kd (q (4*m))).kind=12):=hk
  clear hk a8
  go_enter Tryz.func138,Tryz.ntmps138
  go_wp2_with (first | (go_at_call 164;refine (last_succ R B m cap MB _ q _ hn h).mono ?_;rintro e w1 ⟨rfl,rfl⟩) | (go_at_call 163;refine (pkind_any R B (m+1) cap MB m _ q _ (by omega) hn h).mono ?_;rintro e w1 ⟨rfl,hg1⟩))
  go_ret
  exact ⟨Or.inl ⟨hk'.out,rfl⟩,hg1⟩
 ·have t9:(((kd (q (4*m))).cls:Int) != 11)=true:=by simp;intro e;exact hk (a8.1 (by omega))
  have t8:¬ ((kd (q (4*m))).cls:Int)=11:=fun e=>hk (a8.1 (by omega))
  have hk':Hid (¬ (kd (q (4*m))).kind=12):=hk
  clear hk a8
  go_enter Tryz.func138,Tryz.ntmps138
  go_wp2_with (first | (go_at_call 163;refine (pkind_any R B (m+1) cap MB m _ q _ (by omega) hn h).mono ?_;rintro e w1 ⟨rfl,hg1⟩;have h:=h.keep hg1;have ht:=ht.keep hg1) | (go_at_call 164;refine (last_succ R B m cap MB _ q _ hn h).mono ?_;rintro e w1 ⟨rfl,rfl⟩) | (go_at_call 162;refine (fault_any R B (m+1) cap MB m 7 tb pb q _ (by omega) h ht).mono ?_;rintro e w3 ⟨F,rfl,hF,hlt,hg3⟩))
  go_ret
  exact ⟨Or.inr ⟨F,m,7,⟨hk'.out,rfl,rfl⟩,rfl,hF,by have:=hg1.size;omega⟩,grown_trans hg1 hg3⟩
end Go.Proofs.YthbcfepbkkbjiaaGreatDoor
namespace Go.Proofs.YthbcfepbkkbjiaaGreatDoor
open Go.RowKit
theorem none_yet (f:Nat→Int):Hid (∀ j,j<0→f j=0):=fun j hj=>by omega
set_option maxHeartbeats 1000000 in
theorem checkEach_any (R B n cap MB:Nat) (tb:TypeId) (pb:Value) (q:Nat→Int) (w:World) (hn:n≤1000000) (hq:Num q) (h:RowS w R B n cap MB (.iface tb pb) q) (ht:Tab w) :
  Calls Tryz.prog 137 #[.pointer (some ⟨R,0,none⟩)] w fun e w'=>ErrS w w' e (∀ j,j<n→wrong q n j=0) (fun k c=>k<n∧wrong q n k≠0∧(∀ j,j<k→wrong q n j=0)∧c=wrong q n k) (.iface tb pb)∧w.grownBy w' none:=by
 obtain ⟨r0,_,_⟩:=h.cells
 go_enter Tryz.func137,Tryz.ntmps137
 go_wp2
 go_loopw [10] (fun i wr=>∃ k:Nat,k≤n∧i=.int .i64 k∧w.grownBy wr none∧Hid (∀ j,j<k→wrong q n j=0)) (fun i _=>n-(intOf i).toNat)
 case atStart=>exact ⟨0,Nat.zero_le _,rfl,grown_refl _ _,none_yet _⟩
 case round =>
  obtain ⟨k,hk,rfl,hgr,hno⟩:=hrel
  by_cases hlt:k<n
  ·by_cases hw:wrong q n k=0
   ·go_wp2_with (first | (go_at_call 161;refine (pwrong_any R B n cap MB k _ q _ hlt hn hq (h.keep hgr)).mono ?_;rintro e w1 ⟨rfl,hg1⟩))
    go_roundw
    case rel=>exact ⟨k+1,by omega,by go_num,grown_trans hgr hg1,fun j hj=>by
     by_cases e:j=k
     ·subst e;exact hw
     ·exact hno.out j (by omega)⟩
    case measure=>simp [intOf];omega
   ·go_wp2_with (first | (go_at_call 161;refine (pwrong_any R B n cap MB k _ q _ hlt hn hq (h.keep hgr)).mono ?_;rintro e w1 ⟨rfl,hg1⟩) | (go_at_call 162;refine (fault_any R B n cap MB k _ tb pb q _ (by omega) (h.keep (grown_trans hgr hg1)) (ht.keep (grown_trans hgr hg1))).mono ?_;rintro e w3 ⟨F,rfl,hF,hlt3,hg3⟩))
    go_ret
    exact ⟨Or.inr ⟨F,k,wrong q n k,⟨hlt,hw,hno.out,rfl⟩,rfl,hF,by have:=hg1.size;have:=hgr.size;omega⟩,grown_trans (grown_trans hgr hg1) hg3⟩
  ·have hke:k=n:=by omega
   subst hke
   go_wp2
   go_ret
   exact ⟨Or.inl ⟨hno.out,rfl⟩,hgr⟩
end Go.Proofs.YthbcfepbkkbjiaaGreatDoor
namespace Go.Proofs.YthbcfepbkkbjiaaGreatDoor
open Go.RowKit
def Cov (q:Nat→Int) (k:Nat) (W:Int→Option Nat):Prop :=
 (∀ C v,W C=some v→v<65536)∧∀ c:Nat,c<16→∀ j:Nat,(there q (c:Int) k j=true↔∃ v,W (j:Int)=some v∧v.testBit c=false)
def CovT (q:Nat→Int) (k v' t:Nat) (W:Int→Option Nat):Prop :=
 (∀ C v,W C=some v→v<65536)∧∀ c:Nat,c<16→∀ j:Nat,((there q (c:Int) k j=true∨(v'.testBit c=false∧∃ i,i<t∧(nx q k).getD i 0=(j:Int)))↔∃ v,W (j:Int)=some v∧v.testBit c=false)
def W0 (C:Int):Option Nat:=if C=0 then some 0 else none
theorem cov_zero (q:Nat→Int):Cov q 0 W0:=by
 refine ⟨fun C v h=>?_,fun c hc j=>?_⟩
 ·unfold W0 at h
  split at h
  ·cases h;omega
  ·cases h
 ·unfold there W0
  by_cases h:j=0
  ·subst h;simp
  ·simp [h]
theorem covT_zero {q:Nat→Int} {k v':Nat} {W:Int→Option Nat} (h:Cov q k W):CovT q k v' 0 W :=
 ⟨h.1,fun c hc j=>by rw [← h.2 c hc j];simp⟩
theorem covT_succ {q:Nat→Int} {k v' t:Nat} {W:Int→Option Nat} (hv:v'<65536) (h:CovT q k v' t W):CovT q k v' (t+1) (joined W ((nx q k).getD t 0) v'):=by
 obtain ⟨h1,h2⟩:=h
 refine ⟨fun C v hC=>?_,fun c hc j=>?_⟩
 ·unfold joined at hC
  split at hC
  ·rename_i e
   subst e
   cases hp:W ((nx q k).getD t 0) with
   | none=>rw [hp] at hC;cases hC;exact hv
   | some u =>
    rw [hp] at hC
    simp only [Option.some.injEq] at hC
    subst hC
    exact Nat.lt_of_le_of_lt Nat.and_le_left hv
  ·exact h1 C v hC
 ·have IH:=h2 c hc j
  unfold joined
  by_cases e:(j:Int)=(nx q k).getD t 0
  ·rw [if_pos e,← e]
   cases hp:W (j:Int) with
   | none =>
    rw [hp] at IH
    simp only [reduceCtorEq,false_and,exists_false,iff_false,not_or] at IH
    obtain ⟨i1,i2⟩:=IH
    simp only [Option.some.injEq,exists_eq_left']
    constructor
    ·rintro (x | ⟨x,_⟩)
     ·exact absurd x i1
     ·exact x
    ·intro x
     exact Or.inr ⟨x,t,by omega,e.symm⟩
   | some u =>
    rw [hp] at IH
    simp only [Option.some.injEq,exists_eq_left'] at IH ⊢
    rw [Nat.testBit_and,Bool.and_eq_false_iff,← IH]
    constructor
    ·rintro (x | ⟨x,i,hi,hx⟩)
     ·exact Or.inr (Or.inl x)
     ·exact Or.inl x
    ·rintro (x | x | ⟨x,i,hi,hx⟩)
     ·exact Or.inr ⟨x,t,by omega,e.symm⟩
     ·exact Or.inl x
     ·exact Or.inr ⟨x,i,by omega,hx⟩
  ·rw [if_neg e,← IH]
   constructor
   ·rintro (x | ⟨x,i,hi,hx⟩)
    ·exact Or.inl x
    ·have:i≠t:=fun ei=>by subst ei;exact e hx.symm
     exact Or.inr ⟨x,i,by omega,hx⟩
   ·rintro (x | ⟨x,i,hi,hx⟩)
    ·exact Or.inl x
    ·exact Or.inr ⟨x,i,by omega,hx⟩
theorem bset_all (f:Nat→Bool) (l:List Int) (j:Nat):bset f l l.length j=true↔(f j=true∨∃ i,i<l.length∧l.getD i 0=(j:Int)):=by
 unfold bset
 rw [Bool.or_eq_true,List.take_length,List.any_eq_true]
 constructor
 ·rintro (x | ⟨x,hx,e⟩)
  ·exact Or.inl x
  ·obtain ⟨i,hi,rfl⟩:=List.getElem_of_mem hx
   exact Or.inr ⟨i,hi,by simpa [List.getD,hi] using e⟩
 ·rintro (x | ⟨i,hi,e⟩)
  ·exact Or.inl x
  ·exact Or.inr ⟨l[i],List.getElem_mem hi,by simpa [List.getD,hi] using e⟩
def Left (q:Nat→Int) (k v':Nat):Prop:=v'<65536∧∀ c:Nat,c<16→(v'.testBit c=false↔there q (c:Int) k k=true∧¬ ((kd (q (4*k))).kind=6∧q (4*k+3)=(c:Int)))
theorem covT_all {q:Nat→Int} {k v':Nat} {W:Int→Option Nat} (hl:Left q k v') (h:CovT q k v' (nx q k).length W):Cov q (k+1) W:=by
 refine ⟨h.1,fun c hc j=>?_⟩
 rw [← h.2 c hc j,there]
 by_cases e:there q (c:Int) k k=true∧¬ ((kd (q (4*k))).kind=6∧q (4*k+3)=(c:Int))
 ·rw [if_pos e,bset_all]
  have:=(hl.2 c hc).2 e
  simp only [this,true_and]
 ·rw [if_neg e]
  have:¬ v'.testBit c=false:=fun x=>e ((hl.2 c hc).1 x)
  exact ⟨Or.inl,fun x=>x.elim id (fun y=>absurd y.1 this)⟩
theorem cov_skip {q:Nat→Int} {k:Nat} {W:Int→Option Nat} (hW:W (k:Int)=none) (h:Cov q k W):Cov q (k+1) W:=by
 refine ⟨h.1,fun c hc j=>?_⟩
 have hno:¬ there q (c:Int) k k=true:=fun x=>by
  obtain ⟨v,hv,_⟩:=(h.2 c hc k).1 x
  rw [hW] at hv;cases hv
 rw [← h.2 c hc j,there,if_neg (fun e=>hno e.1)]
theorem cov_skip_ok {q:Nat→Int} {k K:Nat} {W:Int→Option Nat} (hW:W (k:Int)=none) (h:Cov q k W) (hK:(kd (q (4*k))).kind=3→K<16∧q (4*k+3)=(K:Int)):¬ bad q k:=by
 rintro ⟨b1,b2⟩
 obtain ⟨k1,k2⟩:=hK b1
 rw [k2] at b2
 obtain ⟨v,hv,_⟩:=(h.2 K k1 k).1 b2
 rw [hW] at hv;cases hv
theorem and_bit (v K:Nat):(v &&& 2 ^ K=0)↔v.testBit K=false:=by
 constructor
 ·intro h
  have:=congrArg (fun x=>x.testBit K) h
  simpa [Nat.testBit_and,Nat.testBit_two_pow_self] using this
 ·intro h
  apply Nat.eq_of_testBit_eq
  intro i
  rw [Nat.testBit_and,Nat.testBit_two_pow,Nat.zero_testBit]
  by_cases e:K=i
  ·subst e;simp [h]
  ·simp [e]
theorem cov_read {q:Nat→Int} {k K v:Nat} {W:Int→Option Nat} (hW:W (k:Int)=some v) (h:Cov q k W) (hk:(kd (q (4*k))).kind=3) (k1:K<16) (k2:q (4*k+3)=(K:Int)):(v &&& 2 ^ K=0)↔bad q k:=by
 rw [and_bit]
 unfold bad
 rw [k2,h.2 K k1 k,hW]
 simp [hk]
theorem left_same {q:Nat→Int} {k v:Nat} {W:Int→Option Nat} (hW:W (k:Int)=some v) (h:Cov q k W) (hk:(kd (q (4*k))).kind≠6):Left q k v:=by
 refine ⟨h.1 _ _ hW,fun c hc=>?_⟩
 rw [h.2 c hc k,hW]
 simp [hk]
theorem left_or {q:Nat→Int} {k K v:Nat} {W:Int→Option Nat} (hW:W (k:Int)=some v) (h:Cov q k W) (hk:(kd (q (4*k))).kind=6) (k1:K<16) (k2:q (4*k+3)=(K:Int)):Left q k (v ||| 2 ^ K):=by
 have hv:=h.1 _ _ hW
 have hp:2 ^ K<2 ^ 16:=Nat.pow_lt_pow_right (by omega) k1
 refine ⟨Nat.or_lt_two_pow (by omega) hp,fun c hc=>?_⟩
 rw [h.2 c hc k,hW,k2,Nat.testBit_or,Nat.testBit_two_pow]
 by_cases e:K=c
 ·subst e;simp [hk]
 ·have:¬ (K:Int)=(c:Int):=by omega
  simp [hk,e,this]
end Go.Proofs.YthbcfepbkkbjiaaGreatDoor
namespace Go.Proofs.YthbcfepbkkbjiaaGreatDoor
open Go.RowKit
theorem wm_W0:wm W0=fun D=>if D=0 then some (.int .u16 0) else none:=by
 funext D
 unfold wm W0
 by_cases h:D=0 <;> simp [h]
theorem cell_small {q:Nat→Int} {n k:Nat} (hq:Num q) (hok:wrong q n k=0) (hk:(kd (q (4*k))).kind=3∨(kd (q (4*k))).kind=6):∃ K:Nat,K<16∧q (4*k+3)=(K:Int):=by
 obtain ⟨_,_,_,a4,a5,_⟩:=cls_kind (q (4*k))
 have z3:=hq (4*k+3)
 have:=(wrong_cls q n k).2.2.2.1 (hk.imp a4.2 a5.2)
 rw [hok] at this
 by_cases h:16≤q (4*k+3)
 ·rw [if_pos h] at this;omega
 ·exact ⟨(q (4*k+3)).toNat,by omega,by omega⟩
theorem cell_at (K T:Nat) (w:World) (hK:K<16) (hT:T=2 ^ K):Calls Tryz.prog 165 #[.int .i64 K] w fun e w'=>e=.returned (.int .u16 (T:Int))∧w'=w:=by
 subst hT
 exact cell_any K w hK
theorem two_lt {K:Nat} (h:K<16):2 ^ K<65536:=by
 have:=Nat.pow_lt_pow_right (show 1<2 by omega) h
 simpa using this
theorem IMap.no_cell {w:World} {b o:Nat} {f:Int→Option Value} {v:Value} (h:IMap w b f) (hc:w.cell? ⟨b,o,none⟩=some v):False:=by
 obtain ⟨es,clock,h1,_⟩:=h
 simp [World.cell?,h1] at hc
theorem no_bad_yet (q:Nat→Int):Hid (∀ j,j<0→¬ bad q j):=fun j hj=>by omega
set_option maxHeartbeats 2000000 in
theorem checkCells_any (R B n cap MB:Nat) (tb:TypeId) (pb:Value) (q:Nat→Int) (w:World) (hn:n≤1000000) (hq:Num q) (hok:∀ j,j<n→wrong q n j=0) (h:RowS w R B n cap MB (.iface tb pb) q) (ht:Tab w) :
  Calls Tryz.prog 139 #[.pointer (some ⟨R,0,none⟩)] w fun e w'=>ErrS w w' e (∀ j,j<n→¬ bad q j) (fun k c=>k<n∧bad q k∧(∀ j,j<k→¬ bad q j)∧c=8) (.iface tb pb)∧w.grownBy w' none:=by
 obtain ⟨r0,_,_⟩:=h.cells
 have hR:R<w.heap.size:=(Array.getElem?_eq_some_iff.1 h.1).1
 have hmm:=@run_makeMap Tryz.prog
 have h0:IMap (w.alloc (.map #[] 0)) w.heap.size (fun _=>none)∧w.grownBy (w.alloc (.map #[] 0)) none:=⟨imap_new w,grown_alloc (grown_refl w none) (.map #[] 0)⟩
 go_enter Tryz.func139,Tryz.ntmps139
 go_wp2_with (refine wpList_put_own _ w rfl _ _ _ 253 rfl 3 251 Tryz.underlying253 Tryz.underlying3 w.heap.size _ _ _ _ rfl rfl rfl (by assumption) (Nat.le_refl _) ?_;clear h0;intro w0 h0;have r0':=h0.2.cell r0 (by simp))
 rw [← wm_W0] at h0
 clear r0 hmm
 go_loopw [17] (fun i wr=>∃ (k:Nat) (W:Int→Option Nat),k≤n∧i=.int .i64 k∧w.grownBy wr none∧IMap wr w.heap.size (wm W)∧Hid (Cov q k W)∧Hid (∀ j,j<k→¬ bad q j)) (fun i _=>n-(intOf i).toNat)
 case atStart=>exact ⟨0,W0,Nat.zero_le _,rfl,h0.2,h0.1,cov_zero q,no_bad_yet q⟩
 case round =>
  obtain ⟨k,W,hk,rfl,hgr,hm,hcov,hno⟩:=hrel
  clear r0' h0
  by_cases hlt:k<n
  ·have hrow:=h.keep hgr
   obtain ⟨c0,c1,c2,c3⟩:=hrow.2.1.insn hlt
   rw [Nat.zero_add] at c0 c1 c2 c3
   have hB:B<wr.heap.size:=World.block_lt_of_cell? wr _ c3
   have hl:∀ o,(Instr.lookup 253 (.map (some w.heap.size)) (.int .i64 k) true).run Tryz.prog (wr.alloc o)=.ok (.tuple #[(wm W k).getD (.int .u16 0),.bool (wm W k).isSome]) (wr.alloc o):=fun o =>
    (hm.keep (grown_alloc (grown_refl wr none) o) (by simp)).look (P:=Tryz.prog) (t:=253) (k:=3) (e:=251) Tryz.underlying253 Tryz.underlying3 (Tryz.zeroCells _) k true
   have t1:(k:Int)<(n:Int):=by omega
   have hokk:=hok k hlt
   cases hW:W (k:Int) with
   | none =>
    have e0:wm W k=none:=by unfold wm;rw [hW];rfl
    rw [e0] at hl
    have HC:Hid (Cov q (k+1) W):=cov_skip hW hcov.out
    have HB:Hid (¬ bad q k):=fun b=>by
     obtain ⟨K,k1,k2⟩:=cell_small hq hokk (Or.inl b.1)
     exact cov_skip_ok hW hcov.out (fun _=>⟨k1,k2⟩) b
    clear hcov
    go_wp2
    go_roundw
    case rel=>exact ⟨k+1,W,by omega,by go_num,grown_alloc hgr _,hm.keep (grown_alloc (grown_refl wr none) _) (by simp),HC,fun j hj=>by
     by_cases e:j=k
     ·subst e;exact HB.out
     ·exact hno.out j (by omega)⟩
    case measure=>simp [intOf];omega
   | some v =>
    have e0:wm W k=some (.int .u16 (v:Int)):=by unfold wm;rw [hW];rfl
    rw [e0] at hl
    obtain ⟨_,_,_,a4,a5,_⟩:=cls_kind (q (4*k))
    have hv:=hcov.out.1 _ _ hW
    by_cases hb:bad q k
    ·obtain ⟨K,k1,k2⟩:=cell_small hq hokk (Or.inl hb.1)
     obtain ⟨T,hT⟩:∃ T,T=2 ^ K:=⟨_,rfl⟩
     have hT16:T<65536:=by rw [hT];exact Nat.pow_lt_pow_right (by omega) k1
     have t4:(((kd (q (4*k))).cls:Int) == 3)=true:=by simp;have:=a4.2 hb.1;omega
     have hz:v &&& T=0:=by rw [hT];exact (cov_read hW hcov.out hb.1 k1 k2).2 hb
     have hand:=u16_and_nat v T hv hT16
     rw [hz] at hand
     rw [k2] at c3
     have HB:Hid (bad q k):=hb
     have HT:Hid (T=2 ^ K):=hT
     clear hb hcov a4 a5 hT hz
     obtain ⟨wo,hwo⟩:∃ x,x=wr:=⟨_,rfl⟩
     subst hwo
     go_wp2_with (first | (go_at_call 163;refine (pkind_any R B n cap MB k _ q _ hlt hn (hrow.keep (grown_alloc (grown_refl _ none) _))).mono ?_;rintro e w1 ⟨rfl,hg1⟩;obtain ⟨x0,x1,x2,x3⟩:=box_four hg1 (by simp);have hz1:=alloc_lt hg1;have G1:=grown_trans (grown_alloc hgr _) hg1) | (go_at_call 165;refine (cell_at K T _ k1 HT.out).mono ?_;rintro e w2 ⟨rfl,rfl⟩) | (go_at_call 162;refine (fault_any R B n cap MB k 8 tb pb q _ (by omega) (h.keep G1) (ht.keep G1)).mono ?_;rintro e w3 ⟨F,rfl,hF,hlt3,hg3⟩))
     go_ret
     exact ⟨Or.inr ⟨F,k,8,⟨hlt,HB.out,hno.out,rfl⟩,rfl,hF,by have:=G1.size;omega⟩,grown_trans G1 hg3⟩
    ·have HN:Hid (∀ j,j<k+1→¬ bad q j):=fun j hj=>by
      by_cases e:j=k
      ·subst e;exact hb
      ·exact hno.out j (by omega)
     obtain ⟨v',HL,hc⟩:∃ v',Hid (Left q k v')∧((∃ K T u:Nat,K<16∧Hid (T=2 ^ K)∧q (4*k+3)=(K:Int)∧(((kd (q (4*k))).cls:Int) == 3)=true∧bits .and .u16 (v:Int) (T:Int)=(u:Int)∧((u:Int) == 0)=false∧v'=v) ∨
       (∃ K T:Nat,K<16∧Hid (T=2 ^ K)∧q (4*k+3)=(K:Int)∧(((kd (q (4*k))).cls:Int) == 3)=false∧(((kd (q (4*k))).cls:Int) == 4)=true∧bits .or .u16 (v:Int) (T:Int)=(v':Int)) ∨
       ((((kd (q (4*k))).cls:Int) == 3)=false∧(((kd (q (4*k))).cls:Int) == 4)=false∧v'=v)):=by
      by_cases k3:(kd (q (4*k))).kind=3
      ·obtain ⟨K,k1,k2⟩:=cell_small hq hokk (Or.inl k3)
       have hT16:2 ^ K<65536:=two_lt k1
       refine ⟨v,left_same hW hcov.out (by omega),Or.inl ⟨K,2 ^ K,v &&& 2 ^ K,k1,rfl,k2,by simp;have:=a4.2 k3;omega,u16_and_nat v (2 ^ K) hv hT16,?_,rfl⟩⟩
       have:=fun e=>hb ((cov_read hW hcov.out k3 k1 k2).1 e)
       rw [beq_eq_false_iff_ne]
       exact fun e=>this (Int.ofNat.inj e)
      by_cases k6:(kd (q (4*k))).kind=6
      ·obtain ⟨K,k1,k2⟩:=cell_small hq hokk (Or.inr k6)
       have hT16:2 ^ K<65536:=two_lt k1
       exact ⟨v ||| 2 ^ K,left_or hW hcov.out k6 k1 k2,Or.inr (Or.inl ⟨K,2 ^ K,k1,rfl,k2,by simp;have:=a5.2 k6;omega,by simp;have:=a5.2 k6;omega,u16_or_nat v (2 ^ K) hv hT16⟩)⟩
      ·exact ⟨v,left_same hW hcov.out k6,Or.inr (Or.inr ⟨by simp;intro e;exact k3 (a4.1 (by omega)),by simp;intro e;exact k6 (a5.1 (by omega)),rfl⟩)⟩
     have HL2:=nx_len q k
     have hv':v'<65536:=HL.out.1
     clear hb a4 a5 hno
     rcases hc with ⟨K,T,u,k1,HT,k2,t4,hand,hu,rfl⟩ | ⟨K,T,k1,HT,k2,t4,t5,hor⟩ | ⟨t4,t5,rfl⟩
     all_goals (try rw [k2] at c3)
     all_goals
      obtain ⟨wo,hwo⟩:∃ x,x=wr:=⟨_,rfl⟩
      subst hwo
      go_wp2_with (first | (go_at_call 163;refine (pkind_any R B n cap MB k _ q _ hlt hn (hrow.keep (grown_alloc (grown_refl _ none) _))).mono ?_;rintro e w1 ⟨rfl,hg1⟩;obtain ⟨x0,x1,x2,x3⟩:=box_four hg1 (by simp);have hz1:=alloc_lt hg1;have G1:=grown_trans (grown_alloc hgr _) hg1;have hm1:=hm.keep (grown_trans (grown_alloc (grown_refl _ none) _) hg1) (by simp)) | (go_at_call 165;refine (cell_at K T _ k1 HT.out).mono ?_;rintro e w2 ⟨rfl,rfl⟩) | (go_at_call 166;refine (pnext_any R B n cap MB k _ q _ hlt hn hq (h.keep G1)).mono ?_;rintro e w2 ⟨ao,cc,rfl,hs,hg2⟩;have hm2:=hm1.keep hg2 (by simp);have G2:=grown_trans G1 hg2))
      go_loopw [55] (fun i wr=>∃ (t:Nat) (Wt:Int→Option Nat),t≤(nx q k).length∧i=.int .i64 t∧w2.grownBy wr (some w.heap.size)∧w.grownBy wr none∧IMap wr w.heap.size (wm Wt)∧Hid (CovT q k v' t Wt)) (fun i _=>(nx q k).length-(intOf i).toNat)
      case atStart=>exact ⟨0,W,Nat.zero_le _,rfl,grown_refl _ _,G2,hm2,covT_zero hcov.out⟩
      case round =>
       obtain ⟨t,Wt,htl,rfl,hgq,hgw,hmt,hct⟩:=hrel
       by_cases hlt2:t<(nx q k).length
       ·obtain ⟨Y,yoff,rfl,hRR⟩:=hs (by omega)
        obtain ⟨p,hp⟩:∃ p,p=(nx q k).getD t 0:=⟨_,rfl⟩
        have hYne:Y≠w.heap.size:=fun e=>by
         subst e
         exact hm2.no_cell (hRR t hlt2)
        have cy:wr.cell? ⟨Y,yoff+t,none⟩=some (.int .i64 p):=by rw [hp];exact hgq.cell (hRR t hlt2) (by simpa using hYne)
        have HC:Hid (CovT q k v' (t+1) (joined Wt p v')):=by rw [hp];exact covT_succ hv' hct.out
        clear hRR hs hp c0 c1 c2 c3 x0 x1 x2 x3
        go_wp2_with (first | (go_at_call 167;refine (join_any w.heap.size p v' Wt _ hv' hct.out.1 hmt).mono ?_;rintro e w3 ⟨rfl,hm3,hg3⟩))
        go_roundw
        case rel=>exact ⟨t+1,joined Wt p v',by omega,by go_num,grown_trans hgq hg3,grown_new none hgw hg3 (Nat.le_refl _),hm3,HC⟩
        case measure=>simp [intOf];omega
       ·have hte:t=(nx q k).length:=by omega
        subst hte
        clear c0 c1 c2 c3 x0 x1 x2 x3
        go_wp2
        go_roundw
        case rel=>exact ⟨k+1,Wt,by omega,by go_num,hgw,hmt,covT_all HL.out hct.out,HN⟩
        case measure=>simp [intOf];omega
  ·have hke:k=n:=by omega
   subst hke
   go_wp2
   go_ret
   exact ⟨Or.inl ⟨hno.out,rfl⟩,hgr⟩
end Go.Proofs.YthbcfepbkkbjiaaGreatDoor
namespace Go.Proofs.YthbcfepbkkbjiaaGreatDoor
open Go.RowKit
set_option maxHeartbeats 1000000 in
theorem pfilter_bad (ao:Option Addr) (n c:Nat) (tb:TypeId) (pb:Value) (w:World) (hm:n≤maxLen) (hn:badSize n) (ht:Tab w) :
  Calls Tryz.prog 104 #[.slice ao n c,.iface tb pb] w fun e w'=>(∃ F,e=.returned (.iface 114 (.pointer (some ⟨F,0,none⟩)))∧FaultS w' F 0 1 (.iface tb pb)∧w.heap.size≤F)∧w.grownBy w' none:=by
 go_enter Tryz.func104,Tryz.ntmps104
 go_wp2_with (first | (go_at_call 63;refine (decode_bad _ _ _ _ hm hn).mono ?_;rintro e w1 ⟨rfl,rfl⟩) | (go_at_call 136;refine (newFault_any 1 0 tb pb _ (by omega) ht).mono ?_;rintro e w1 ⟨F,rfl,hF,hlt,hg⟩))
 go_ret
 exact ⟨⟨F,rfl,hF,hlt⟩,hg⟩
theorem ErrS.nil {w w':World} {e:Ending} {N:Prop} {P:Nat→Int→Prop} {bad:Value} (h:ErrS w w' e N P bad) (hno:∀ k c,¬ P k c):N∧e=.returned .nilIface:=by
 rcases h with h | ⟨F,k,c,hP,_⟩
 ·exact h
 ·exact absurd hP (hno k c)
theorem ErrS.err {w w':World} {e:Ending} {N:Prop} {P:Nat→Int→Prop} {bad:Value} (h:ErrS w w' e N P bad) (hno:¬ N):∃ F k c,P k c∧e=.returned (.iface 114 (.pointer (some ⟨F,0,none⟩)))∧FaultS w' F k c bad∧w.heap.size≤F:=by
 rcases h with h | h
 ·exact absurd h.1 hno
 ·exact h
theorem ErrS.ret {w w':World} {e:Ending} {N:Prop} {P:Nat→Int→Prop} {bad:Value} (h:ErrS w w' e N P bad):∃ v,e=.returned v:=by
 rcases h with h | ⟨F,k,c,_,h,_⟩
 ·exact ⟨_,h.2⟩
 ·exact ⟨_,h⟩
theorem rowS_new {w1 w2:World} {B n MB:Nat} {bad:Value} {q:Nat→Int} {N:Nat} {e:TypeId} (hb:Blk w1 B e N (4*n) (ints .i64 q)) (hg:w1.grownBy w2 none) (hK:IMap w2 MB kmap) :
  RowS (w2.alloc (.cells #[.slice (some ⟨B,0,none⟩) n n,.map (some MB),bad] 228)) w2.heap.size B n n MB bad q :=
 ⟨heap_top _ _ _ rfl,fun j hj=>by rw [Nat.zero_add];exact ((hb.keep hg (by simp)).alloc _).cell hj,hK.keep (World.grownBy_alloc w2 _ none) (by simp)⟩
set_option maxHeartbeats 1000000 in
theorem pfilter_wrong (b off n c:Nat) (g:Nat→Int) (tb:TypeId) (pb:Value) (w:World) (hn:1≤n) (hn2:n≤256) (hc:8*n≤c) (hg:Oct g) (h:Row w .u8 b off (8*n) g) (ht:Tab w)
  (hno:¬ ∀ j,j<n→wrong (decs g) n j=0) :
  Calls Tryz.prog 104 #[.slice (some ⟨b,off,none⟩) (8*n) c,.iface tb pb] w fun e w'=>ErrS w w' e (Spec (decs g) n 0 0) (fun k E=>Spec (decs g) n E k∧E≠0) (.iface tb pb)∧w.grownBy w' none:=by
 have hq:=decs_num hg
 go_enter Tryz.func104,Tryz.ntmps104
 go_wp2_with (first | (go_at_call 63;refine (decode_good _ _ n _ g _ hn hn2 hc hg h).mono ?_;rintro e w1 ⟨B,rfl,hB,hg1,hb1⟩) | (go_at_call 70;refine (kinds_any _).mono ?_;rintro e w2 ⟨rfl,hK,hg2⟩;have G2:=grown_alloc (grown_trans hg1 hg2) (.cells #[.slice (some ⟨B,0,none⟩) n n,.map (some w1.heap.size),.iface tb pb] 228)) | (go_at_call 137;refine (checkEach_any _ B n n w1.heap.size tb pb (decs g) _ (by omega) hq (rowS_new hb1 hg2 hK) (ht.keep G2)).mono ?_;rintro e w3 ⟨hE,hg3⟩;obtain ⟨F,k,E,hP,rfl,hF,hlt⟩:=hE.err hno))
 go_ret
 exact ⟨Or.inr ⟨F,k,E,⟨Or.inl hP,by rw [hP.2.2.2];exact hP.2.1⟩,rfl,hF,Nat.le_trans G2.size hlt⟩,grown_trans G2 hg3⟩
set_option maxHeartbeats 1000000 in
theorem pfilter_end (b off n c:Nat) (g:Nat→Int) (tb:TypeId) (pb:Value) (w:World) (hn:1≤n) (hn2:n≤256) (hc:8*n≤c) (hg:Oct g) (h:Row w .u8 b off (8*n) g) (ht:Tab w)
  (hok:∀ j,j<n→wrong (decs g) n j=0) (hno:¬ (kd (decs g (4*(n-1)))).kind=12) :
  Calls Tryz.prog 104 #[.slice (some ⟨b,off,none⟩) (8*n) c,.iface tb pb] w fun e w'=>ErrS w w' e (Spec (decs g) n 0 0) (fun k E=>Spec (decs g) n E k∧E≠0) (.iface tb pb)∧w.grownBy w' none:=by
 have hq:=decs_num hg
 go_enter Tryz.func104,Tryz.ntmps104
 go_wp2_with (first | (go_at_call 63;refine (decode_good _ _ n _ g _ hn hn2 hc hg h).mono ?_;rintro e w1 ⟨B,rfl,hB,hg1,hb1⟩) | (go_at_call 70;refine (kinds_any _).mono ?_;rintro e w2 ⟨rfl,hK,hg2⟩;have hr:=rowS_new (bad:=.iface tb pb) hb1 hg2 hK;have G2:=grown_alloc (grown_trans hg1 hg2) (.cells #[.slice (some ⟨B,0,none⟩) n n,.map (some w1.heap.size),.iface tb pb] 228)) | (go_at_call 137;refine (checkEach_any _ B n n w1.heap.size tb pb (decs g) _ (by omega) hq hr (ht.keep G2)).mono ?_;rintro e w3 ⟨hE,hg3⟩;obtain ⟨_,rfl⟩:=hE.nil (fun k c hP=>hP.2.1 (hok k hP.1));have G3:=grown_trans G2 hg3) | (go_at_call 138;refine (checkEnd_any _ B n n w1.heap.size tb pb (decs g) _ hn (by omega) (hr.keep hg3) (ht.keep G3)).mono ?_;rintro e w4 ⟨hE4,hg4⟩;obtain ⟨F,k,E,hP,rfl,hF,hlt⟩:=hE4.err hno))
 go_ret
 exact ⟨Or.inr ⟨F,k,E,⟨Or.inr ⟨hok,Or.inl ⟨hP.1,hP.2.2,hP.2.1⟩⟩,by rw [hP.2.2];omega⟩,rfl,hF,Nat.le_trans G3.size hlt⟩,grown_trans G3 hg4⟩
set_option maxHeartbeats 1000000 in
theorem pfilter_last (b off n c:Nat) (g:Nat→Int) (tb:TypeId) (pb:Value) (w:World) (hn:1≤n) (hn2:n≤256) (hc:8*n≤c) (hg:Oct g) (h:Row w .u8 b off (8*n) g) (ht:Tab w)
  (hok:∀ j,j<n→wrong (decs g) n j=0) (hk12:(kd (decs g (4*(n-1)))).kind=12) :
  Calls Tryz.prog 104 #[.slice (some ⟨b,off,none⟩) (8*n) c,.iface tb pb] w fun e w'=>ErrS w w' e (Spec (decs g) n 0 0) (fun k E=>Spec (decs g) n E k∧E≠0) (.iface tb pb)∧w.grownBy w' none:=by
 have hq:=decs_num hg
 go_enter Tryz.func104,Tryz.ntmps104
 go_wp2_with (first | (go_at_call 63;refine (decode_good _ _ n _ g _ hn hn2 hc hg h).mono ?_;rintro e w1 ⟨B,rfl,hB,hg1,hb1⟩) | (go_at_call 70;refine (kinds_any _).mono ?_;rintro e w2 ⟨rfl,hK,hg2⟩;have hr:=rowS_new (bad:=.iface tb pb) hb1 hg2 hK;have G2:=grown_alloc (grown_trans hg1 hg2) (.cells #[.slice (some ⟨B,0,none⟩) n n,.map (some w1.heap.size),.iface tb pb] 228)) | (go_at_call 137;refine (checkEach_any _ B n n w1.heap.size tb pb (decs g) _ (by omega) hq hr (ht.keep G2)).mono ?_;rintro e w3 ⟨hE,hg3⟩;obtain ⟨_,rfl⟩:=hE.nil (fun k c hP=>hP.2.1 (hok k hP.1));have G3:=grown_trans G2 hg3) | (go_at_call 138;refine (checkEnd_any _ B n n w1.heap.size tb pb (decs g) _ hn (by omega) (hr.keep hg3) (ht.keep G3)).mono ?_;rintro e w4 ⟨hE4,hg4⟩;obtain ⟨_,rfl⟩:=hE4.nil (fun k c hP=>hP.1 hk12);have G4:=grown_trans G3 hg4) | (go_at_call 139;refine (checkCells_any _ B n n w1.heap.size tb pb (decs g) _ (by omega) hq hok (hr.keep (grown_trans hg3 hg4)) (ht.keep G4)).mono ?_;rintro e w5 ⟨hE5,hg5⟩;obtain ⟨v,hv⟩:∃ v,e=.returned v:=hE5.ret;subst hv))
 go_ret
 refine ⟨?_,grown_trans G4 hg5⟩
 rcases hE5 with ⟨h1,h2⟩ | ⟨F,k,E,hP,h2,hF,hlt⟩
 ·exact Or.inl ⟨Or.inr ⟨hok,Or.inr ⟨hk12,Or.inr ⟨h1,rfl,rfl⟩⟩⟩,h2⟩
 ·exact Or.inr ⟨F,k,E,⟨Or.inr ⟨hok,Or.inr ⟨hk12,Or.inl hP⟩⟩,by rw [hP.2.2.2];omega⟩,h2,hF,Nat.le_trans G4.size hlt⟩
theorem ErrS.imp {w w':World} {e:Ending} {N N':Prop} {P P':Nat→Int→Prop} {bad:Value} (h:ErrS w w' e N P bad) (h1:N→N') (h2:∀ k c,P k c→P' k c):ErrS w w' e N' P' bad:=by
 rcases h with h | ⟨F,k,c,hP,r⟩
 ·exact Or.inl ⟨h1 h.1,h.2⟩
 ·exact Or.inr ⟨F,k,c,h2 k c hP,r⟩
theorem pfilter_any (ao:Option Addr) (n c:Nat) (g:Nat→Int) (tb:TypeId) (pb:Value) (w:World) (hm:n≤maxLen) (hc:n≤c) (hg:Oct g) (h:Src w .u8 ao n g) (ht:Tab w) :
  Calls Tryz.prog 104 #[.slice ao n c,.iface tb pb] w fun e w'=>ErrS w w' e (Chk g n 0 0) (fun k E=>Chk g n E k∧E≠0) (.iface tb pb)∧w.grownBy w' none:=by
 by_cases hbad:badSize n
 ·refine (pfilter_bad ao n c tb pb w hm hbad ht).mono ?_
  rintro e w' ⟨⟨F,rfl,hF,hlt⟩,hg'⟩
  exact ⟨Or.inr ⟨F,0,1,⟨Or.inl ⟨hbad,rfl,rfl⟩,by omega⟩,rfl,hF,hlt⟩,hg'⟩
 ·have hb:=hbad
  unfold badSize at hbad
  obtain ⟨b,off,rfl,hr⟩:=h (by omega)
  obtain ⟨k,rfl⟩:∃ k,n=8*k:=⟨n/8,by omega⟩
  have hk:8*k/8=k:=by omega
  have key:Calls Tryz.prog 104 #[.slice (some ⟨b,off,none⟩) (8*k) c,.iface tb pb] w fun e w'=>ErrS w w' e (Spec (decs g) k 0 0) (fun p E=>Spec (decs g) k E p∧E≠0) (.iface tb pb)∧w.grownBy w' none:=by
   by_cases h1:∀ j,j<k→wrong (decs g) k j=0
   ·by_cases h2:(kd (decs g (4*(k-1)))).kind=12
    ·exact pfilter_last b off k c g tb pb w (by omega) (by omega) hc hg hr ht h1 h2
    ·exact pfilter_end b off k c g tb pb w (by omega) (by omega) hc hg hr ht h1 h2
   ·exact pfilter_wrong b off k c g tb pb w (by omega) (by omega) hc hg hr ht h1
  refine key.mono ?_
  rintro e w' ⟨hE,hg'⟩
  exact ⟨hE.imp (fun x=>Or.inr ⟨hb,by rw [hk];exact x⟩) (fun p E x=>⟨Or.inr ⟨hb,by rw [hk];exact x.1⟩,x.2⟩),hg'⟩
end Go.Proofs.YthbcfepbkkbjiaaGreatDoor
