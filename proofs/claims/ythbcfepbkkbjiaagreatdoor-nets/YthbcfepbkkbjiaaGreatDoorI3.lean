import Derived.BigQuiet
import Derived.Deep.QuietTactic
import Derived.Test.YthbcfepbkkbjiaaGreatDoorI2
import Derived.Test.YthbcfepbkkbjiaaGreatDoorI1
set_option linter.unusedVariables false
set_option maxRecDepth 100000
namespace Go.Proofs.YthbcfepbkkbjiaaGreatDoor
open Go.RowKit
theorem kind_32 (w:World):Calls Tryz.prog 48 #[.int .i64 32] w fun e w'=>e=.returned (.tuple #[kv (kd 32),.bool true])∧w.grownBy w' none:=by
 go_enter Tryz.func48,Tryz.ntmps48
 go_wp2
 exact bodyPost_ret (v:=.tuple #[kv (kd 32),.bool true]) (by rw [show kd 32=⟨32,1,4,false,0,1⟩ by rfl];simp [results,Tryz.results48,go_sem,kv]) rfl ⟨rfl,grown_alloc (grown_alloc (grown_refl _ _) _) _⟩
theorem kind_40 (w:World):Calls Tryz.prog 48 #[.int .i64 40] w fun e w'=>e=.returned (.tuple #[kv (kd 40),.bool true])∧w.grownBy w' none:=by
 go_enter Tryz.func48,Tryz.ntmps48
 go_wp2
 exact bodyPost_ret (v:=.tuple #[kv (kd 40),.bool true]) (by rw [show kd 40=⟨40,1,2,false,0,1⟩ by rfl];simp [results,Tryz.results48,go_sem,kv]) rfl ⟨rfl,grown_alloc (grown_alloc (grown_refl _ _) _) _⟩
theorem kind_48 (w:World):Calls Tryz.prog 48 #[.int .i64 48] w fun e w'=>e=.returned (.tuple #[kv (kd 48),.bool true])∧w.grownBy w' none:=by
 go_enter Tryz.func48,Tryz.ntmps48
 go_wp2
 exact bodyPost_ret (v:=.tuple #[kv (kd 48),.bool true]) (by rw [show kd 48=⟨48,1,1,false,0,1⟩ by rfl];simp [results,Tryz.results48,go_sem,kv]) rfl ⟨rfl,grown_alloc (grown_alloc (grown_refl _ _) _) _⟩
theorem kind_64 (w:World):Calls Tryz.prog 48 #[.int .i64 64] w fun e w'=>e=.returned (.tuple #[kv (kd 64),.bool true])∧w.grownBy w' none:=by
 go_enter Tryz.func48,Tryz.ntmps48
 go_wp2
 exact bodyPost_ret (v:=.tuple #[kv (kd 64),.bool true]) (by rw [show kd 64=⟨64,1,4,true,0,1⟩ by rfl];simp [results,Tryz.results48,go_sem,kv]) rfl ⟨rfl,grown_alloc (grown_alloc (grown_refl _ _) _) _⟩
theorem kind_72 (w:World):Calls Tryz.prog 48 #[.int .i64 72] w fun e w'=>e=.returned (.tuple #[kv (kd 72),.bool true])∧w.grownBy w' none:=by
 go_enter Tryz.func48,Tryz.ntmps48
 go_wp2
 exact bodyPost_ret (v:=.tuple #[kv (kd 72),.bool true]) (by rw [show kd 72=⟨72,1,2,true,0,1⟩ by rfl];simp [results,Tryz.results48,go_sem,kv]) rfl ⟨rfl,grown_alloc (grown_alloc (grown_refl _ _) _) _⟩
theorem kind_80 (w:World):Calls Tryz.prog 48 #[.int .i64 80] w fun e w'=>e=.returned (.tuple #[kv (kd 80),.bool true])∧w.grownBy w' none:=by
 go_enter Tryz.func48,Tryz.ntmps48
 go_wp2
 exact bodyPost_ret (v:=.tuple #[kv (kd 80),.bool true]) (by rw [show kd 80=⟨80,1,1,true,0,1⟩ by rfl];simp [results,Tryz.results48,go_sem,kv]) rfl ⟨rfl,grown_alloc (grown_alloc (grown_refl _ _) _) _⟩
theorem kind_0 (w:World):Calls Tryz.prog 48 #[.int .i64 0] w fun e w'=>e=.returned (.tuple #[kv (kd 0),.bool true])∧w.grownBy w' none:=by
 go_enter Tryz.func48,Tryz.ntmps48
 go_wp2
 exact bodyPost_ret (v:=.tuple #[kv (kd 0),.bool true]) (by rw [show kd 0=⟨0,2,0,false,0,2⟩ by rfl];simp [results,Tryz.results48,go_sem,kv]) rfl ⟨rfl,grown_alloc (grown_alloc (grown_refl _ _) _) _⟩
theorem kind_1 (w:World):Calls Tryz.prog 48 #[.int .i64 1] w fun e w'=>e=.returned (.tuple #[kv (kd 1),.bool true])∧w.grownBy w' none:=by
 go_enter Tryz.func48,Tryz.ntmps48
 go_wp2
 exact bodyPost_ret (v:=.tuple #[kv (kd 1),.bool true]) (by rw [show kd 1=⟨1,2,0,true,0,2⟩ by rfl];simp [results,Tryz.results48,go_sem,kv]) rfl ⟨rfl,grown_alloc (grown_alloc (grown_refl _ _) _) _⟩
theorem kind_96 (w:World):Calls Tryz.prog 48 #[.int .i64 96] w fun e w'=>e=.returned (.tuple #[kv (kd 96),.bool true])∧w.grownBy w' none:=by
 go_enter Tryz.func48,Tryz.ntmps48
 go_wp2
 exact bodyPost_ret (v:=.tuple #[kv (kd 96),.bool true]) (by rw [show kd 96=⟨96,3,0,false,0,3⟩ by rfl];simp [results,Tryz.results48,go_sem,kv]) rfl ⟨rfl,grown_alloc (grown_alloc (grown_refl _ _) _) _⟩
theorem kind_97 (w:World):Calls Tryz.prog 48 #[.int .i64 97] w fun e w'=>e=.returned (.tuple #[kv (kd 97),.bool true])∧w.grownBy w' none:=by
 go_enter Tryz.func48,Tryz.ntmps48
 go_wp2
 exact bodyPost_ret (v:=.tuple #[kv (kd 97),.bool true]) (by rw [show kd 97=⟨97,3,0,true,0,3⟩ by rfl];simp [results,Tryz.results48,go_sem,kv]) rfl ⟨rfl,grown_alloc (grown_alloc (grown_refl _ _) _) _⟩
theorem kind_128 (w:World):Calls Tryz.prog 48 #[.int .i64 128] w fun e w'=>e=.returned (.tuple #[kv (kd 128),.bool true])∧w.grownBy w' none:=by
 go_enter Tryz.func48,Tryz.ntmps48
 go_wp2
 exact bodyPost_ret (v:=.tuple #[kv (kd 128),.bool true]) (by rw [show kd 128=⟨128,4,0,false,0,2⟩ by rfl];simp [results,Tryz.results48,go_sem,kv]) rfl ⟨rfl,grown_alloc (grown_alloc (grown_refl _ _) _) _⟩
theorem kind_129 (w:World):Calls Tryz.prog 48 #[.int .i64 129] w fun e w'=>e=.returned (.tuple #[kv (kd 129),.bool true])∧w.grownBy w' none:=by
 go_enter Tryz.func48,Tryz.ntmps48
 go_wp2
 exact bodyPost_ret (v:=.tuple #[kv (kd 129),.bool true]) (by rw [show kd 129=⟨129,4,0,true,0,2⟩ by rfl];simp [results,Tryz.results48,go_sem,kv]) rfl ⟨rfl,grown_alloc (grown_alloc (grown_refl _ _) _) _⟩
theorem kind_177 (w:World):Calls Tryz.prog 48 #[.int .i64 177] w fun e w'=>e=.returned (.tuple #[kv (kd 177),.bool true])∧w.grownBy w' none:=by
 go_enter Tryz.func48,Tryz.ntmps48
 go_wp2
 exact bodyPost_ret (v:=.tuple #[kv (kd 177),.bool true]) (by rw [show kd 177=⟨177,5,0,false,0,1⟩ by rfl];simp [results,Tryz.results48,go_sem,kv]) rfl ⟨rfl,grown_alloc (grown_alloc (grown_refl _ _) _) _⟩
theorem kind_2 (w:World):Calls Tryz.prog 48 #[.int .i64 2] w fun e w'=>e=.returned (.tuple #[kv (kd 2),.bool true])∧w.grownBy w' none:=by
 go_enter Tryz.func48,Tryz.ntmps48
 go_wp2
 exact bodyPost_ret (v:=.tuple #[kv (kd 2),.bool true]) (by rw [show kd 2=⟨2,6,0,false,0,4⟩ by rfl];simp [results,Tryz.results48,go_sem,kv]) rfl ⟨rfl,grown_alloc (grown_alloc (grown_refl _ _) _) _⟩
theorem kind_3 (w:World):Calls Tryz.prog 48 #[.int .i64 3] w fun e w'=>e=.returned (.tuple #[kv (kd 3),.bool true])∧w.grownBy w' none:=by
 go_enter Tryz.func48,Tryz.ntmps48
 go_wp2
 exact bodyPost_ret (v:=.tuple #[kv (kd 3),.bool true]) (by rw [show kd 3=⟨3,6,0,true,0,4⟩ by rfl];simp [results,Tryz.results48,go_sem,kv]) rfl ⟨rfl,grown_alloc (grown_alloc (grown_refl _ _) _) _⟩
theorem kind_7 (w:World):Calls Tryz.prog 48 #[.int .i64 7] w fun e w'=>e=.returned (.tuple #[kv (kd 7),.bool true])∧w.grownBy w' none:=by
 go_enter Tryz.func48,Tryz.ntmps48
 go_wp2
 exact bodyPost_ret (v:=.tuple #[kv (kd 7),.bool true]) (by rw [show kd 7=⟨7,7,0,true,0,5⟩ by rfl];simp [results,Tryz.results48,go_sem,kv]) rfl ⟨rfl,grown_alloc (grown_alloc (grown_refl _ _) _) _⟩
theorem kind_135 (w:World):Calls Tryz.prog 48 #[.int .i64 135] w fun e w'=>e=.returned (.tuple #[kv (kd 135),.bool true])∧w.grownBy w' none:=by
 go_enter Tryz.func48,Tryz.ntmps48
 go_wp2
 exact bodyPost_ret (v:=.tuple #[kv (kd 135),.bool true]) (by rw [show kd 135=⟨135,7,0,false,0,5⟩ by rfl];simp [results,Tryz.results48,go_sem,kv]) rfl ⟨rfl,grown_alloc (grown_alloc (grown_refl _ _) _) _⟩
theorem kind_132 (w:World):Calls Tryz.prog 48 #[.int .i64 132] w fun e w'=>e=.returned (.tuple #[kv (kd 132),.bool true])∧w.grownBy w' none:=by
 go_enter Tryz.func48,Tryz.ntmps48
 go_wp2
 exact bodyPost_ret (v:=.tuple #[kv (kd 132),.bool true]) (by rw [show kd 132=⟨132,9,0,false,0,6⟩ by rfl];simp [results,Tryz.results48,go_sem,kv]) rfl ⟨rfl,grown_alloc (grown_alloc (grown_refl _ _) _) _⟩
theorem kind_5 (w:World):Calls Tryz.prog 48 #[.int .i64 5] w fun e w'=>e=.returned (.tuple #[kv (kd 5),.bool true])∧w.grownBy w' none:=by
 go_enter Tryz.func48,Tryz.ntmps48
 go_wp2
 exact bodyPost_ret (v:=.tuple #[kv (kd 5),.bool true]) (by rw [show kd 5=⟨5,10,0,false,0,9⟩ by rfl];simp [results,Tryz.results48,go_sem,kv]) rfl ⟨rfl,grown_alloc (grown_alloc (grown_refl _ _) _) _⟩
theorem kind_6 (w:World):Calls Tryz.prog 48 #[.int .i64 6] w fun e w'=>e=.returned (.tuple #[kv (kd 6),.bool true])∧w.grownBy w' none:=by
 go_enter Tryz.func48,Tryz.ntmps48
 go_wp2
 exact bodyPost_ret (v:=.tuple #[kv (kd 6),.bool true]) (by rw [show kd 6=⟨6,12,0,false,0,11⟩ by rfl];simp [results,Tryz.results48,go_sem,kv]) rfl ⟨rfl,grown_alloc (grown_alloc (grown_refl _ _) _) _⟩
theorem kind_22 (w:World):Calls Tryz.prog 48 #[.int .i64 22] w fun e w'=>e=.returned (.tuple #[kv (kd 22),.bool true])∧w.grownBy w' none:=by
 go_enter Tryz.func48,Tryz.ntmps48
 go_wp2
 exact bodyPost_ret (v:=.tuple #[kv (kd 22),.bool true]) (by rw [show kd 22=⟨22,12,0,true,0,11⟩ by rfl];simp [results,Tryz.results48,go_sem,kv]) rfl ⟨rfl,grown_alloc (grown_alloc (grown_refl _ _) _) _⟩
end Go.Proofs.YthbcfepbkkbjiaaGreatDoor
namespace Go.Proofs.YthbcfepbkkbjiaaGreatDoor
open Go.RowKit
theorem sums_cell {w:World} {B:Nat} {e:TypeId} (h:w.heap[B]?=some (.cells #[.int .i64 4,.int .i64 20,.int .i64 36,.int .i64 52,.int .i64 148,.int .i64 68,.int .i64 84,.int .i64 164,.int .i64 100,.int .i64 116] e (0,0))) (k:Nat) (hk:k<10):w.cell? ⟨B,k,none⟩=some (.int .i64 (sums k)):=by
 rw [cell_of_row w B k _ e (0,0) h]
 match k,hk with
 | 0,_=>rfl
 | 1,_=>rfl
 | 2,_=>rfl
 | 3,_=>rfl
 | 4,_=>rfl
 | 5,_=>rfl
 | 6,_=>rfl
 | 7,_=>rfl
 | 8,_=>rfl
 | 9,_=>rfl
def Fam (w wr:World) (C:Int) (e:TypeId):Prop :=
 wr.heap[w.heap.size]?=some (.cells #[.int .i64 C,.int .i64 0,.int .i64 0,.bool false,.int .i64 0] e (0,0)) ∧
 wr.heap[w.heap.size+1]?=some (.cells #[.int .i64 0,.int .i64 0,.int .i64 0,.bool false,.int .i64 0] e (0,0)) ∧
 wr.heap[w.heap.size+1+1]?=some (.cells #[.int .i64 4,.int .i64 20,.int .i64 36,.int .i64 52,.int .i64 148,.int .i64 68,.int .i64 84,.int .i64 164,.int .i64 100,.int .i64 116] 3 (0,0))∧w.grownBy wr none
theorem Fam.drewN {w wr:World} {C:Int} {e:TypeId} (h:Fam w wr C e) (n:Nat):Fam w (wr.drewN n) C e:=⟨h.1,h.2.1,h.2.2.1,grown_none h.2.2.2 (grown_drewN _ _ _)⟩
theorem five {wr:World} {B:Nat} {a b c d f:Value} {e:TypeId} (h:wr.heap[B]?=some (.cells #[a,b,c,d,f] e (0,0))) :
  (wr.cell? ⟨B,0,none⟩=some a∧wr.cell? ⟨B,1,none⟩=some b∧wr.cell? ⟨B,2,none⟩=some c∧wr.cell? ⟨B,3,none⟩=some d∧wr.cell? ⟨B,4,none⟩=some f)∧∀ j,wr.frozen? ⟨B,j,none⟩=false :=
 ⟨⟨cell_of_row wr B 0 _ e (0,0) h,cell_of_row wr B 1 _ e (0,0) h,cell_of_row wr B 2 _ e (0,0) h,cell_of_row wr B 3 _ e (0,0) h,cell_of_row wr B 4 _ e (0,0) h⟩,fun j=>by simp [World.frozen?,h]⟩
theorem fam_new (w:World) (C:Int):Fam w (((w.alloc (.cells #[.int .i64 C,.int .i64 0,.int .i64 0,.bool false,.int .i64 0] 84)).alloc (.cells #[.int .i64 0,.int .i64 0,.int .i64 0,.bool false,.int .i64 0] 84)).alloc (.cells #[.int .i64 4,.int .i64 20,.int .i64 36,.int .i64 52,.int .i64 148,.int .i64 68,.int .i64 84,.int .i64 164,.int .i64 100,.int .i64 116] 3)) C 84:=by
 refine ⟨?_,?_,heap_top _ _ _ (by simp),grown_alloc (grown_alloc (grown_alloc (grown_refl _ _) _) _) _⟩
 ·rw [Below.heap_alloc _ _ _ (by simp;omega),Below.heap_alloc _ _ _ (by simp)];exact heap_top _ _ _ rfl
 ·rw [Below.heap_alloc _ _ _ (by simp)];exact heap_top _ _ _ (by simp)
theorem sums_bd (k:Nat):0≤sums k∧sums k≤1000:=by
 unfold sums
 match k with
 | 0=>decide
 | 1=>decide
 | 2=>decide
 | 3=>decide
 | 4=>decide
 | 5=>decide
 | 6=>decide
 | 7=>decide
 | 8=>decide
 | 9=>decide
 | n+10=>simp
theorem fam_grown {w wr:World} (h:w.grownBy wr none) (n:Nat) (v1 v2 v3 v4 v5 v6 v7 v8:Value) :
  w.grownBy (((((((((wr.drewN n).setCell ⟨w.heap.size,1,none⟩ v1).setCell ⟨w.heap.size,4,none⟩ v2).setCell ⟨w.heap.size,3,none⟩ v3).setCell ⟨w.heap.size+1,0,none⟩ v4).setCell ⟨w.heap.size+1,1,none⟩ v5).setCell ⟨w.heap.size+1,2,none⟩ v6).setCell ⟨w.heap.size+1,3,none⟩ v7).setCell ⟨w.heap.size+1,4,none⟩ v8).drew none :=
 grown_drew (grown_set (grown_set (grown_set (grown_set (grown_set (grown_set (grown_set (grown_set (grown_none h (grown_drewN _ n _)) (Nat.le_refl _) _) (Nat.le_refl _) _) (Nat.le_refl _) _) (Nat.le_succ _) _) (Nat.le_succ _) _) (Nat.le_succ _) _) (Nat.le_succ _) _) (Nat.le_succ _) _)
theorem fam_grown' {w wr:World} (h:w.grownBy wr none) (v1 v2 v3 v4 v5 v6 v7 v8:Value) :
  w.grownBy ((((((((wr.setCell ⟨w.heap.size,1,none⟩ v1).setCell ⟨w.heap.size,4,none⟩ v2).setCell ⟨w.heap.size,3,none⟩ v3).setCell ⟨w.heap.size+1,0,none⟩ v4).setCell ⟨w.heap.size+1,1,none⟩ v5).setCell ⟨w.heap.size+1,2,none⟩ v6).setCell ⟨w.heap.size+1,3,none⟩ v7).setCell ⟨w.heap.size+1,4,none⟩ v8) none :=
 grown_set (grown_set (grown_set (grown_set (grown_set (grown_set (grown_set (grown_set h (Nat.le_refl _) _) (Nat.le_refl _) _) (Nat.le_refl _) _) (Nat.le_succ _) _) (Nat.le_succ _) _) (Nat.le_succ _) _) (Nat.le_succ _) _) (Nat.le_succ _) _
theorem fam_grown'' {w wr:World} (h:w.grownBy wr none) (v4 v5 v6 v7 v8:Value) :
  w.grownBy (((((wr.setCell ⟨w.heap.size+1,0,none⟩ v4).setCell ⟨w.heap.size+1,1,none⟩ v5).setCell ⟨w.heap.size+1,2,none⟩ v6).setCell ⟨w.heap.size+1,3,none⟩ v7).setCell ⟨w.heap.size+1,4,none⟩ v8) none :=
 grown_set (grown_set (grown_set (grown_set (grown_set h (Nat.le_succ _) _) (Nat.le_succ _) _) (Nat.le_succ _) _) (Nat.le_succ _) _) (Nat.le_succ _) _
theorem fam_end {C D:Int} {v:Value} (h:C=D) (hv:kv (kd D)=.agg #[.int .i64 D,v.cells.getD 1 .nilFunc,v.cells.getD 2 .nilFunc,v.cells.getD 3 .nilFunc,v.cells.getD 4 .nilFunc]) (ho:okk D=true) (hw:v=.agg #[.int .i64 C,v.cells.getD 1 .nilFunc,v.cells.getD 2 .nilFunc,v.cells.getD 3 .nilFunc,v.cells.getD 4 .nilFunc]) :
  Ending.returned (.tuple #[v,.bool true])=.returned (.tuple #[kv (kd C),.bool (okk C)]):=by
 subst h
 rw [hv,ho,← hw]
set_option maxHeartbeats 2000000 in
theorem family_any (C:Int) (w:World) (hO:Other C) :
  Calls Tryz.prog 80 #[.agg #[.int .i64 C,.int .i64 0,.int .i64 0,.bool false,.int .i64 0]] w fun e w'=>e=.returned (.tuple #[kv (kd C),.bool (okk C)])∧w.grownBy w' none:=by
 go_enter Tryz.func80,Tryz.ntmps80
 go_wp2
 go_loopw [5] (fun i wr=>∃ k:Nat,k≤10∧i=.int .i64 k∧Fam w wr C 84∧∀ j,j<k→C≠sums j∧C≠sums j+8) (fun i _=>10-(intOf i).toNat)
 case atStart=>exact ⟨0,by omega,rfl,fam_new w C,fun j hj=>by omega⟩
 case round =>
  obtain ⟨k,hk,rfl,hF,hno⟩:=hrel
  obtain ⟨⟨a0,a1,a2,a3,a4⟩,fa⟩:=five hF.1
  obtain ⟨⟨b0,b1,b2,b3,b4⟩,fb⟩:=five hF.2.1
  by_cases hlt:k<10
  ·have c0:=sums_cell hF.2.2.1 k hlt
   have hsb:=sums_bd k
   by_cases hC:C=sums k
   ·have t1:(C == sums k)=true:=by simp [hC]
    have t2:decide (sums k<C)=false:=by simp [hC]
    have f1:=fa 1
    have f3:=fa 3
    have f4:=fa 4
    have g0:=fb 0
    have g1:=fb 1
    have g2:=fb 2
    have g3:=fb 3
    have g4:=fb 4
    have HC:Hid (C=sums k):=hC
    have KV:=kv_sum k hlt
    have OK:=okk_sum k hlt
    clear hC fa fb hno hsb
    go_wp2
    go_quiet (fail)
    go_wp2
    go_region
    all_goals go_wp2
    refine bodyPost_ret (v:=.tuple #[.agg #[.int .i64 C,.int .i64 8,.int .i64 0,.bool false,.int .i64 k],.bool true]) (by simp [results,Tryz.results80,go_sem,b0,b1,b2,b3,b4]) rfl ⟨?_,?_⟩
    ·exact fam_end HC.out KV OK rfl
    ·exact fam_grown hF.2.2.2 _ _ _ _ _ _ _ _ _
   ·by_cases hC2:C=sums k+8
    ·have t1:(C == sums k)=false:=by simp [hC]
     have t3:(C == sums k+8)=true:=by simp [hC2]
     have t2:decide (sums k<C)=true:=by simp;omega
     have t4:sums k<C:=by omega
     have t5:IntKind.i64.wrap (sums k+8)=sums k+8:=by rw [IntKind.wrap_i64];omega
     have f1:=fa 1
     have f3:=fa 3
     have f4:=fa 4
     have g0:=fb 0
     have g1:=fb 1
     have g2:=fb 2
     have g3:=fb 3
     have g4:=fb 4
     have HC:Hid (C=sums k+8):=hC2
     have KV:=kv_sumx k hlt
     have OK:=okk_sumx k hlt
     clear hC hC2 fa fb hno
     go_wp2
     go_quiet (fail)
     go_wp2
     go_region
     all_goals go_wp2
     refine bodyPost_ret (v:=.tuple #[.agg #[.int .i64 C,.int .i64 8,.int .i64 0,.bool true,.int .i64 k],.bool true]) (by simp [results,Tryz.results80,go_sem,b0,b1,b2,b3,b4]) rfl ⟨?_,?_⟩
     ·exact fam_end HC.out KV OK rfl
     ·exact fam_grown hF.2.2.2 _ _ _ _ _ _ _ _ _
    ·have t1:(C == sums k)=false:=by simp [hC]
     have t3:(C == sums k+8)=false:=by simp [hC2]
     have t5:IntKind.i64.wrap (sums k+8)=sums k+8:=by rw [IntKind.wrap_i64];omega
     have HN:Hid (∀ j,j<k+1→C≠sums j∧C≠sums j+8):=fun j hj=>by
      by_cases e:j=k
      ·subst e;exact ⟨hC,hC2⟩
      ·exact hno j (by omega)
     clear hC hC2 fa fb hno b0 b1 b2 b3 b4
     go_wp2
     go_quiet (fail)
     go_wp2
     go_roundw
     case rel=>exact ⟨k+1,by omega,by go_num,hF.drewN _,HN.out⟩
     case measure=>simp [intOf];omega
  ·have hk10:k=10:=by omega
   subst hk10
   obtain ⟨wo,hwo⟩:∃ x,x=wr:=⟨_,rfl⟩
   subst hwo
   have HN:Hid (∀ j,j<10→C≠sums j∧C≠sums j+8):=hno
   clear a0 a1 a2 a3 a4 b0 b1 b2 b3 b4 fa fb hno
   go_wp2
   go_loop [6] (fun i=>∃ k:Nat,k≤4∧i=.int .i64 k∧∀ j:Nat,j<k→C≠21+16*(j:Int)∧C≠29+16*(j:Int)) (fun i=>4-(intOf i).toNat)
   case atStart=>exact ⟨0,by omega,rfl,fun j hj=>by omega⟩
   case round =>
    obtain ⟨k,hk4,rfl,hno⟩:=hrel
    obtain ⟨⟨a0,a1,a2,a3,a4⟩,fa⟩:=five hF.1
    obtain ⟨⟨b0,b1,b2,b3,b4⟩,fb⟩:=five hF.2.1
    by_cases hlt4:k<4
    ·by_cases hC:C=21+16*(k:Int)
     ·have t1:(C == 21+16*(k:Int))=true:=by simp [hC]
      have t2:(C == 29+16*(k:Int))=false:=by simp;omega
      have f1:=fa 1
      have f3:=fa 3
      have f4:=fa 4
      have g0:=fb 0
      have g1:=fb 1
      have g2:=fb 2
      have g3:=fb 3
      have g4:=fb 4
      have HC:Hid (C=21+16*(k:Int)):=hC
      have KV:=kv_ask k hlt4
      have OK:=okk_ask k hlt4
      clear hC fa fb hno
      go_wp2
      refine bodyPost_ret (v:=.tuple #[.agg #[.int .i64 C,.int .i64 11,.int .i64 0,.bool false,.int .i64 k],.bool true]) (by simp [results,Tryz.results80,go_sem,b0,b1,b2,b3,b4]) rfl ⟨?_,?_⟩
      ·exact fam_end HC.out KV OK rfl
      ·exact fam_grown' hF.2.2.2 _ _ _ _ _ _ _ _
     ·by_cases hC2:C=29+16*(k:Int)
      ·have t1:(C == 21+16*(k:Int))=false:=by simp [hC]
       have t2:(C == 29+16*(k:Int))=true:=by simp [hC2]
       have f1:=fa 1
       have f3:=fa 3
       have f4:=fa 4
       have g0:=fb 0
       have g1:=fb 1
       have g2:=fb 2
       have g3:=fb 3
       have g4:=fb 4
       have HC:Hid (C=29+16*(k:Int)):=hC2
       have KV:=kv_askx k hlt4
       have OK:=okk_askx k hlt4
       clear hC hC2 fa fb hno
       go_wp2
       refine bodyPost_ret (v:=.tuple #[.agg #[.int .i64 C,.int .i64 11,.int .i64 0,.bool true,.int .i64 k],.bool true]) (by simp [results,Tryz.results80,go_sem,b0,b1,b2,b3,b4]) rfl ⟨?_,?_⟩
       ·exact fam_end HC.out KV OK rfl
       ·exact fam_grown' hF.2.2.2 _ _ _ _ _ _ _ _
      ·have t1:(C == 21+16*(k:Int))=false:=by simp [hC]
       have t2:(C == 29+16*(k:Int))=false:=by simp [hC2]
       have HM:Hid (∀ j:Nat,j<k+1→C≠21+16*(j:Int)∧C≠29+16*(j:Int)):=fun j hj=>by
        by_cases e:j=k
        ·subst e;exact ⟨hC,hC2⟩
        ·exact hno j (by omega)
       clear hC hC2 fa fb hno b0 b1 b2 b3 b4
       go_wp2
       go_round
       case rel=>exact ⟨k+1,by omega,by go_num,HM.out⟩
       case measure=>simp [intOf];omega
    ·have hk5:k=4:=by omega
     subst hk5
     have KD:=kd_other C hO HN.out hno
     have f1:=fa 1
     have f3:=fa 3
     have f4:=fa 4
     have g0:=fb 0
     have g1:=fb 1
     have g2:=fb 2
     have g3:=fb 3
     have g4:=fb 4
     have HK:Hid (kd C=⟨C,0,0,false,0,0⟩):=KD
     clear KD fa fb hno
     go_wp2
     refine bodyPost_ret (v:=.tuple #[.agg #[.int .i64 C,.int .i64 0,.int .i64 0,.bool false,.int .i64 0],.bool false]) (by simp [results,Tryz.results80,go_sem,b0,b1,b2,b3,b4]) rfl ⟨?_,?_⟩
     ·unfold okk;rw [HK.out];rfl
     ·exact fam_grown'' hF.2.2.2 _ _ _ _ _
end Go.Proofs.YthbcfepbkkbjiaaGreatDoor
namespace Go.Proofs.YthbcfepbkkbjiaaGreatDoor
open Go.RowKit
theorem other_ne {C:Int} (h:Other C):(C == 32)=false∧(C == 40)=false∧(C == 48)=false∧(C == 64)=false∧(C == 72)=false∧(C == 80)=false∧(C == 0)=false∧(C == 1)=false∧(C == 96)=false∧(C == 97)=false∧(C == 128)=false∧(C == 129)=false∧(C == 177)=false∧(C == 2)=false∧(C == 3)=false∧(C == 7)=false∧(C == 135)=false∧(C == 132)=false∧(C == 5)=false∧(C == 6)=false∧(C == 22)=false:=by
 unfold Other at h
 simp only [tab,List.take,List.mem_cons,List.not_mem_nil,or_false,forall_eq_or_imp,forall_eq] at h
 simp only [beq_eq_false_iff_ne]
 omega
theorem family_at (C:Int) (w:World) (hO:Other C) :
  Calls Tryz.prog 80 #[.agg #[.int .i64 C,.int .i64 0,.int .i64 0,.bool false,.int .i64 0]] w
   fun e w'=>e=.returned (.tuple #[.agg #[.int .i64 (kd C).code,.int .i64 (kd C).kind,.int .i64 (kd C).n,.bool (kd C).x,.int .i64 (kd C).o],.bool (okk C)])∧w.grownBy w' none:=family_any C w hO
theorem two_below {w w1:World} {o1 o2:Obj} (h:((w.alloc o1).alloc o2).grownBy w1 none):w1.heap[w.heap.size]?=some o1:=by
 rw [h.block w.heap.size (by simp;omega) (by simp),Below.heap_alloc _ _ _ (by simp)]
 exact heap_top _ _ _ rfl
theorem fam_grown3 {w wr:World} (h:w.grownBy wr none) (v4 v5 v6 v7 v8:Value) :
  w.grownBy (((((wr.setCell ⟨w.heap.size,0,none⟩ v4).setCell ⟨w.heap.size,1,none⟩ v5).setCell ⟨w.heap.size,2,none⟩ v6).setCell ⟨w.heap.size,3,none⟩ v7).setCell ⟨w.heap.size,4,none⟩ v8) none :=
 grown_set (grown_set (grown_set (grown_set (grown_set h (Nat.le_refl _) _) (Nat.le_refl _) _) (Nat.le_refl _) _) (Nat.le_refl _) _) (Nat.le_refl _) _
set_option maxHeartbeats 1000000 in
theorem kind_other (C:Int) (w:World) (hO:Other C) :
  Calls Tryz.prog 48 #[.int .i64 C] w fun e w'=>e=.returned (.tuple #[kv (kd C),.bool (okk C)])∧w.grownBy w' none:=by
 obtain ⟨h0,h1,h2,h3,h4,h5,h6,h7,h8,h9,h10,h11,h12,h13,h14,h15,h16,h17,h18,h19,h20⟩:=other_ne hO
 go_enter Tryz.func48,Tryz.ntmps48
 go_wp2_with (go_at_call 80;refine (family_at _ _ hO).mono ?_;rintro e w1 ⟨rfl,hg1⟩;obtain ⟨⟨b0,b1,b2,b3,b4⟩,fb⟩:=five (two_below hg1);have g0:=fb 0;have g1:=fb 1;have g2:=fb 2;have g3:=fb 3;have g4:=fb 4;clear fb)
 refine bodyPost_ret (v:=.tuple #[kv (kd C),.bool (okk C)]) (by simp [results,Tryz.results48,go_sem,b0,b1,b2,b3,b4,kv]) rfl ⟨rfl,?_⟩
 exact fam_grown3 (grown_trans (grown_alloc (grown_alloc (grown_refl w none) _) _) hg1) _ _ _ _ _
theorem kind_any (C:Int) (w:World) :
  Calls Tryz.prog 48 #[.int .i64 C] w fun e w'=>e=.returned (.tuple #[kv (kd C),.bool (okk C)])∧w.grownBy w' none:=by
 by_cases e32:C=32
 ·subst e32
  exact (kind_32 w).mono fun e w' h=>⟨h.1.trans (by rw [show okk 32=true by rfl]),h.2⟩
 by_cases e40:C=40
 ·subst e40
  exact (kind_40 w).mono fun e w' h=>⟨h.1.trans (by rw [show okk 40=true by rfl]),h.2⟩
 by_cases e48:C=48
 ·subst e48
  exact (kind_48 w).mono fun e w' h=>⟨h.1.trans (by rw [show okk 48=true by rfl]),h.2⟩
 by_cases e64:C=64
 ·subst e64
  exact (kind_64 w).mono fun e w' h=>⟨h.1.trans (by rw [show okk 64=true by rfl]),h.2⟩
 by_cases e72:C=72
 ·subst e72
  exact (kind_72 w).mono fun e w' h=>⟨h.1.trans (by rw [show okk 72=true by rfl]),h.2⟩
 by_cases e80:C=80
 ·subst e80
  exact (kind_80 w).mono fun e w' h=>⟨h.1.trans (by rw [show okk 80=true by rfl]),h.2⟩
 by_cases e0:C=0
 ·subst e0
  exact (kind_0 w).mono fun e w' h=>⟨h.1.trans (by rw [show okk 0=true by rfl]),h.2⟩
 by_cases e1:C=1
 ·subst e1
  exact (kind_1 w).mono fun e w' h=>⟨h.1.trans (by rw [show okk 1=true by rfl]),h.2⟩
 by_cases e96:C=96
 ·subst e96
  exact (kind_96 w).mono fun e w' h=>⟨h.1.trans (by rw [show okk 96=true by rfl]),h.2⟩
 by_cases e97:C=97
 ·subst e97
  exact (kind_97 w).mono fun e w' h=>⟨h.1.trans (by rw [show okk 97=true by rfl]),h.2⟩
 by_cases e128:C=128
 ·subst e128
  exact (kind_128 w).mono fun e w' h=>⟨h.1.trans (by rw [show okk 128=true by rfl]),h.2⟩
 by_cases e129:C=129
 ·subst e129
  exact (kind_129 w).mono fun e w' h=>⟨h.1.trans (by rw [show okk 129=true by rfl]),h.2⟩
 by_cases e177:C=177
 ·subst e177
  exact (kind_177 w).mono fun e w' h=>⟨h.1.trans (by rw [show okk 177=true by rfl]),h.2⟩
 by_cases e2:C=2
 ·subst e2
  exact (kind_2 w).mono fun e w' h=>⟨h.1.trans (by rw [show okk 2=true by rfl]),h.2⟩
 by_cases e3:C=3
 ·subst e3
  exact (kind_3 w).mono fun e w' h=>⟨h.1.trans (by rw [show okk 3=true by rfl]),h.2⟩
 by_cases e7:C=7
 ·subst e7
  exact (kind_7 w).mono fun e w' h=>⟨h.1.trans (by rw [show okk 7=true by rfl]),h.2⟩
 by_cases e135:C=135
 ·subst e135
  exact (kind_135 w).mono fun e w' h=>⟨h.1.trans (by rw [show okk 135=true by rfl]),h.2⟩
 by_cases e132:C=132
 ·subst e132
  exact (kind_132 w).mono fun e w' h=>⟨h.1.trans (by rw [show okk 132=true by rfl]),h.2⟩
 by_cases e5:C=5
 ·subst e5
  exact (kind_5 w).mono fun e w' h=>⟨h.1.trans (by rw [show okk 5=true by rfl]),h.2⟩
 by_cases e6:C=6
 ·subst e6
  exact (kind_6 w).mono fun e w' h=>⟨h.1.trans (by rw [show okk 6=true by rfl]),h.2⟩
 by_cases e22:C=22
 ·subst e22
  exact (kind_22 w).mono fun e w' h=>⟨h.1.trans (by rw [show okk 22=true by rfl]),h.2⟩
 refine kind_other C w fun r hr=>?_
 simp only [tab,List.take,List.mem_cons,List.not_mem_nil,or_false] at hr
 rcases hr with rfl | rfl | rfl | rfl | rfl | rfl | rfl | rfl | rfl | rfl | rfl | rfl | rfl | rfl | rfl | rfl | rfl | rfl | rfl | rfl | rfl <;> (dsimp only;omega)
end Go.Proofs.YthbcfepbkkbjiaaGreatDoor
namespace Go.Proofs.YthbcfepbkkbjiaaGreatDoor
open Go.RowKit
theorem kind_at (C:Int) (w:World) :
  Calls Tryz.prog 48 #[.int .i64 C] w
   fun e w'=>e=.returned (.tuple #[.agg #[.int .i64 (kd C).code,.int .i64 (kd C).kind,.int .i64 (kd C).n,.bool (kd C).x,.int .i64 (kd C).o],.bool (okk C)])∧w.grownBy w' none:=kind_any C w
def nx (q:Nat→Int) (i:Nat):List Int :=
 if (kd (q (4*i))).kind=12 then [] else if (kd (q (4*i))).kind=10 then [(i:Int)+1+q (4*i+3)]
 else if (kd (q (4*i))).kind=11 then [(i:Int)+1+q (4*i+1),(i:Int)+1+q (4*i+2)] else [(i:Int)+1]
def Num (q:Nat→Int):Prop:=∀ j,0≤q j∧q j≤4294967295
theorem src_new1 (w:World) (x:Int) (e:TypeId) (B:Nat) (hB:B=w.heap.size):Src (w.alloc (.cells #[.int .i64 x] e)) .i64 (some ⟨B,0,none⟩) 1 (fun j=>[x].getD j 0):=fun _ =>
 ⟨B,0,rfl,fun j hj=>by
  subst hB
  have:j=0:=by omega
  subst this
  exact World.cell?_alloc_new _ _ _ _⟩
theorem src_new2 (w:World) (x y:Int) (e:TypeId) (B:Nat) (hB:B=w.heap.size):Src (w.alloc (.cells #[.int .i64 x,.int .i64 y] e)) .i64 (some ⟨B,0,none⟩) 2 (fun j=>[x,y].getD j 0):=fun _ =>
 ⟨B,0,rfl,fun j hj=>by
  subst hB
  match j,hj with
  | 0,_=>exact World.cell?_alloc_new _ _ _ _
  | 1,_=>exact World.cell?_alloc_new _ _ _ _⟩
set_option maxHeartbeats 1000000 in
theorem next_any (b off n c i:Nat) (q:Nat→Int) (w:World) (hi:i<n) (hn:n≤1000000) (hq:Num q) (h:Row w .i64 b off (4*n) q) :
  Calls Tryz.prog 79 #[.slice (some ⟨b,off,none⟩) n c,.int .i64 i] w fun e w'=>∃ ao cc,e=.returned (.slice ao (nx q i).length cc)∧Src w' .i64 ao (nx q i).length (fun j=>(nx q i).getD j 0)∧w.grownBy w' none:=by
 obtain ⟨c0,c1,c2,c3⟩:=h.insn hi
 have z1:=hq (4*i+1)
 have z2:=hq (4*i+2)
 have z3:=hq (4*i+3)
 by_cases k12:(kd (q (4*i))).kind=12
 ·have t12:((kd (q (4*i))).kind == 12)=true:=by simp [k12]
  rw [show nx q i=[] from if_pos k12]
  clear k12 h
  go_enter Tryz.func79,Tryz.ntmps79
  go_wp2_with (go_at_call 48;refine (kind_at _ _).mono ?_;rintro e w1 ⟨rfl,hg1⟩;obtain ⟨x0,x1,x2,x3⟩:=box_four hg1 (by simp);have hz:=alloc_lt hg1)
  go_ret
  exact ⟨none,0,rfl,fun h=>absurd h (by decide),grown_alloc (grown_trans (grown_alloc (grown_refl w none) _) hg1) _⟩
 have t12:((kd (q (4*i))).kind == 12)=false:=by simp [k12]
 by_cases k10:(kd (q (4*i))).kind=10
 ·have t10:((kd (q (4*i))).kind == 10)=true:=by simp [k10]
  rw [show nx q i=[(i:Int)+1+q (4*i+3)] from (if_neg k12).trans (if_pos k10)]
  clear k12 k10 h
  go_enter Tryz.func79,Tryz.ntmps79
  go_wp2_with (go_at_call 48;refine (kind_at _ _).mono ?_;rintro e w1 ⟨rfl,hg1⟩;obtain ⟨x0,x1,x2,x3⟩:=box_four hg1 (by simp);have hz:=alloc_lt hg1)
  go_ret
  exact ⟨_,_,rfl,src_new1 _ _ _ _ (by simp),grown_alloc (grown_alloc (grown_trans (grown_alloc (grown_refl w none) _) hg1) _) _⟩
 have t10:((kd (q (4*i))).kind == 10)=false:=by simp [k10]
 by_cases k11:(kd (q (4*i))).kind=11
 ·have t11:((kd (q (4*i))).kind == 11)=true:=by simp [k11]
  rw [show nx q i=[(i:Int)+1+q (4*i+1),(i:Int)+1+q (4*i+2)] from (if_neg k12).trans ((if_neg k10).trans (if_pos k11))]
  clear k12 k10 k11 h
  go_enter Tryz.func79,Tryz.ntmps79
  go_wp2_with (go_at_call 48;refine (kind_at _ _).mono ?_;rintro e w1 ⟨rfl,hg1⟩;obtain ⟨x0,x1,x2,x3⟩:=box_four hg1 (by simp);have hz:=alloc_lt hg1)
  go_ret
  exact ⟨_,_,rfl,src_new2 _ _ _ _ _ (by simp),grown_alloc (grown_alloc (grown_trans (grown_alloc (grown_refl w none) _) hg1) _) _⟩
 ·have t11:((kd (q (4*i))).kind == 11)=false:=by simp [k11]
  rw [show nx q i=[(i:Int)+1] from (if_neg k12).trans ((if_neg k10).trans (if_neg k11))]
  clear k12 k10 k11 h
  go_enter Tryz.func79,Tryz.ntmps79
  go_wp2_with (go_at_call 48;refine (kind_at _ _).mono ?_;rintro e w1 ⟨rfl,hg1⟩;obtain ⟨x0,x1,x2,x3⟩:=box_four hg1 (by simp);have hz:=alloc_lt hg1)
  go_ret
  exact ⟨_,_,rfl,src_new1 _ _ _ _ (by simp),grown_alloc (grown_alloc (grown_trans (grown_alloc (grown_refl w none) _) hg1) _) _⟩
end Go.Proofs.YthbcfepbkkbjiaaGreatDoor
namespace Go.Proofs.YthbcfepbkkbjiaaGreatDoor
open Go.RowKit
theorem ret_int {k:IntKind} {a b:Int} (h:a=b):Ending.returned (.int k a)=.returned (.int k b):=by rw [h]
def wrg (r:KR) (ok:Bool) (K:Int) (l:List Int) (n:Int):Int :=
 if ok=false then 2 else if r.kind=8∧r.x=false∧(r.o=3∨r.o=4)∧K=0 then 3 else if r.kind=8∧r.x=false∧8≤r.o∧31<K then 4
 else if (r.kind=3∨r.kind=6)∧16≤K then 5 else if (r.kind=10∨r.kind=11)∧l.any (fun x=>decide (n≤x))=true then 6 else 0
def wrong (q:Nat→Int) (n i:Nat):Int:=wrg (kd (q (4*i))) (okk (q (4*i))) (q (4*i+3)) (nx q i) n
set_option maxHeartbeats 1000000 in
theorem wrong_bad (b off n c i:Nat) (q:Nat→Int) (w:World) (hi:i<n) (hn:n≤1000000) (hq:Num q) (h:Row w .i64 b off (4*n) q)
  (hok:okk (q (4*i))=false) :
  Calls Tryz.prog 47 #[.slice (some ⟨b,off,none⟩) n c,.int .i64 i] w fun e w'=>e=.returned (.int .i64 (wrong q n i))∧w.grownBy w' none:=by
 obtain ⟨c0,c1,c2,c3⟩:=h.insn hi
 have z3:=hq (4*i+3)
 have HE:Hid (wrong q n i=2):=by unfold Hid wrong wrg;simp [hok]
 clear h
 go_enter Tryz.func47,Tryz.ntmps47
 go_wp2_with (first | (go_at_call 48;refine (kind_at _ _).mono ?_;rintro e w1 ⟨rfl,hg1⟩;obtain ⟨x0,x1,x2,x3⟩:=box_four hg1 (by simp);have hz:=alloc_lt hg1) | fail)
 go_ret
 exact ⟨ret_int HE.out.symm,grown_alloc (grown_trans (grown_alloc (grown_refl w none) _) hg1) _⟩
set_option maxHeartbeats 1000000 in
theorem wrong_div3z (b off n c i:Nat) (q:Nat→Int) (w:World) (hi:i<n) (hn:n≤1000000) (hq:Num q) (h:Row w .i64 b off (4*n) q)
  (hok:okk (q (4*i))=true)
  (hk:(kd (q (4*i))).kind=8)
  (hx:(kd (q (4*i))).x=false)
  (ho:(kd (q (4*i))).o=3)
  (hK:q (4*i+3)=0) :
  Calls Tryz.prog 47 #[.slice (some ⟨b,off,none⟩) n c,.int .i64 i] w fun e w'=>e=.returned (.int .i64 (wrong q n i))∧w.grownBy w' none:=by
 obtain ⟨c0,c1,c2,c3⟩:=h.insn hi
 have z3:=hq (4*i+3)
 have HE:Hid (wrong q n i=3):=by unfold Hid wrong wrg;simp [hok,hk,hx,ho,hK]
 have t8:((kd (q (4*i))).kind == 8)=true:=by simp [hk]
 have t3:((kd (q (4*i))).kind == 3)=false:=by simp [hk]
 have t6:((kd (q (4*i))).kind == 6)=false:=by simp [hk]
 have t10:((kd (q (4*i))).kind == 10)=false:=by simp [hk]
 have t11:((kd (q (4*i))).kind == 11)=false:=by simp [hk]
 have o3:((kd (q (4*i))).o == 3)=true:=by simp [ho]
 have o4:((kd (q (4*i))).o == 4)=false:=by simp [ho]
 have o8:decide (8≤(kd (q (4*i))).o)=false:=by simp [ho]
 have kz:(q (4*i+3) == 0)=true:=by simp [hK]
 clear hk ho hK
 clear h
 go_enter Tryz.func47,Tryz.ntmps47
 go_wp2_with (first | (go_at_call 48;refine (kind_at _ _).mono ?_;rintro e w1 ⟨rfl,hg1⟩;obtain ⟨x0,x1,x2,x3⟩:=box_four hg1 (by simp);have hz:=alloc_lt hg1) | fail)
 go_ret
 exact ⟨ret_int HE.out.symm,grown_alloc (grown_trans (grown_alloc (grown_refl w none) _) hg1) _⟩
set_option maxHeartbeats 1000000 in
theorem wrong_div3 (b off n c i:Nat) (q:Nat→Int) (w:World) (hi:i<n) (hn:n≤1000000) (hq:Num q) (h:Row w .i64 b off (4*n) q)
  (hok:okk (q (4*i))=true)
  (hk:(kd (q (4*i))).kind=8)
  (hx:(kd (q (4*i))).x=false)
  (ho:(kd (q (4*i))).o=3)
  (hK:q (4*i+3)≠0) :
  Calls Tryz.prog 47 #[.slice (some ⟨b,off,none⟩) n c,.int .i64 i] w fun e w'=>e=.returned (.int .i64 (wrong q n i))∧w.grownBy w' none:=by
 obtain ⟨c0,c1,c2,c3⟩:=h.insn hi
 have z3:=hq (4*i+3)
 have HE:Hid (wrong q n i=0):=by unfold Hid wrong wrg;simp [hok,hk,hx,ho,hK]
 have t8:((kd (q (4*i))).kind == 8)=true:=by simp [hk]
 have t3:((kd (q (4*i))).kind == 3)=false:=by simp [hk]
 have t6:((kd (q (4*i))).kind == 6)=false:=by simp [hk]
 have t10:((kd (q (4*i))).kind == 10)=false:=by simp [hk]
 have t11:((kd (q (4*i))).kind == 11)=false:=by simp [hk]
 have o3:((kd (q (4*i))).o == 3)=true:=by simp [ho]
 have o4:((kd (q (4*i))).o == 4)=false:=by simp [ho]
 have o8:decide (8≤(kd (q (4*i))).o)=false:=by simp [ho]
 have kz:(q (4*i+3) == 0)=false:=by simp [hK]
 clear hk ho hK
 clear h
 go_enter Tryz.func47,Tryz.ntmps47
 go_wp2_with (first | (go_at_call 48;refine (kind_at _ _).mono ?_;rintro e w1 ⟨rfl,hg1⟩;obtain ⟨x0,x1,x2,x3⟩:=box_four hg1 (by simp);have hz:=alloc_lt hg1) | fail)
 go_ret
 exact ⟨ret_int HE.out.symm,grown_alloc (grown_trans (grown_alloc (grown_refl w none) _) hg1) _⟩
set_option maxHeartbeats 1000000 in
theorem wrong_div4z (b off n c i:Nat) (q:Nat→Int) (w:World) (hi:i<n) (hn:n≤1000000) (hq:Num q) (h:Row w .i64 b off (4*n) q)
  (hok:okk (q (4*i))=true)
  (hk:(kd (q (4*i))).kind=8)
  (hx:(kd (q (4*i))).x=false)
  (ho:(kd (q (4*i))).o=4)
  (hK:q (4*i+3)=0) :
  Calls Tryz.prog 47 #[.slice (some ⟨b,off,none⟩) n c,.int .i64 i] w fun e w'=>e=.returned (.int .i64 (wrong q n i))∧w.grownBy w' none:=by
 obtain ⟨c0,c1,c2,c3⟩:=h.insn hi
 have z3:=hq (4*i+3)
 have HE:Hid (wrong q n i=3):=by unfold Hid wrong wrg;simp [hok,hk,hx,ho,hK]
 have t8:((kd (q (4*i))).kind == 8)=true:=by simp [hk]
 have t3:((kd (q (4*i))).kind == 3)=false:=by simp [hk]
 have t6:((kd (q (4*i))).kind == 6)=false:=by simp [hk]
 have t10:((kd (q (4*i))).kind == 10)=false:=by simp [hk]
 have t11:((kd (q (4*i))).kind == 11)=false:=by simp [hk]
 have o3:((kd (q (4*i))).o == 3)=false:=by simp [ho]
 have o4:((kd (q (4*i))).o == 4)=true:=by simp [ho]
 have o8:decide (8≤(kd (q (4*i))).o)=false:=by simp [ho]
 have kz:(q (4*i+3) == 0)=true:=by simp [hK]
 clear hk ho hK
 clear h
 go_enter Tryz.func47,Tryz.ntmps47
 go_wp2_with (first | (go_at_call 48;refine (kind_at _ _).mono ?_;rintro e w1 ⟨rfl,hg1⟩;obtain ⟨x0,x1,x2,x3⟩:=box_four hg1 (by simp);have hz:=alloc_lt hg1) | fail)
 go_ret
 exact ⟨ret_int HE.out.symm,grown_alloc (grown_trans (grown_alloc (grown_refl w none) _) hg1) _⟩
set_option maxHeartbeats 1000000 in
theorem wrong_div4 (b off n c i:Nat) (q:Nat→Int) (w:World) (hi:i<n) (hn:n≤1000000) (hq:Num q) (h:Row w .i64 b off (4*n) q)
  (hok:okk (q (4*i))=true)
  (hk:(kd (q (4*i))).kind=8)
  (hx:(kd (q (4*i))).x=false)
  (ho:(kd (q (4*i))).o=4)
  (hK:q (4*i+3)≠0) :
  Calls Tryz.prog 47 #[.slice (some ⟨b,off,none⟩) n c,.int .i64 i] w fun e w'=>e=.returned (.int .i64 (wrong q n i))∧w.grownBy w' none:=by
 obtain ⟨c0,c1,c2,c3⟩:=h.insn hi
 have z3:=hq (4*i+3)
 have HE:Hid (wrong q n i=0):=by unfold Hid wrong wrg;simp [hok,hk,hx,ho,hK]
 have t8:((kd (q (4*i))).kind == 8)=true:=by simp [hk]
 have t3:((kd (q (4*i))).kind == 3)=false:=by simp [hk]
 have t6:((kd (q (4*i))).kind == 6)=false:=by simp [hk]
 have t10:((kd (q (4*i))).kind == 10)=false:=by simp [hk]
 have t11:((kd (q (4*i))).kind == 11)=false:=by simp [hk]
 have o3:((kd (q (4*i))).o == 3)=false:=by simp [ho]
 have o4:((kd (q (4*i))).o == 4)=true:=by simp [ho]
 have o8:decide (8≤(kd (q (4*i))).o)=false:=by simp [ho]
 have kz:(q (4*i+3) == 0)=false:=by simp [hK]
 clear hk ho hK
 clear h
 go_enter Tryz.func47,Tryz.ntmps47
 go_wp2_with (first | (go_at_call 48;refine (kind_at _ _).mono ?_;rintro e w1 ⟨rfl,hg1⟩;obtain ⟨x0,x1,x2,x3⟩:=box_four hg1 (by simp);have hz:=alloc_lt hg1) | fail)
 go_ret
 exact ⟨ret_int HE.out.symm,grown_alloc (grown_trans (grown_alloc (grown_refl w none) _) hg1) _⟩
set_option maxHeartbeats 1000000 in
theorem wrong_shf (b off n c i:Nat) (q:Nat→Int) (w:World) (hi:i<n) (hn:n≤1000000) (hq:Num q) (h:Row w .i64 b off (4*n) q)
  (hok:okk (q (4*i))=true)
  (hk:(kd (q (4*i))).kind=8)
  (hx:(kd (q (4*i))).x=false)
  (ho3:(kd (q (4*i))).o≠3)
  (ho4:(kd (q (4*i))).o≠4)
  (ho8:8≤(kd (q (4*i))).o)
  (hK:31<q (4*i+3)) :
  Calls Tryz.prog 47 #[.slice (some ⟨b,off,none⟩) n c,.int .i64 i] w fun e w'=>e=.returned (.int .i64 (wrong q n i))∧w.grownBy w' none:=by
 obtain ⟨c0,c1,c2,c3⟩:=h.insn hi
 have z3:=hq (4*i+3)
 have HE:Hid (wrong q n i=4):=by unfold Hid wrong wrg;simp [hok,hk,hx,ho3,ho4,ho8,hK]
 have t8:((kd (q (4*i))).kind == 8)=true:=by simp [hk]
 have t3:((kd (q (4*i))).kind == 3)=false:=by simp [hk]
 have t6:((kd (q (4*i))).kind == 6)=false:=by simp [hk]
 have t10:((kd (q (4*i))).kind == 10)=false:=by simp [hk]
 have t11:((kd (q (4*i))).kind == 11)=false:=by simp [hk]
 have o3:((kd (q (4*i))).o == 3)=false:=by simp [ho3]
 have o4:((kd (q (4*i))).o == 4)=false:=by simp [ho4]
 have o8:decide (8≤(kd (q (4*i))).o)=true:=by simp [ho8]
 clear hk ho3 ho4
 clear h
 go_enter Tryz.func47,Tryz.ntmps47
 go_wp2_with (first | (go_at_call 48;refine (kind_at _ _).mono ?_;rintro e w1 ⟨rfl,hg1⟩;obtain ⟨x0,x1,x2,x3⟩:=box_four hg1 (by simp);have hz:=alloc_lt hg1) | fail)
 go_ret
 exact ⟨ret_int HE.out.symm,grown_alloc (grown_trans (grown_alloc (grown_refl w none) _) hg1) _⟩
set_option maxHeartbeats 1000000 in
theorem wrong_sho (b off n c i:Nat) (q:Nat→Int) (w:World) (hi:i<n) (hn:n≤1000000) (hq:Num q) (h:Row w .i64 b off (4*n) q)
  (hok:okk (q (4*i))=true)
  (hk:(kd (q (4*i))).kind=8)
  (hx:(kd (q (4*i))).x=false)
  (ho3:(kd (q (4*i))).o≠3)
  (ho4:(kd (q (4*i))).o≠4)
  (ho8:8≤(kd (q (4*i))).o)
  (hK:¬ 31<q (4*i+3)) :
  Calls Tryz.prog 47 #[.slice (some ⟨b,off,none⟩) n c,.int .i64 i] w fun e w'=>e=.returned (.int .i64 (wrong q n i))∧w.grownBy w' none:=by
 obtain ⟨c0,c1,c2,c3⟩:=h.insn hi
 have z3:=hq (4*i+3)
 have HE:Hid (wrong q n i=0):=by unfold Hid wrong wrg;simp [hok,hk,hx,ho3,ho4,ho8,hK]
 have t8:((kd (q (4*i))).kind == 8)=true:=by simp [hk]
 have t3:((kd (q (4*i))).kind == 3)=false:=by simp [hk]
 have t6:((kd (q (4*i))).kind == 6)=false:=by simp [hk]
 have t10:((kd (q (4*i))).kind == 10)=false:=by simp [hk]
 have t11:((kd (q (4*i))).kind == 11)=false:=by simp [hk]
 have o3:((kd (q (4*i))).o == 3)=false:=by simp [ho3]
 have o4:((kd (q (4*i))).o == 4)=false:=by simp [ho4]
 have o8:decide (8≤(kd (q (4*i))).o)=true:=by simp [ho8]
 have kz:decide (31<q (4*i+3))=false:=by simp;omega
 clear hk ho3 ho4
 clear h
 go_enter Tryz.func47,Tryz.ntmps47
 go_wp2_with (first | (go_at_call 48;refine (kind_at _ _).mono ?_;rintro e w1 ⟨rfl,hg1⟩;obtain ⟨x0,x1,x2,x3⟩:=box_four hg1 (by simp);have hz:=alloc_lt hg1) | fail)
 go_ret
 exact ⟨ret_int HE.out.symm,grown_alloc (grown_trans (grown_alloc (grown_refl w none) _) hg1) _⟩
set_option maxHeartbeats 1000000 in
theorem wrong_sum (b off n c i:Nat) (q:Nat→Int) (w:World) (hi:i<n) (hn:n≤1000000) (hq:Num q) (h:Row w .i64 b off (4*n) q)
  (hok:okk (q (4*i))=true)
  (hk:(kd (q (4*i))).kind=8)
  (hx:(kd (q (4*i))).x=false)
  (ho3:(kd (q (4*i))).o≠3)
  (ho4:(kd (q (4*i))).o≠4)
  (ho8:¬ 8≤(kd (q (4*i))).o) :
  Calls Tryz.prog 47 #[.slice (some ⟨b,off,none⟩) n c,.int .i64 i] w fun e w'=>e=.returned (.int .i64 (wrong q n i))∧w.grownBy w' none:=by
 obtain ⟨c0,c1,c2,c3⟩:=h.insn hi
 have z3:=hq (4*i+3)
 have HE:Hid (wrong q n i=0):=by unfold Hid wrong wrg;simp [hok,hk,hx,ho3,ho4,ho8]
 have t8:((kd (q (4*i))).kind == 8)=true:=by simp [hk]
 have t3:((kd (q (4*i))).kind == 3)=false:=by simp [hk]
 have t6:((kd (q (4*i))).kind == 6)=false:=by simp [hk]
 have t10:((kd (q (4*i))).kind == 10)=false:=by simp [hk]
 have t11:((kd (q (4*i))).kind == 11)=false:=by simp [hk]
 have o3:((kd (q (4*i))).o == 3)=false:=by simp [ho3]
 have o4:((kd (q (4*i))).o == 4)=false:=by simp [ho4]
 have o8:decide (8≤(kd (q (4*i))).o)=false:=by simp;omega
 clear hk ho3 ho4
 clear h
 go_enter Tryz.func47,Tryz.ntmps47
 go_wp2_with (first | (go_at_call 48;refine (kind_at _ _).mono ?_;rintro e w1 ⟨rfl,hg1⟩;obtain ⟨x0,x1,x2,x3⟩:=box_four hg1 (by simp);have hz:=alloc_lt hg1) | fail)
 go_ret
 exact ⟨ret_int HE.out.symm,grown_alloc (grown_trans (grown_alloc (grown_refl w none) _) hg1) _⟩
set_option maxHeartbeats 1000000 in
theorem wrong_sumx (b off n c i:Nat) (q:Nat→Int) (w:World) (hi:i<n) (hn:n≤1000000) (hq:Num q) (h:Row w .i64 b off (4*n) q)
  (hok:okk (q (4*i))=true)
  (hk:(kd (q (4*i))).kind=8)
  (hx:(kd (q (4*i))).x=true) :
  Calls Tryz.prog 47 #[.slice (some ⟨b,off,none⟩) n c,.int .i64 i] w fun e w'=>e=.returned (.int .i64 (wrong q n i))∧w.grownBy w' none:=by
 obtain ⟨c0,c1,c2,c3⟩:=h.insn hi
 have z3:=hq (4*i+3)
 have HE:Hid (wrong q n i=0):=by unfold Hid wrong wrg;simp [hok,hk,hx]
 have t8:((kd (q (4*i))).kind == 8)=true:=by simp [hk]
 have t3:((kd (q (4*i))).kind == 3)=false:=by simp [hk]
 have t6:((kd (q (4*i))).kind == 6)=false:=by simp [hk]
 have t10:((kd (q (4*i))).kind == 10)=false:=by simp [hk]
 have t11:((kd (q (4*i))).kind == 11)=false:=by simp [hk]
 clear hk
 clear h
 go_enter Tryz.func47,Tryz.ntmps47
 go_wp2_with (first | (go_at_call 48;refine (kind_at _ _).mono ?_;rintro e w1 ⟨rfl,hg1⟩;obtain ⟨x0,x1,x2,x3⟩:=box_four hg1 (by simp);have hz:=alloc_lt hg1) | fail)
 go_ret
 exact ⟨ret_int HE.out.symm,grown_alloc (grown_trans (grown_alloc (grown_refl w none) _) hg1) _⟩
set_option maxHeartbeats 1000000 in
theorem wrong_cell3b (b off n c i:Nat) (q:Nat→Int) (w:World) (hi:i<n) (hn:n≤1000000) (hq:Num q) (h:Row w .i64 b off (4*n) q)
  (hok:okk (q (4*i))=true)
  (hk:(kd (q (4*i))).kind=3)
  (hK:16≤q (4*i+3)) :
  Calls Tryz.prog 47 #[.slice (some ⟨b,off,none⟩) n c,.int .i64 i] w fun e w'=>e=.returned (.int .i64 (wrong q n i))∧w.grownBy w' none:=by
 obtain ⟨c0,c1,c2,c3⟩:=h.insn hi
 have z3:=hq (4*i+3)
 have HE:Hid (wrong q n i=5):=by unfold Hid wrong wrg;simp [hok,hk,hK]
 have t8:((kd (q (4*i))).kind == 8)=false:=by simp [hk]
 have t3:((kd (q (4*i))).kind == 3)=true:=by simp [hk]
 have t6:((kd (q (4*i))).kind == 6)=false:=by simp [hk]
 have t10:((kd (q (4*i))).kind == 10)=false:=by simp [hk]
 have t11:((kd (q (4*i))).kind == 11)=false:=by simp [hk]
 clear hk
 clear h
 go_enter Tryz.func47,Tryz.ntmps47
 go_wp2_with (first | (go_at_call 48;refine (kind_at _ _).mono ?_;rintro e w1 ⟨rfl,hg1⟩;obtain ⟨x0,x1,x2,x3⟩:=box_four hg1 (by simp);have hz:=alloc_lt hg1) | fail)
 go_ret
 exact ⟨ret_int HE.out.symm,grown_alloc (grown_trans (grown_alloc (grown_refl w none) _) hg1) _⟩
set_option maxHeartbeats 1000000 in
theorem wrong_cell3 (b off n c i:Nat) (q:Nat→Int) (w:World) (hi:i<n) (hn:n≤1000000) (hq:Num q) (h:Row w .i64 b off (4*n) q)
  (hok:okk (q (4*i))=true)
  (hk:(kd (q (4*i))).kind=3)
  (hK:¬ 16≤q (4*i+3)) :
  Calls Tryz.prog 47 #[.slice (some ⟨b,off,none⟩) n c,.int .i64 i] w fun e w'=>e=.returned (.int .i64 (wrong q n i))∧w.grownBy w' none:=by
 obtain ⟨c0,c1,c2,c3⟩:=h.insn hi
 have z3:=hq (4*i+3)
 have HE:Hid (wrong q n i=0):=by unfold Hid wrong wrg;simp [hok,hk,hK]
 have t8:((kd (q (4*i))).kind == 8)=false:=by simp [hk]
 have t3:((kd (q (4*i))).kind == 3)=true:=by simp [hk]
 have t6:((kd (q (4*i))).kind == 6)=false:=by simp [hk]
 have t10:((kd (q (4*i))).kind == 10)=false:=by simp [hk]
 have t11:((kd (q (4*i))).kind == 11)=false:=by simp [hk]
 have kz:decide (16≤q (4*i+3))=false:=by simp;omega
 clear hk
 clear h
 go_enter Tryz.func47,Tryz.ntmps47
 go_wp2_with (first | (go_at_call 48;refine (kind_at _ _).mono ?_;rintro e w1 ⟨rfl,hg1⟩;obtain ⟨x0,x1,x2,x3⟩:=box_four hg1 (by simp);have hz:=alloc_lt hg1) | fail)
 go_ret
 exact ⟨ret_int HE.out.symm,grown_alloc (grown_trans (grown_alloc (grown_refl w none) _) hg1) _⟩
set_option maxHeartbeats 1000000 in
theorem wrong_cell6b (b off n c i:Nat) (q:Nat→Int) (w:World) (hi:i<n) (hn:n≤1000000) (hq:Num q) (h:Row w .i64 b off (4*n) q)
  (hok:okk (q (4*i))=true)
  (hk:(kd (q (4*i))).kind=6)
  (hK:16≤q (4*i+3)) :
  Calls Tryz.prog 47 #[.slice (some ⟨b,off,none⟩) n c,.int .i64 i] w fun e w'=>e=.returned (.int .i64 (wrong q n i))∧w.grownBy w' none:=by
 obtain ⟨c0,c1,c2,c3⟩:=h.insn hi
 have z3:=hq (4*i+3)
 have HE:Hid (wrong q n i=5):=by unfold Hid wrong wrg;simp [hok,hk,hK]
 have t8:((kd (q (4*i))).kind == 8)=false:=by simp [hk]
 have t3:((kd (q (4*i))).kind == 3)=false:=by simp [hk]
 have t6:((kd (q (4*i))).kind == 6)=true:=by simp [hk]
 have t10:((kd (q (4*i))).kind == 10)=false:=by simp [hk]
 have t11:((kd (q (4*i))).kind == 11)=false:=by simp [hk]
 clear hk
 clear h
 go_enter Tryz.func47,Tryz.ntmps47
 go_wp2_with (first | (go_at_call 48;refine (kind_at _ _).mono ?_;rintro e w1 ⟨rfl,hg1⟩;obtain ⟨x0,x1,x2,x3⟩:=box_four hg1 (by simp);have hz:=alloc_lt hg1) | fail)
 go_ret
 exact ⟨ret_int HE.out.symm,grown_alloc (grown_trans (grown_alloc (grown_refl w none) _) hg1) _⟩
set_option maxHeartbeats 1000000 in
theorem wrong_cell6 (b off n c i:Nat) (q:Nat→Int) (w:World) (hi:i<n) (hn:n≤1000000) (hq:Num q) (h:Row w .i64 b off (4*n) q)
  (hok:okk (q (4*i))=true)
  (hk:(kd (q (4*i))).kind=6)
  (hK:¬ 16≤q (4*i+3)) :
  Calls Tryz.prog 47 #[.slice (some ⟨b,off,none⟩) n c,.int .i64 i] w fun e w'=>e=.returned (.int .i64 (wrong q n i))∧w.grownBy w' none:=by
 obtain ⟨c0,c1,c2,c3⟩:=h.insn hi
 have z3:=hq (4*i+3)
 have HE:Hid (wrong q n i=0):=by unfold Hid wrong wrg;simp [hok,hk,hK]
 have t8:((kd (q (4*i))).kind == 8)=false:=by simp [hk]
 have t3:((kd (q (4*i))).kind == 3)=false:=by simp [hk]
 have t6:((kd (q (4*i))).kind == 6)=true:=by simp [hk]
 have t10:((kd (q (4*i))).kind == 10)=false:=by simp [hk]
 have t11:((kd (q (4*i))).kind == 11)=false:=by simp [hk]
 have kz:decide (16≤q (4*i+3))=false:=by simp;omega
 clear hk
 clear h
 go_enter Tryz.func47,Tryz.ntmps47
 go_wp2_with (first | (go_at_call 48;refine (kind_at _ _).mono ?_;rintro e w1 ⟨rfl,hg1⟩;obtain ⟨x0,x1,x2,x3⟩:=box_four hg1 (by simp);have hz:=alloc_lt hg1) | fail)
 go_ret
 exact ⟨ret_int HE.out.symm,grown_alloc (grown_trans (grown_alloc (grown_refl w none) _) hg1) _⟩
set_option maxHeartbeats 1000000 in
theorem wrong_plain (b off n c i:Nat) (q:Nat→Int) (w:World) (hi:i<n) (hn:n≤1000000) (hq:Num q) (h:Row w .i64 b off (4*n) q)
  (hok:okk (q (4*i))=true)
  (h8:(kd (q (4*i))).kind≠8)
  (h3:(kd (q (4*i))).kind≠3)
  (h6:(kd (q (4*i))).kind≠6)
  (h10:(kd (q (4*i))).kind≠10)
  (h11:(kd (q (4*i))).kind≠11) :
  Calls Tryz.prog 47 #[.slice (some ⟨b,off,none⟩) n c,.int .i64 i] w fun e w'=>e=.returned (.int .i64 (wrong q n i))∧w.grownBy w' none:=by
 obtain ⟨c0,c1,c2,c3⟩:=h.insn hi
 have z3:=hq (4*i+3)
 have HE:Hid (wrong q n i=0):=by unfold Hid wrong wrg;simp [hok,h8,h3,h6,h10,h11]
 have t8:((kd (q (4*i))).kind == 8)=false:=by simp [h8]
 have t3:((kd (q (4*i))).kind == 3)=false:=by simp [h3]
 have t6:((kd (q (4*i))).kind == 6)=false:=by simp [h6]
 have t10:((kd (q (4*i))).kind == 10)=false:=by simp [h10]
 have t11:((kd (q (4*i))).kind == 11)=false:=by simp [h11]
 clear h8 h3 h6 h10 h11
 clear h
 go_enter Tryz.func47,Tryz.ntmps47
 go_wp2_with (first | (go_at_call 48;refine (kind_at _ _).mono ?_;rintro e w1 ⟨rfl,hg1⟩;obtain ⟨x0,x1,x2,x3⟩:=box_four hg1 (by simp);have hz:=alloc_lt hg1) | fail)
 go_ret
 exact ⟨ret_int HE.out.symm,grown_alloc (grown_trans (grown_alloc (grown_refl w none) _) hg1) _⟩
end Go.Proofs.YthbcfepbkkbjiaaGreatDoor
namespace Go.Proofs.YthbcfepbkkbjiaaGreatDoor
open Go.RowKit
theorem nx_len (q:Nat→Int) (i:Nat):(nx q i).length≤2:=by
 unfold nx
 split
 ·simp
 ·split
  ·simp
  ·split <;> simp
theorem any_le (l:List Int) (n:Int) (k:Nat) (hk:k<l.length) (h:n≤l.getD k 0):l.any (fun x=>decide (n≤x))=true:=by
 rw [List.any_eq_true]
 exact ⟨l[k],List.getElem_mem hk,by simpa [List.getD,hk] using h⟩
theorem any_lt (l:List Int) (n:Int) (h:∀ j,j<l.length→l.getD j 0<n):l.any (fun x=>decide (n≤x))=false:=by
 rw [List.any_eq_false]
 intro x hx
 obtain ⟨j,hj,rfl⟩:=List.getElem_of_mem hx
 have:=h j hj
 simp [List.getD,hj] at this
 simpa using this
set_option maxHeartbeats 1000000 in
theorem wrong_jump (b off n c i:Nat) (q:Nat→Int) (w:World) (hi:i<n) (hn:n≤1000000) (hq:Num q) (h:Row w .i64 b off (4*n) q)
  (hok:okk (q (4*i))=true) (hk:(kd (q (4*i))).kind=10∨(kd (q (4*i))).kind=11) :
  Calls Tryz.prog 47 #[.slice (some ⟨b,off,none⟩) n c,.int .i64 i] w fun e w'=>e=.returned (.int .i64 (wrong q n i))∧w.grownBy w' none:=by
 obtain ⟨c0,c1,c2,c3⟩:=h.insn hi
 have z3:=hq (4*i+3)
 have HE:Hid (wrong q n i=if (nx q i).any (fun x=>decide ((n:Int)≤x))=true then 6 else 0):=by
  unfold Hid wrong wrg
  rcases hk with hk | hk <;> simp [hok,hk]
 have HL:(nx q i).length≤2:=nx_len q i
 have t8:((kd (q (4*i))).kind == 8)=false:=by rcases hk with hk | hk <;> simp [hk]
 have t3:((kd (q (4*i))).kind == 3)=false:=by rcases hk with hk | hk <;> simp [hk]
 have t6:((kd (q (4*i))).kind == 6)=false:=by rcases hk with hk | hk <;> simp [hk]
 obtain ⟨t10,t11⟩:(((kd (q (4*i))).kind == 10)=true∨(((kd (q (4*i))).kind == 10)=false∧((kd (q (4*i))).kind == 11)=true))∧True:=by rcases hk with hk | hk <;> simp [hk]
 clear hk t11
 have HP:∀ w1,w.grownBy w1 none→Row w1 .i64 b off (4*n) q:=fun w1 hg=>h.keep hg (by simp)
 clear h
 rcases t10 with t10 | ⟨t10,t11⟩
 all_goals
  go_enter Tryz.func47,Tryz.ntmps47
  go_wp2_with (first | (go_at_call 48;refine (kind_at _ _).mono ?_;rintro e w1 ⟨rfl,hg1⟩;obtain ⟨x0,x1,x2,x3⟩:=box_four hg1 (by simp);have hz:=alloc_lt hg1;have G1:=grown_alloc (grown_trans (grown_alloc (grown_refl w none) (.cells #[.int .i64 (q (4*i)),.int .i64 (q (4*i+1)),.int .i64 (q (4*i+2)),.int .i64 (q (4*i+3))] 63)) hg1) (.cells #[.int .i64 (kd (q (4*i))).code,.int .i64 (kd (q (4*i))).kind,.int .i64 (kd (q (4*i))).n,.bool (kd (q (4*i))).x,.int .i64 (kd (q (4*i))).o] 84)) | (go_at_call 79;refine (next_any _ _ _ _ _ q _ hi hn hq (HP _ G1)).mono ?_;rintro e w2 ⟨ao,cc,rfl,hs,hg2⟩))
  go_loop [9] (fun v=>∃ k:Nat,k≤(nx q i).length∧v=.int .i64 k∧Hid (∀ j,j<k→(nx q i).getD j 0<(n:Int))) (fun v=>(nx q i).length-(intOf v).toNat)
  case atStart=>exact ⟨0,Nat.zero_le _,rfl,fun j hj=>by omega⟩
  case round =>
   obtain ⟨k,hk,rfl,hno⟩:=hrel
   by_cases hlt:k<(nx q i).length
   ·obtain ⟨Y,yoff,rfl,hR⟩:=hs (by omega)
    obtain ⟨y,hy⟩:∃ y,y=(nx q i).getD k 0:=⟨_,rfl⟩
    have cy:w2.cell? ⟨Y,yoff+k,none⟩=some (.int .i64 y):=by rw [hy];exact hR k hlt
    have HY:Hid (y=(nx q i).getD k 0):=hy
    clear hR hy hs
    by_cases hge:(n:Int)≤y
    ·go_wp2
     go_ret
     refine ⟨ret_int ?_,grown_trans G1 hg2⟩
     rw [HE.out,if_pos (any_le _ _ k hlt (by rw [← HY.out];exact hge))]
    ·have t1:¬ (n:Int)≤y:=hge
     go_wp2
     go_round
     case rel=>exact ⟨k+1,by omega,by go_num,fun j hj=>by
      by_cases e:j=k
      ·subst e;rw [← HY.out];omega
      ·exact hno.out j (by omega)⟩
     case measure=>simp [intOf];omega
   ·have hke:k=(nx q i).length:=by omega
    subst hke
    go_wp2
    go_ret
    refine ⟨ret_int ?_,grown_trans G1 hg2⟩
    rw [HE.out,any_lt _ _ hno.out]
    rfl
theorem wrong_any (b off n c i:Nat) (q:Nat→Int) (w:World) (hi:i<n) (hn:n≤1000000) (hq:Num q) (h:Row w .i64 b off (4*n) q) :
  Calls Tryz.prog 47 #[.slice (some ⟨b,off,none⟩) n c,.int .i64 i] w fun e w'=>e=.returned (.int .i64 (wrong q n i))∧w.grownBy w' none:=by
 cases hok:okk (q (4*i)) with
 | false=>exact wrong_bad b off n c i q w hi hn hq h hok
 | true =>
  by_cases k8:(kd (q (4*i))).kind=8
  ·cases hx:(kd (q (4*i))).x with
   | true=>exact wrong_sumx b off n c i q w hi hn hq h hok k8 hx
   | false =>
    by_cases o3:(kd (q (4*i))).o=3
    ·by_cases hK:q (4*i+3)=0
     ·exact wrong_div3z b off n c i q w hi hn hq h hok k8 hx o3 hK
     ·exact wrong_div3 b off n c i q w hi hn hq h hok k8 hx o3 hK
    by_cases o4:(kd (q (4*i))).o=4
    ·by_cases hK:q (4*i+3)=0
     ·exact wrong_div4z b off n c i q w hi hn hq h hok k8 hx o4 hK
     ·exact wrong_div4 b off n c i q w hi hn hq h hok k8 hx o4 hK
    by_cases o8:8≤(kd (q (4*i))).o
    ·by_cases hK:31<q (4*i+3)
     ·exact wrong_shf b off n c i q w hi hn hq h hok k8 hx o3 o4 o8 hK
     ·exact wrong_sho b off n c i q w hi hn hq h hok k8 hx o3 o4 o8 hK
    ·exact wrong_sum b off n c i q w hi hn hq h hok k8 hx o3 o4 o8
  by_cases k3:(kd (q (4*i))).kind=3
  ·by_cases hK:16≤q (4*i+3)
   ·exact wrong_cell3b b off n c i q w hi hn hq h hok k3 hK
   ·exact wrong_cell3 b off n c i q w hi hn hq h hok k3 hK
  by_cases k6:(kd (q (4*i))).kind=6
  ·by_cases hK:16≤q (4*i+3)
   ·exact wrong_cell6b b off n c i q w hi hn hq h hok k6 hK
   ·exact wrong_cell6 b off n c i q w hi hn hq h hok k6 hK
  by_cases k10:(kd (q (4*i))).kind=10
  ·exact wrong_jump b off n c i q w hi hn hq h hok (Or.inl k10)
  by_cases k11:(kd (q (4*i))).kind=11
  ·exact wrong_jump b off n c i q w hi hn hq h hok (Or.inr k11)
  ·exact wrong_plain b off n c i q w hi hn hq h hok k8 k3 k6 k10 k11
end Go.Proofs.YthbcfepbkkbjiaaGreatDoor
namespace Go.Proofs.YthbcfepbkkbjiaaGreatDoor
open Go.RowKit
def bset (f:Nat→Bool) (l:List Int) (t:Nat):Nat→Bool:=fun j=>f j || (l.take t).any (fun x=>x == (j:Int))
def there (q:Nat→Int) (cell:Int):Nat→Nat→Bool
 | 0=>fun j=>j == 0
 | i+1=>if there q cell i i=true∧¬ ((kd (q (4*i))).kind=6∧q (4*i+3)=cell) then bset (there q cell i) (nx q i) (nx q i).length else there q cell i
theorem bset_zero (f:Nat→Bool) (l:List Int) (j:Nat):bset f l 0 j=f j:=by simp [bset]
theorem bset_succ (f:Nat→Bool) (l:List Int) (t m j:Nat) (ht:t<l.length) (hm:l.getD t 0=(m:Int)):(if j=m then true else bset f l t j)=bset f l (t+1) j:=by
 unfold bset
 rw [List.take_succ_eq_append_getElem ht,List.any_append]
 have e:l[t]=(m:Int):=by simpa [List.getD,ht] using hm
 simp only [List.any_cons,List.any_nil,Bool.or_false,e]
 by_cases h:j=m
 ·subst h;simp
 ·have:((m:Int) == (j:Int))=false:=by simp;omega
  rw [if_neg h,this];simp
theorem Tryz.infoBool:(Tryz.prog.info? 4).map (fun i=>(i.zero,i.size,i.bytes))=some (some (.bool false),1,1):=by kernel_rfl
theorem Blk.full {w:World} {b:Nat} {e:TypeId} {N j:Nat} {f:Nat→Value} {v:Value} (h:Blk w b e N N f) (hc:w.cell? ⟨b,j,none⟩=some v):v=f j:=by
 obtain ⟨c,h1,h2,_,h4⟩:=h
 rw [cell_of_row w b j c e (0,0) h1] at hc
 have hj:j<N:=by
  have:=(Array.getElem?_eq_some_iff.1 hc).1
  omega
 rw [h4 j hj] at hc
 exact (Option.some.inj hc).symm
def bools (f:Nat→Bool):Nat→Value:=fun j=>.bool (f j)
set_option maxHeartbeats 2000000 in
theorem unwritten_any (b off n c to:Nat) (cell:Int) (q:Nat→Int) (w:World) (hto:to<n) (hn:n≤1000000) (hq:Num q) (h:Row w .i64 b off (4*n) q) (hj:∀ i,i<n→∀ t,t<(nx q i).length→0≤(nx q i).getD t 0∧(nx q i).getD t 0≤n) :
  Calls Tryz.prog 49 #[.slice (some ⟨b,off,none⟩) n c,.int .i64 to,.int .i64 cell] w fun e w'=>e=.returned (.bool (there q cell to to))∧w.grownBy w' none:=by
 obtain ⟨i0,hi,hz0,hz1,hz2⟩:=info_parts Tryz.infoBool
 go_enter Tryz.func49,Tryz.ntmps49
 go_wp2_with (at_make;refine wpList_make_blk _ rfl _ _ 144 rfl 4 i0 (.bool false) 1 Tryz.underlying144 hi hz0 hz1 _ _ _ _ (n+1) rfl rfl (by omega) (by omega) (by rw [hz2];omega) (by unfold maxLen;omega) (.bool false) (by intro j;simp [Value.cells,Nat.mod_one]) ?_;intro w1 hb1 hg1;have e0:=hb1.cell (j:=0) (by omega);have f0:=hb1.frozen 0;have hb2:=hb1.set' (j:=0) (by omega) (.bool true))
 go_loopw [8] (fun i wr=>∃ k:Nat,k≤to∧i=.int .i64 k∧w.grownBy wr none∧Blk wr w.heap.size 4 (n+1) (n+1) (bools (there q cell k))) (fun i _=>to-(intOf i).toNat)
 case atStart=>exact ⟨0,Nat.zero_le _,rfl,grown_set hg1 (Nat.le_refl _) _,by simpa using hb2.congr (f':=bools (there q cell 0)) fun j _=>by unfold bools there;by_cases e:j=0 <;> simp [e]⟩
 case round =>
  obtain ⟨k,hk,rfl,hgr,hbk⟩:=hrel
  clear hb1 hb2 hg1 e0 f0
  by_cases hlt:k<to
  ·obtain ⟨c0,c1,c2,c3⟩:=(h.keep hgr (by simp)).insn (show k<n by omega)
   have ck:=hbk.cell (j:=k) (by omega)
   unfold bools at ck
   cases hth:there q cell k k with
   | false =>
    rw [hth] at ck
    have HT:Hid (there q cell (k+1)=there q cell k):=by unfold Hid;rw [there,if_neg (by simp [hth])]
    go_wp2_with (go_at_call 48;refine (kind_at _ _).mono ?_;rintro e w1 ⟨rfl,hg1⟩;have hb1:=hbk.keep hg1 (by simp);have ck1:=hb1.cell (j:=k) (by omega);unfold bools at ck1;rw [hth] at ck1;have hz1':=hb1.lt)
    go_roundw
    case rel=>exact ⟨k+1,by omega,by go_num,grown_alloc (grown_trans hgr hg1) _,by rw [HT.out];exact hb1.alloc _⟩
    case measure=>simp [intOf];omega
   | true =>
    rw [hth] at ck
    have blo:b<wr.heap.size:=World.block_lt_of_cell? wr _ c3
    obtain ⟨wo,hwo⟩:∃ x,x=wr:=⟨_,rfl⟩
    subst hwo
    by_cases hst:(kd (q (4*k))).kind=6∧q (4*k+3)=cell
    ·have t6:((kd (q (4*k))).kind == 6)=true:=by simp [hst.1]
     have te:(q (4*k+3) == cell)=true:=by simp [hst.2]
     have HT:Hid (there q cell (k+1)=there q cell k):=by unfold Hid;rw [there,if_neg (by simp [hth,hst])]
     clear hst
     go_wp2_with ((go_at_call 48;refine (kind_at _ _).mono ?_;rintro e w1 ⟨rfl,hg1⟩;have hb1:=hbk.keep hg1 (by simp);have ck1:=hb1.cell (j:=k) (by omega);unfold bools at ck1;rw [hth] at ck1;have hz1':=hb1.lt;have c3':=hg1.cell c3 (by simp);have blt:=World.block_lt_of_cell? w1 _ c3';have G1:=grown_alloc (grown_trans hgr hg1) (.cells #[.int .i64 (kd (q (4*k))).code,.int .i64 (kd (q (4*k))).kind,.int .i64 (kd (q (4*k))).n,.bool (kd (q (4*k))).x,.int .i64 (kd (q (4*k))).o] 84)))
     go_roundw
     case rel=>exact ⟨k+1,by omega,by go_num,G1,by rw [HT.out];exact hb1.alloc _⟩
     case measure=>simp [intOf];omega
    have HT:Hid (there q cell (k+1)=bset (there q cell k) (nx q k) (nx q k).length):=by unfold Hid;rw [there,if_pos ⟨hth,hst⟩]
    have hcase:((kd (q (4*k))).kind == 6)=false∨(((kd (q (4*k))).kind == 6)=true∧(q (4*k+3) == cell)=false):=by
     by_cases e:(kd (q (4*k))).kind=6
     ·exact Or.inr ⟨by simp [e],by simpa using fun e2=>hst ⟨e,e2⟩⟩
     ·exact Or.inl (by simp [e])
    clear hst
    have HL:=nx_len q k
    rcases hcase with t6 | ⟨t6,te⟩
    all_goals
     go_wp2_with (first | (go_at_call 48;refine (kind_at _ _).mono ?_;rintro e w1 ⟨rfl,hg1⟩;have hb1:=hbk.keep hg1 (by simp);have ck1:=hb1.cell (j:=k) (by omega);unfold bools at ck1;rw [hth] at ck1;have hz1':=hb1.lt;have c3':=hg1.cell c3 (by simp);have blt:=World.block_lt_of_cell? w1 _ c3';have G1:=grown_alloc (grown_trans hgr hg1) (.cells #[.int .i64 (kd (q (4*k))).code,.int .i64 (kd (q (4*k))).kind,.int .i64 (kd (q (4*k))).n,.bool (kd (q (4*k))).x,.int .i64 (kd (q (4*k))).o] 84)) | (go_at_call 79;refine (next_any _ _ _ _ _ q _ (by omega) hn hq (h.keep G1 (by simp))).mono ?_;rintro e w2 ⟨ao,cc,rfl,hs,hg2⟩;have hb2:=(hb1.alloc _).keep hg2 (by simp);have G2:=grown_trans G1 hg2))
     go_loopw [12] (fun v wr=>∃ t:Nat,t≤(nx q k).length∧v=.int .i64 t∧w2.grownBy wr (some w.heap.size)∧w.grownBy wr none∧Blk wr w.heap.size 4 (n+1) (n+1) (bools (bset (there q cell k) (nx q k) t))) (fun v _=>(nx q k).length-(intOf v).toNat)
     case atStart=>exact ⟨0,Nat.zero_le _,rfl,grown_refl _ _,G2,hb2.congr fun j _=>by unfold bools;rw [bset_zero]⟩
     case round =>
      obtain ⟨t,ht,rfl,hgq,hgw,hbt⟩:=hrel
      by_cases hlt2:t<(nx q k).length
      ·obtain ⟨Y,yoff,rfl,hR⟩:=hs (by omega)
       have hjt:=hj k (by omega) t hlt2
       obtain ⟨m,hm⟩:∃ m:Nat,(nx q k).getD t 0=(m:Int):=⟨((nx q k).getD t 0).toNat,by omega⟩
       have hYne:Y≠w.heap.size:=fun e=>by
        subst e
        have:=hb2.full (hR t hlt2)
        cases this
       have cy:wr.cell? ⟨Y,yoff+t,none⟩=some (.int .i64 (m:Int)):=by
        have:=hgq.cell (hR t hlt2) (by simpa using hYne)
        rw [show (fun j=>(nx q k).getD j 0) t=(m:Int) from hm] at this
        exact this
       have hmn:m<n+1:=by omega
       have em:=hbt.cell (j:=m) (by omega)
       have fm:=hbt.frozen m
       have R:=hbt.set' (j:=m) (by omega) (.bool true)
       have HM:Hid ((nx q k).getD t 0=(m:Int)):=hm
       clear hR hs hm hjt c0 c1 c2 c3 c3' ck ck1
       go_wp2
       go_roundw
       case rel=>exact ⟨t+1,by omega,by go_num,grown_trans hgq (grown_setCell _ _ _),grown_set hgw (Nat.le_refl _) _,R.congr fun j _=>by unfold bools;rw [← bset_succ _ _ t m j hlt2 HM.out];by_cases e:j=m <;> simp [e]⟩
       case measure=>simp [intOf];omega
      ·have hte:t=(nx q k).length:=by omega
       subst hte
       clear c0 c1 c2 c3 c3' ck ck1
       go_wp2
       go_roundw
       case rel=>exact ⟨k+1,by omega,by go_num,hgw,by rw [HT.out];exact hbt⟩
       case measure=>simp [intOf];omega
  ·have:k=to:=by omega
   subst this
   have ck:=hbk.cell (j:=k) (by omega)
   unfold bools at ck
   go_wp2
   go_ret
   exact ⟨rfl,hgr⟩
end Go.Proofs.YthbcfepbkkbjiaaGreatDoor
namespace Go.Proofs.YthbcfepbkkbjiaaGreatDoor
open Go.RowKit
def bad (q:Nat→Int) (i:Nat):Prop:=(kd (q (4*i))).kind=3∧there q (q (4*i+3)) i i=true
def Spec (q:Nat→Int) (n:Nat) (E:Int) (p:Nat):Prop :=
 (p<n∧wrong q n p≠0∧(∀ j,j<p→wrong q n j=0)∧E=wrong q n p) ∨
 ((∀ j,j<n→wrong q n j=0) ∧
  (((kd (q (4*(n-1)))).kind≠12∧E=7∧p=n-1) ∨
   ((kd (q (4*(n-1)))).kind=12∧((p<n∧bad q p∧(∀ j,j<p→¬ bad q j)∧E=8)∨((∀ j,j<n→¬ bad q j)∧E=0∧p=0)))))
theorem Spec.one {q:Nat→Int} {n:Nat} {E E':Int} {p p':Nat} (h:Spec q n E p) (h':Spec q n E' p'):E=E'∧p=p':=by
 rcases h with ⟨a1,a2,a3,a4⟩ | ⟨a1,a2⟩
 ·rcases h' with ⟨b1,b2,b3,b4⟩ | ⟨b1,_⟩
  ·have:p=p':=by
    rcases Nat.lt_trichotomy p p' with h | h | h
    ·exact absurd (b3 p h) a2
    ·exact h
    ·exact absurd (a3 p' h) b2
   subst this
   exact ⟨a4.trans b4.symm,rfl⟩
  ·exact absurd (b1 p a1) a2
 ·rcases h' with ⟨b1,b2,_⟩ | ⟨b1,b2⟩
  ·exact absurd (a1 p' b1) b2
  ·rcases a2 with ⟨c1,c2,c3⟩ | ⟨c1,c2⟩
   ·rcases b2 with ⟨d1,d2,d3⟩ | ⟨d1,_⟩
    ·exact ⟨c2.trans d2.symm,c3.trans d3.symm⟩
    ·exact absurd d1 c1
   ·rcases b2 with ⟨d1,_⟩ | ⟨d1,d2⟩
    ·exact absurd c1 d1
    ·rcases c2 with ⟨e1,e2,e3,e4⟩ | ⟨e1,e2,e3⟩
     ·rcases d2 with ⟨f1,f2,f3,f4⟩ | ⟨f1,_⟩
      ·have:p=p':=by
        rcases Nat.lt_trichotomy p p' with h | h | h
        ·exact absurd e2 (f3 p h)
        ·exact h
        ·exact absurd f2 (e3 p' h)
       exact ⟨e4.trans f4.symm,this⟩
      ·exact absurd e2 (f1 p e1)
     ·rcases d2 with ⟨f1,f2,_⟩ | ⟨f1,f2,f3⟩
      ·exact absurd f2 (e1 p' f1)
      ·exact ⟨e2.trans f2.symm,e3.trans f3.symm⟩
def Chk (g:Nat→Int) (n:Nat) (E:Int) (p:Nat):Prop:=(badSize n∧E=1∧p=0)∨(¬ badSize n∧Spec (decs g) (n/8) E p)
theorem Chk.one {g:Nat→Int} {n:Nat} {E E':Int} {p p':Nat} (h:Chk g n E p) (h':Chk g n E' p'):E=E'∧p=p':=by
 rcases h with ⟨a1,a2,a3⟩ | ⟨a1,a2⟩
 ·rcases h' with ⟨_,b2,b3⟩ | ⟨b1,_⟩
  ·exact ⟨a2.trans b2.symm,a3.trans b3.symm⟩
  ·exact absurd a1 b1
 ·rcases h' with ⟨b1,_⟩ | ⟨_,b2⟩
  ·exact absurd b1 a1
  ·exact a2.one b2
theorem decs_num {g:Nat→Int} (hg:Oct g):Num (decs g):=fun j=>by
 have h:∀ i,0≤g i∧g i≤255:=hg
 unfold decs num2 num4
 have a0:=h (8*(j/4))
 have a1:=h (8*(j/4)+1)
 have a2:=h (8*(j/4)+2)
 have a3:=h (8*(j/4)+3)
 have a4:=h (8*(j/4)+4)
 have a5:=h (8*(j/4)+4+1)
 have a6:=h (8*(j/4)+4+2)
 have a7:=h (8*(j/4)+4+3)
 split
 ·omega
 ·split
  ·omega
  ·split
   ·omega
   ·omega
theorem nx_in {q:Nat→Int} {n:Nat} (hq:Num q) (h:∀ j,j<n→wrong q n j=0):∀ i,i<n→∀ t,t<(nx q i).length→0≤(nx q i).getD t 0∧(nx q i).getD t 0≤n:=by
 intro i hi t ht
 have hw:=h i hi
 have z1:=hq (4*i+1)
 have z2:=hq (4*i+2)
 have z3:=hq (4*i+3)
 have pos:0≤(nx q i).getD t 0:=by
  revert ht
  unfold nx
  split
  ·intro ht;simp at ht
  ·split
   ·intro ht
    match t,ht with
    | 0,_=>simp;omega
   ·split
    ·intro ht
     match t,ht with
     | 0,_=>simp;omega
     | 1,_=>simp;omega
    ·intro ht
     match t,ht with
     | 0,_=>simp;omega
 refine ⟨pos,?_⟩
 by_cases hk:(kd (q (4*i))).kind=10∨(kd (q (4*i))).kind=11
 ·by_cases hge:(n:Int)≤(nx q i).getD t 0
  ·exfalso
   have ha:=any_le (nx q i) n t ht hge
   unfold wrong wrg at hw
   have hne8:¬ (kd (q (4*i))).kind=8:=by rcases hk with hk | hk <;> simp [hk]
   have hne3:¬ ((kd (q (4*i))).kind=3∨(kd (q (4*i))).kind=6):=by rcases hk with hk | hk <;> simp [hk]
   by_cases hok:okk (q (4*i))=false
   ·rw [if_pos hok] at hw;omega
   ·rw [if_neg hok,if_neg (by simp [hne8]),if_neg (by simp [hne8]),if_neg (by simp [hne3]),if_pos ⟨hk,ha⟩] at hw
    omega
  ·omega
 ·revert ht
  unfold nx
  split
  ·intro ht;simp at ht
  ·split
   ·exact absurd (Or.inl ‹_›) hk
   ·split
    ·exact absurd (Or.inr ‹_›) hk
    ·intro ht
     match t,ht with
     | 0,_=>simp;omega
end Go.Proofs.YthbcfepbkkbjiaaGreatDoor
namespace Go.Proofs.YthbcfepbkkbjiaaGreatDoor
open Go.RowKit
structure Flt where
 pc:Nat
 a:Int
 x:Int
 cs:Nat→Int
structure Fres where
 S:Flt
 v:Int
 done:Bool
def flt (q:Nat→Int) (p:Nat→Int) (m:Nat) (S:Flt):Fres :=
 let r:=kd (q (4*S.pc))
 let jt:=q (4*S.pc+1)
 let jf:=q (4*S.pc+2)
 let k:=q (4*S.pc+3)
 let y:=if r.x=true then S.x else k
 if r.kind=1 then
  if ((if r.x=true then k+S.x else k)).toNat+r.n.toNat≤m then ⟨⟨S.pc+1,be p ((if r.x=true then k+S.x else k)).toNat r.n.toNat,S.x,S.cs⟩,0,false⟩ else ⟨S,0,true⟩
 else if r.kind=5 then
  if k.toNat+1≤m then ⟨⟨S.pc+1,S.a,p k.toNat%16*4,S.cs⟩,0,false⟩ else ⟨S,0,true⟩
 else if r.kind=2 then if r.x=true then ⟨⟨S.pc+1,S.a,k,S.cs⟩,0,false⟩ else ⟨⟨S.pc+1,k,S.x,S.cs⟩,0,false⟩
 else if r.kind=3 then if r.x=true then ⟨⟨S.pc+1,S.a,S.cs k.toNat,S.cs⟩,0,false⟩ else ⟨⟨S.pc+1,S.cs k.toNat,S.x,S.cs⟩,0,false⟩
 else if r.kind=4 then if r.x=true then ⟨⟨S.pc+1,S.a,m,S.cs⟩,0,false⟩ else ⟨⟨S.pc+1,m,S.x,S.cs⟩,0,false⟩
 else if r.kind=6 then ⟨⟨S.pc+1,S.a,S.x,upd S.cs k.toNat (if r.x=true then S.x else S.a)⟩,0,false⟩
 else if r.kind=7 then if r.x=true then ⟨⟨S.pc+1,S.a,S.a,S.cs⟩,0,false⟩ else ⟨⟨S.pc+1,S.x,S.x,S.cs⟩,0,false⟩
 else if r.kind=8 then if div0 r.o y=true then ⟨S,0,true⟩ else ⟨⟨S.pc+1,opr r.o S.a y,S.x,S.cs⟩,0,false⟩
 else if r.kind=9 then ⟨⟨S.pc+1,(-S.a)%4294967296,S.x,S.cs⟩,0,false⟩
 else if r.kind=10 then ⟨⟨S.pc+1+k.toNat,S.a,S.x,S.cs⟩,0,false⟩
 else if r.kind=11 then ⟨⟨S.pc+1+(if askv r.o S.a y=true then jt.toNat else jf.toNat),S.a,S.x,S.cs⟩,0,false⟩
 else ⟨S,if r.x=true then S.a else k,true⟩
def runF (q:Nat→Int) (p:Nat→Int) (m:Nat):Nat→Flt→Int
 | 0,_=>0
 | f+1,S=>if (flt q p m S).done=true then (flt q p m S).v else runF q p m f (flt q p m S).S
structure Good (q:Nat→Int) (n:Nat):Prop where
 num:Num q
 ok:∀ j,j<n→wrong q n j=0
 last:(kd (q (4*(n-1)))).kind=12
 pos:1≤n
structure FInv (n:Nat) (S:Flt):Prop where
 pc:S.pc<n
 a:U32 S.a
 x:U32 S.x
 cs:∀ j,U32 (S.cs j)
theorem num_u32 {q:Nat→Int} (h:Num q) (j:Nat):U32 (q j):=⟨(h j).1,by have:=(h j).2;omega⟩
theorem Good.at {q:Nat→Int} {n:Nat} (h:Good q n) {i:Nat} (hi:i<n) :
  okk (q (4*i))=true∧(((kd (q (4*i))).kind=3∨(kd (q (4*i))).kind=6)→q (4*i+3)<16) ∧
  ((kd (q (4*i))).kind=10→(i:Int)+1+q (4*i+3)<n)∧((kd (q (4*i))).kind=11→(i:Int)+1+q (4*i+1)<n∧(i:Int)+1+q (4*i+2)<n) ∧
  ((kd (q (4*i))).kind≠12→i+1<n):=by
 have hw:=h.ok i hi
 unfold wrong wrg at hw
 have hok:okk (q (4*i))=true:=by
  cases e:okk (q (4*i)) with
  | true=>rfl
  | false=>rw [if_pos e] at hw;omega
 refine ⟨hok,fun hk=>?_,fun hk=>?_,fun hk=>?_,fun hk=>?_⟩
 ·by_cases hlt:q (4*i+3)<16
  ·exact hlt
  ·exfalso
   have h8:¬ (kd (q (4*i))).kind=8:=by rcases hk with hk | hk <;> simp [hk]
   rw [if_neg (by simp [hok]),if_neg (by simp [h8]),if_neg (by simp [h8]),if_pos ⟨hk,by omega⟩] at hw
   omega
 ·by_cases hlt:(i:Int)+1+q (4*i+3)<n
  ·exact hlt
  ·exfalso
   have hn:nx q i=[(i:Int)+1+q (4*i+3)]:=by unfold nx;simp [hk]
   rw [if_neg (by simp [hok]),if_neg (by simp [hk]),if_neg (by simp [hk]),if_neg (by simp [hk]),if_pos ⟨Or.inl hk,by rw [hn];simp;omega⟩] at hw
   omega
 ·by_cases hlt:(i:Int)+1+q (4*i+1)<n∧(i:Int)+1+q (4*i+2)<n
  ·exact hlt
  ·exfalso
   have hn:nx q i=[(i:Int)+1+q (4*i+1),(i:Int)+1+q (4*i+2)]:=by unfold nx;simp [hk]
   rw [if_neg (by simp [hok]),if_neg (by simp [hk]),if_neg (by simp [hk]),if_neg (by simp [hk]),if_pos ⟨Or.inr hk,by rw [hn];simp;omega⟩] at hw
   omega
 ·by_cases e:i=n-1
  ·subst e;exact absurd h.last hk
  ·omega
theorem kd_range (C:Int) (h:okk C=true):1≤(kd C).kind∧(kd C).kind≤12∧((kd C).kind=1→(kd C).n=1∨(kd C).n=2∨(kd C).n=4)∧((kd C).kind=8→0≤(kd C).o∧(kd C).o≤9)∧((kd C).kind=11→0≤(kd C).o∧(kd C).o≤3):=by
 have:=kd_all (fun r=>(r.cls != 0)=true→1≤r.kind∧r.kind≤12∧(r.kind=1→r.n=1∨r.n=2∨r.n=4)∧(r.kind=8→0≤r.o∧r.o≤9)∧(r.kind=11→0≤r.o∧r.o≤3)) (by decide) C (by simp)
 exact this h
theorem flt_inv {q:Nat→Int} {n:Nat} {p:Nat→Int} {m:Nat} {S:Flt} (h:Good q n) (hp:Oct p) (hm:m≤2000) (hI:FInv n S) (hd:(flt q p m S).done=false) :
  FInv n (flt q p m S).S∧S.pc+1≤(flt q p m S).S.pc:=by
 obtain ⟨i1,i2,i3,i4⟩:=hI
 obtain ⟨g1,g2,g3,g4,g5⟩:=h.at i1
 obtain ⟨r1,r2,r3,r4,r5⟩:=kd_range _ g1
 have z1:=h.num (4*S.pc+1)
 have z2:=h.num (4*S.pc+2)
 have z3:=h.num (4*S.pc+3)
 have u3:=num_u32 h.num (4*S.pc+3)
 have um:U32 (m:Int):=⟨by omega,by omega⟩
 unfold flt at hd ⊢
 dsimp only at hd ⊢
 generalize kd (q (4*S.pc))=r at *
 by_cases e1:r.kind=1
 ·rw [if_pos e1] at hd ⊢
  generalize (if r.x=true then q (4*S.pc+3)+S.x else q (4*S.pc+3)).toNat=f at *
  by_cases hf:f+r.n.toNat≤m
  ·rw [if_pos hf]
   exact ⟨⟨g5 (by omega),be_u32 hp _ _ (by rcases r3 e1 with h | h | h <;> rw [h] <;> decide),i3,i4⟩,Nat.le_refl _⟩
  ·rw [if_neg hf] at hd;cases hd
 rw [if_neg e1] at hd ⊢
 by_cases e5:r.kind=5
 ·rw [if_pos e5] at hd ⊢
  split at hd
  ·rename_i hf
   rw [if_pos hf]
   exact ⟨⟨g5 (by omega),i2,⟨by dsimp only;omega,by dsimp only;omega⟩,i4⟩,Nat.le_refl _⟩
  ·cases hd
 rw [if_neg e5] at hd ⊢
 by_cases e2:r.kind=2
 ·rw [if_pos e2] at hd ⊢
  split
  ·exact ⟨⟨g5 (by omega),i2,u3,i4⟩,Nat.le_refl _⟩
  ·exact ⟨⟨g5 (by omega),u3,i3,i4⟩,Nat.le_refl _⟩
 rw [if_neg e2] at hd ⊢
 by_cases e3:r.kind=3
 ·rw [if_pos e3] at hd ⊢
  split
  ·exact ⟨⟨g5 (by omega),i2,i4 _,i4⟩,Nat.le_refl _⟩
  ·exact ⟨⟨g5 (by omega),i4 _,i3,i4⟩,Nat.le_refl _⟩
 rw [if_neg e3] at hd ⊢
 by_cases e4:r.kind=4
 ·rw [if_pos e4] at hd ⊢
  split
  ·exact ⟨⟨g5 (by omega),i2,um,i4⟩,Nat.le_refl _⟩
  ·exact ⟨⟨g5 (by omega),um,i3,i4⟩,Nat.le_refl _⟩
 rw [if_neg e4] at hd ⊢
 by_cases e6:r.kind=6
 ·rw [if_pos e6] at hd ⊢
  exact ⟨⟨g5 (by omega),i2,i3,upd_all U32 i4 (by split <;> assumption)⟩,Nat.le_refl _⟩
 rw [if_neg e6] at hd ⊢
 by_cases e7:r.kind=7
 ·rw [if_pos e7] at hd ⊢
  split
  ·exact ⟨⟨g5 (by omega),i2,i2,i4⟩,Nat.le_refl _⟩
  ·exact ⟨⟨g5 (by omega),i3,i3,i4⟩,Nat.le_refl _⟩
 rw [if_neg e7] at hd ⊢
 by_cases e8:r.kind=8
 ·rw [if_pos e8] at hd ⊢
  have uy:U32 (if r.x=true then S.x else q (4*S.pc+3)):=by split <;> assumption
  generalize (if r.x=true then S.x else q (4*S.pc+3))=y at *
  by_cases hf:div0 r.o y=true
  ·rw [if_pos hf] at hd;cases hd
  ·rw [if_neg hf]
   exact ⟨⟨g5 (by omega),opr_u32 i2 uy,i3,i4⟩,Nat.le_refl _⟩
 rw [if_neg e8] at hd ⊢
 by_cases e9:r.kind=9
 ·rw [if_pos e9] at hd ⊢
  exact ⟨⟨g5 (by omega),⟨by dsimp only;omega,by dsimp only;omega⟩,i3,i4⟩,Nat.le_refl _⟩
 rw [if_neg e9] at hd ⊢
 by_cases e10:r.kind=10
 ·rw [if_pos e10] at hd ⊢
  have:=g3 e10
  exact ⟨⟨by dsimp only;omega,i2,i3,i4⟩,by dsimp only;omega⟩
 rw [if_neg e10] at hd ⊢
 by_cases e11:r.kind=11
 ·rw [if_pos e11] at hd ⊢
  have:=g4 e11
  generalize (if r.x=true then S.x else q (4*S.pc+3))=y at *
  refine ⟨⟨?_,i2,i3,i4⟩,by dsimp only;omega⟩
  dsimp only
  by_cases hf:askv r.o S.a y=true
  ·rw [if_pos hf];omega
  ·rw [if_neg hf];omega
 rw [if_neg e11] at hd
 cases hd
end Go.Proofs.YthbcfepbkkbjiaaGreatDoor
