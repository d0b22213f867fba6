import Derived.Test.YthbcfepbkkbjiaaGreatDoorIR3
import Derived.Test.YthbcfepbkkbjiaaGreatDoorIR7
import Derived.Test.YthbcfepbkkbjiaaGreatDoorI4
set_option linter.unusedSimpArgs false
set_option linter.unusedVariables false
set_option maxRecDepth 100000
namespace Go.Proofs.YthbcfepbkkbjiaaGreatDoor
open Go.RowKit
theorem Tryz.infoIntR:(Tryz.prog.info? 3).map (fun i=>(i.zero,i.size,i.bytes))=some (some (.int .i64 0),1,8):=by kernel_rfl
def FPost (w0 w':World) (T CB:Nat) (R:Fres) (e:Ending):Prop :=
 (R.done=true∧e=.returned (.tuple #[.int .i64 R.v,.bool true])∧w0.grownBy w' none)∨(R.done=false∧e=.returned (.tuple #[.int .i64 0,.bool false])∧RS w0 w' T CB R.S)
theorem FPost.go {w0 w':World} {T CB:Nat} {R:Fres} {S:Flt} {v:Int} (hE:R=⟨S,v,false⟩) (h:RS w0 w' T CB S):FPost w0 w' T CB R (.returned (.tuple #[.int .i64 0,.bool false])):=by
 subst hE;exact Or.inr ⟨rfl,rfl,h⟩
theorem FPost.fin {w0 w':World} {T CB:Nat} {R:Fres} {S:Flt} {v:Int} (hE:R=⟨S,v,true⟩) (h:w0.grownBy w' none):FPost w0 w' T CB R (.returned (.tuple #[.int .i64 v,.bool true])):=by
 subst hE;exact Or.inl ⟨rfl,rfl,h⟩
theorem kd_five (C:Int) (h:(kd C).kind=5):(kd C).x=false:=kd_all (fun r=>r.kind=5→r.x=false) (by decide) C (by simp) h
set_option maxHeartbeats 2000000 in
theorem rst_any (w0 w:World) (T CB lb loff n lc:Nat) (q:Nat→Int) (po:Option Addr) (m pcap:Nat) (p:Nat→Int) (S:Flt) (h:Fsp w0 w T CB lb loff n q po m p S) :
  Calls Tryz.prog 75 #[.pointer (some ⟨T,0,none⟩),.slice (some ⟨lb,loff,none⟩) n lc,.slice po m pcap] w fun e w'=>FPost w0 w' T CB (flt q p m S) e:=by
 obtain ⟨g1,_⟩:=h.good.at h.inv.pc
 obtain ⟨r1,r2,_⟩:=kd_range _ g1
 have hk:(kd (q (4*S.pc))).kind=1∨(kd (q (4*S.pc))).kind=2∨(kd (q (4*S.pc))).kind=3∨(kd (q (4*S.pc))).kind=4∨(kd (q (4*S.pc))).kind=5∨(kd (q (4*S.pc))).kind=6∨(kd (q (4*S.pc))).kind=7∨(kd (q (4*S.pc))).kind=8∨(kd (q (4*S.pc))).kind=9∨(kd (q (4*S.pc))).kind=10∨(kd (q (4*S.pc))).kind=11∨(kd (q (4*S.pc))).kind=12:=by omega
 clear g1 r1 r2
 rcases hk with hk | hk | hk | hk | hk | hk | hk | hk | hk | hk | hk | hk
 ·cases hx:(kd (q (4*S.pc))).x with
  | false =>
   by_cases hq:(q (4*S.pc+3)).toNat+(kd (q (4*S.pc))).n.toNat≤m
   ·refine (rst_1fy w0 w T CB lb loff n lc q po m pcap p S h hk hx hq).mono ?_;rintro e w' ⟨rfl,hr⟩;exact .go (v:=0) (by simp only [flt,hk,hx,hq,Int.reduceEq,if_true,if_false,Bool.false_eq_true]) hr
   ·refine (rst_1fn w0 w T CB lb loff n lc q po m pcap p S h hk hx hq).mono ?_;rintro e w' ⟨rfl,hr⟩;exact .fin (S:=S) (by simp only [flt,hk,hx,hq,Int.reduceEq,if_true,if_false,Bool.false_eq_true]) hr
  | true =>
   by_cases hq:(q (4*S.pc+3)+S.x).toNat+(kd (q (4*S.pc))).n.toNat≤m
   ·refine (rst_1ty w0 w T CB lb loff n lc q po m pcap p S h hk hx hq).mono ?_;rintro e w' ⟨rfl,hr⟩;exact .go (v:=0) (by simp only [flt,hk,hx,hq,Int.reduceEq,if_true,if_false,Bool.false_eq_true]) hr
   ·refine (rst_1tn w0 w T CB lb loff n lc q po m pcap p S h hk hx hq).mono ?_;rintro e w' ⟨rfl,hr⟩;exact .fin (S:=S) (by simp only [flt,hk,hx,hq,Int.reduceEq,if_true,if_false,Bool.false_eq_true]) hr
 ·cases hx:(kd (q (4*S.pc))).x with
  | false =>
   refine (rst_2f w0 w T CB lb loff n lc q po m pcap p S h hk hx).mono ?_;rintro e w' ⟨rfl,hr⟩;exact .go (v:=0) (by simp only [flt,hk,hx,Int.reduceEq,if_true,if_false,Bool.false_eq_true]) hr
  | true =>
   refine (rst_2t w0 w T CB lb loff n lc q po m pcap p S h hk hx).mono ?_;rintro e w' ⟨rfl,hr⟩;exact .go (v:=0) (by simp only [flt,hk,hx,Int.reduceEq,if_true,if_false,Bool.false_eq_true]) hr
 ·cases hx:(kd (q (4*S.pc))).x with
  | false =>
   refine (rst_3f w0 w T CB lb loff n lc q po m pcap p S h hk hx).mono ?_;rintro e w' ⟨rfl,hr⟩;exact .go (v:=0) (by simp only [flt,hk,hx,Int.reduceEq,if_true,if_false,Bool.false_eq_true]) hr
  | true =>
   refine (rst_3t w0 w T CB lb loff n lc q po m pcap p S h hk hx).mono ?_;rintro e w' ⟨rfl,hr⟩;exact .go (v:=0) (by simp only [flt,hk,hx,Int.reduceEq,if_true,if_false,Bool.false_eq_true]) hr
 ·cases hx:(kd (q (4*S.pc))).x with
  | false =>
   refine (rst_4f w0 w T CB lb loff n lc q po m pcap p S h hk hx).mono ?_;rintro e w' ⟨rfl,hr⟩;exact .go (v:=0) (by simp only [flt,hk,hx,Int.reduceEq,if_true,if_false,Bool.false_eq_true]) hr
  | true =>
   refine (rst_4t w0 w T CB lb loff n lc q po m pcap p S h hk hx).mono ?_;rintro e w' ⟨rfl,hr⟩;exact .go (v:=0) (by simp only [flt,hk,hx,Int.reduceEq,if_true,if_false,Bool.false_eq_true]) hr
 ·have hx:=kd_five _ hk
  by_cases hq:(q (4*S.pc+3)).toNat+1≤m
  ·refine (rst_5y w0 w T CB lb loff n lc q po m pcap p S h hk hx hq).mono ?_;rintro e w' ⟨rfl,hr⟩;exact .go (v:=0) (by simp only [flt,hk,hq,Int.reduceEq,if_true,if_false,Bool.false_eq_true]) hr
  ·refine (rst_5n w0 w T CB lb loff n lc q po m pcap p S h hk hx hq).mono ?_;rintro e w' ⟨rfl,hr⟩;exact .fin (S:=S) (by simp only [flt,hk,hq,Int.reduceEq,if_true,if_false,Bool.false_eq_true]) hr
 ·cases hx:(kd (q (4*S.pc))).x with
  | false =>
   refine (rst_6f w0 w T CB lb loff n lc q po m pcap p S h hk hx).mono ?_;rintro e w' ⟨rfl,hr⟩;exact .go (v:=0) (by simp only [flt,hk,hx,Int.reduceEq,if_true,if_false,Bool.false_eq_true]) hr
  | true =>
   refine (rst_6t w0 w T CB lb loff n lc q po m pcap p S h hk hx).mono ?_;rintro e w' ⟨rfl,hr⟩;exact .go (v:=0) (by simp only [flt,hk,hx,Int.reduceEq,if_true,if_false,Bool.false_eq_true]) hr
 ·cases hx:(kd (q (4*S.pc))).x with
  | false =>
   refine (rst_7f w0 w T CB lb loff n lc q po m pcap p S h hk hx).mono ?_;rintro e w' ⟨rfl,hr⟩;exact .go (v:=0) (by simp only [flt,hk,hx,Int.reduceEq,if_true,if_false,Bool.false_eq_true]) hr
  | true =>
   refine (rst_7t w0 w T CB lb loff n lc q po m pcap p S h hk hx).mono ?_;rintro e w' ⟨rfl,hr⟩;exact .go (v:=0) (by simp only [flt,hk,hx,Int.reduceEq,if_true,if_false,Bool.false_eq_true]) hr
 ·cases hx:(kd (q (4*S.pc))).x with
  | false =>
   cases hq:div0 (kd (q (4*S.pc))).o (q (4*S.pc+3)) with
   | false=>refine (rst_8fn w0 w T CB lb loff n lc q po m pcap p S h hk hx hq).mono ?_;rintro e w' ⟨rfl,hr⟩;exact .go (v:=0) (by simp only [flt,hk,hx,hq,Int.reduceEq,if_true,if_false,Bool.false_eq_true]) hr
   | true=>refine (rst_8fz w0 w T CB lb loff n lc q po m pcap p S h hk hx hq).mono ?_;rintro e w' ⟨rfl,hr⟩;exact .fin (S:=S) (by simp only [flt,hk,hx,hq,Int.reduceEq,if_true,if_false,Bool.false_eq_true]) hr
  | true =>
   cases hq:div0 (kd (q (4*S.pc))).o S.x with
   | false=>refine (rst_8tn w0 w T CB lb loff n lc q po m pcap p S h hk hx hq).mono ?_;rintro e w' ⟨rfl,hr⟩;exact .go (v:=0) (by simp only [flt,hk,hx,hq,Int.reduceEq,if_true,if_false,Bool.false_eq_true]) hr
   | true=>refine (rst_8tz w0 w T CB lb loff n lc q po m pcap p S h hk hx hq).mono ?_;rintro e w' ⟨rfl,hr⟩;exact .fin (S:=S) (by simp only [flt,hk,hx,hq,Int.reduceEq,if_true,if_false,Bool.false_eq_true]) hr
 ·cases hx:(kd (q (4*S.pc))).x with
  | false =>
   refine (rst_9f w0 w T CB lb loff n lc q po m pcap p S h hk hx).mono ?_;rintro e w' ⟨rfl,hr⟩;exact .go (v:=0) (by simp only [flt,hk,hx,Int.reduceEq,if_true,if_false,Bool.false_eq_true]) hr
  | true =>
   refine (rst_9t w0 w T CB lb loff n lc q po m pcap p S h hk hx).mono ?_;rintro e w' ⟨rfl,hr⟩;exact .go (v:=0) (by simp only [flt,hk,hx,Int.reduceEq,if_true,if_false,Bool.false_eq_true]) hr
 ·cases hx:(kd (q (4*S.pc))).x with
  | false =>
   refine (rst_10f w0 w T CB lb loff n lc q po m pcap p S h hk hx).mono ?_;rintro e w' ⟨rfl,hr⟩;exact .go (v:=0) (by simp only [flt,hk,hx,Int.reduceEq,if_true,if_false,Bool.false_eq_true]) hr
  | true =>
   refine (rst_10t w0 w T CB lb loff n lc q po m pcap p S h hk hx).mono ?_;rintro e w' ⟨rfl,hr⟩;exact .go (v:=0) (by simp only [flt,hk,hx,Int.reduceEq,if_true,if_false,Bool.false_eq_true]) hr
 ·cases hx:(kd (q (4*S.pc))).x with
  | false =>
   cases hq:askv (kd (q (4*S.pc))).o S.a (q (4*S.pc+3)) with
   | false=>refine (rst_11fn w0 w T CB lb loff n lc q po m pcap p S h hk hx hq).mono ?_;rintro e w' ⟨rfl,hr⟩;exact .go (v:=0) (by simp only [flt,hk,hx,hq,Int.reduceEq,if_true,if_false,Bool.false_eq_true]) hr
   | true=>refine (rst_11fy w0 w T CB lb loff n lc q po m pcap p S h hk hx hq).mono ?_;rintro e w' ⟨rfl,hr⟩;exact .go (v:=0) (by simp only [flt,hk,hx,hq,Int.reduceEq,if_true,if_false,Bool.false_eq_true]) hr
  | true =>
   cases hq:askv (kd (q (4*S.pc))).o S.a S.x with
   | false=>refine (rst_11tn w0 w T CB lb loff n lc q po m pcap p S h hk hx hq).mono ?_;rintro e w' ⟨rfl,hr⟩;exact .go (v:=0) (by simp only [flt,hk,hx,hq,Int.reduceEq,if_true,if_false,Bool.false_eq_true]) hr
   | true=>refine (rst_11ty w0 w T CB lb loff n lc q po m pcap p S h hk hx hq).mono ?_;rintro e w' ⟨rfl,hr⟩;exact .go (v:=0) (by simp only [flt,hk,hx,hq,Int.reduceEq,if_true,if_false,Bool.false_eq_true]) hr
 ·cases hx:(kd (q (4*S.pc))).x with
  | false =>
   refine (rst_12f w0 w T CB lb loff n lc q po m pcap p S h hk hx).mono ?_;rintro e w' ⟨rfl,hr⟩;exact .fin (S:=S) (by simp only [flt,hk,hx,Int.reduceEq,if_true,if_false,Bool.false_eq_true]) hr
  | true =>
   refine (rst_12t w0 w T CB lb loff n lc q po m pcap p S h hk hx).mono ?_;rintro e w' ⟨rfl,hr⟩;exact .fin (S:=S) (by simp only [flt,hk,hx,Int.reduceEq,if_true,if_false,Bool.false_eq_true]) hr
def F0:Flt:=⟨0,0,0,fun _=>0⟩
theorem finv0 {n:Nat} (h:1≤n):FInv n F0:=⟨by show 0<n;omega,u32_zero,u32_zero,fun _=>u32_zero⟩
theorem runF_fin {q p:Nat→Int} {m k:Nat} {S:Flt} {R:Int} (hk:k<256) (h:runF q p m (256-k) S=R) (hd:(flt q p m S).done=true):(flt q p m S).v=R:=by
 rw [show 256-k=(255-k)+1 by omega] at h
 unfold runF at h
 rwa [if_pos hd] at h
theorem runF_go {q p:Nat→Int} {m k:Nat} {S:Flt} {R:Int} (hk:k<256) (h:runF q p m (256-k) S=R) (hd:(flt q p m S).done=false):runF q p m (256-(k+1)) (flt q p m S).S=R:=by
 rw [show 256-k=(255-k)+1 by omega] at h
 unfold runF at h
 rw [if_neg (by simp [hd])] at h
 rwa [show 256-(k+1)=255-k by omega]
theorem rs_new {w0 w1:World} (hb:Blk w1 w0.heap.size 3 (16*1) (16*1) (fun _=>.int .i64 0)) (hg:w0.grownBy w1 none) :
  RS w0 (w1.alloc (.cells #[.int .i64 0,.int .i64 0,.slice (some ⟨w0.heap.size,0,none⟩) 16 16,.int .i64 0] 137)) w1.heap.size w0.heap.size F0:=by
 have hl:=hb.lt
 refine ⟨grown_alloc hg _,hg.size,Nat.le_refl _,by omega,(blk_new w1 _ _).congr fun j hj=>?_,(hb.alloc _).congr fun j _=>rfl⟩
 match j,hj with
 | 0,_=>rfl
 | 1,_=>rfl
 | 2,_=>rfl
 | 3,_=>rfl
theorem zero1' (j:Nat):(Value.int IntKind.i64 0).cells[j%(Value.int IntKind.i64 0).cells.size]! = Value.int .i64 0:=by simp [Value.cells,Nat.mod_one]
def pcOf (w:World) (T:Nat):Nat:=(intOf ((w.cell? ⟨T,3,none⟩).getD (.int .i64 0))).toNat
theorem RS.pc {w0 w:World} {T CB:Nat} {S:Flt} (h:RS w0 w T CB S):pcOf w T=S.pc:=by
 unfold pcOf
 rw [h.cells.1.2.2.2]
 simp [intOf]
set_option maxHeartbeats 2000000 in
theorem rverdict (b off n c:Nat) (g:Nat→Int) (po:Option Addr) (m pc:Nat) (p:Nat→Int) (w:World) (h1:1≤n) (hn:n≤256) (hm:m≤2000) (hg:Oct g) (hp:Oct p) (hR:Row w .u8 b off (8*n) g) (hq:Src w .u8 po m p) (hgood:Good (decs g) n) :
  Calls Tryz.prog 44 #[.slice (some ⟨b,off,none⟩) (8*n:Nat) c,.slice po m pc] w fun e w'=>e=.returned (.int .i64 (runF (decs g) p m 256 F0))∧w.grownBy w' none:=by
 obtain ⟨i0,hi,hz0,hz1,hz2⟩:=info_parts Tryz.infoIntR
 obtain ⟨R,hRR⟩:∃ R,R=runF (decs g) p m 256 F0:=⟨_,rfl⟩
 rw [← hRR]
 have HR:Hid (runF (decs g) p m (256-0) F0=R):=hRR.symm
 clear hRR
 go_enter Tryz.func44,Tryz.ntmps44
 go_wp2_with (first | (go_at_call 46;refine (rdecode_row b off n c g w h1 hn hg hR).mono ?_;rintro e w2 ⟨B,yc,rfl,hg2,hrow⟩) | (at_make;refine wpList_make_blk _ rfl _ _ 66 rfl 3 i0 (.int .i64 0) 1 Tryz.underlying66 hi hz0 hz1 _ _ _ _ 16 rfl rfl (by omega) (by omega) (by rw [hz2];omega) (by unfold maxLen;omega) (.int .i64 0) zero1' ?_;intro w1 hb1 hg1))
 have hq2:=hq.keep hg2
 go_loopw [] (fun wr=>∃ (k:Nat) (S:Flt),k≤S.pc∧RS w2 wr w1.heap.size w2.heap.size S∧FInv n S∧Hid (runF (decs g) p m (256-k) S=R)) (fun wr=>256-pcOf wr w1.heap.size)
 case atStart=>exact ⟨0,F0,Nat.zero_le _,rs_new hb1 hg1,finv0 h1,HR⟩
 case round =>
  clear HR
  obtain ⟨k,S,hk,hM,hI,hX⟩:=hrel
  have hlt:k<256:=by have:=hI.pc;omega
  have hpc:=hM.pc
  cases hd:(flt (decs g) p m S).done with
  | true =>
   have HE:Hid ((flt (decs g) p m S).v=R):=runF_fin hlt hX.out hd
   have HS:∀ e w',FPost w2 w' w1.heap.size w2.heap.size (flt (decs g) p m S) e→e=.returned (.tuple #[.int .i64 R,.bool true])∧w2.grownBy w' none:=fun e w' hF=>by
    rcases hF with ⟨_,h,h'⟩ | ⟨h,_⟩
    ·rw [HE.out] at h;exact ⟨h,h'⟩
    ·rw [hd] at h;cases h
   clear hd hX HE
   go_wp2_with (go_at_call 75;refine (rst_any w2 _ _ _ B 0 n _ (decs g) po m _ p S ⟨hn,hm,hgood,hp,hI,hM,hrow,hq2⟩).mono ?_;intro e w3 hF;obtain ⟨rfl,hg3⟩:=HS e w3 hF)
   go_ret
   exact ⟨rfl,grown_trans hg2 hg3⟩
  | false =>
   have HE:Hid (runF (decs g) p m (256-(k+1)) (flt (decs g) p m S).S=R):=runF_go hlt hX.out hd
   obtain ⟨hI',hpc'⟩:=flt_inv hgood hp hm hI hd
   have HS:∀ e w',FPost w2 w' w1.heap.size w2.heap.size (flt (decs g) p m S) e→e=.returned (.tuple #[.int .i64 0,.bool false])∧RS w2 w' w1.heap.size w2.heap.size (flt (decs g) p m S).S:=fun e w' hF=>by
    rcases hF with ⟨h,_⟩ | ⟨_,h,h'⟩
    ·rw [hd] at h;cases h
    ·exact ⟨h,h'⟩
   clear hd hX
   generalize (flt (decs g) p m S).S=S' at *
   go_wp2_with (go_at_call 75;refine (rst_any w2 _ _ _ B 0 n _ (decs g) po m _ p S ⟨hn,hm,hgood,hp,hI,hM,hrow,hq2⟩).mono ?_;intro e w3 hF;obtain ⟨rfl,hM'⟩:=HS e w3 hF)
   go_roundw
   case rel=>exact ⟨k+1,S',by omega,hM',hI',HE⟩
   case measure=>rw [hM'.pc,hpc];have:=hI'.pc;omega
def RunS (g:Nat→Int) (n:Nat) (p:Nat→Int) (m:Nat) (v E:Int):Prop :=
 (E≠0∧v=0∧∃ k,Chk g n E k)∨(Chk g n 0 0∧((2000<m∧v=0∧E=10)∨(m≤2000∧E=0∧v=runF (decs g) p m 256 F0)))
theorem RunS.one {g:Nat→Int} {n:Nat} {p:Nat→Int} {m:Nat} {v E v' E':Int} (h:RunS g n p m v E) (h':RunS g n p m v' E'):v=v'∧E=E':=by
 rcases h with ⟨h1,h2,k,h3⟩ | ⟨h1,h2⟩
 ·rcases h' with ⟨_,g2,k',g3⟩ | ⟨g1,_⟩
  ·exact ⟨h2.trans g2.symm,(h3.one g3).1⟩
  ·exact absurd (h3.one g1).1 h1
 ·rcases h' with ⟨g1,_,k',g3⟩ | ⟨_,g2⟩
  ·exact absurd (g3.one h1).1 g1
  ·rcases h2 with ⟨a1,a2,a3⟩ | ⟨a1,a2,a3⟩
   ·rcases g2 with ⟨b1,b2,b3⟩ | ⟨b1,_⟩
    ·exact ⟨a2.trans b2.symm,a3.trans b3.symm⟩
    ·omega
   ·rcases g2 with ⟨b1,_⟩ | ⟨_,b2,b3⟩
    ·omega
    ·exact ⟨a3.trans b3.symm,a2.trans b2.symm⟩
theorem chk_ne {g:Nat→Int} {n:Nat} {E:Int} {k:Nat} (h:Chk g n E k) (hno:¬ Chk g n 0 0):E≠0:=fun e=>by
 subst e
 apply hno
 rcases h with ⟨h1,h2,h3⟩ | ⟨h1,h2⟩
 ·cases h2
 ·refine Or.inr ⟨h1,?_⟩
  rcases h2 with ⟨_,a2,_,a4⟩ | ⟨a1,a2⟩
  ·exact absurd a4.symm a2
  ·rcases a2 with ⟨_,a3,_⟩ | ⟨a3,a4⟩
   ·cases a3
   ·rcases a4 with ⟨_,_,_,h⟩ | ⟨b1,b2,b3⟩
    ·cases h
    ·exact Or.inr ⟨a1,Or.inr ⟨a3,Or.inr ⟨b1,rfl,rfl⟩⟩⟩
theorem chk_good {g:Nat→Int} {n:Nat} (hg:Oct g) (h:Chk g n 0 0):¬ badSize n∧Good (decs g) (n/8):=by
 rcases h with ⟨_,h,_⟩ | ⟨h1,h2⟩
 ·cases h
 ·refine ⟨h1,?_⟩
  have hn:1≤n/8:=by unfold badSize at h1;omega
  rcases h2 with ⟨_,a2,_,a4⟩ | ⟨a1,a2⟩
  ·exact absurd a4.symm a2
  ·rcases a2 with ⟨_,a3,_⟩ | ⟨a3,_⟩
   ·cases a3
   ·exact ⟨decs_num hg,a1,a3,hn⟩
end Go.Proofs.YthbcfepbkkbjiaaGreatDoor
