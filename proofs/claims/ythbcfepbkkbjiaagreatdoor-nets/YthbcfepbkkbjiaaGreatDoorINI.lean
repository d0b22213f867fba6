import Derived.Test.YthbcfepbkkbjiaaGreatDoorINH
import Derived.Test.YthbcfepbkkbjiaaGreatDoorIOM
import Derived.Test.YthbcfepbkkbjiaaGreatDoorIQA
set_option linter.unusedSimpArgs false
set_option linter.unusedVariables false
set_option maxRecDepth 100000
namespace Go.Proofs.YthbcfepbkkbjiaaGreatDoor
open Go.RowKit
structure OpD where
 K:Int
 N:Int
 M:Int
 lo:Option Addr
 ln:Nat
 lc:Nat
 fit:Bool
 fast:Bool
 bo:Option Addr
 bn:Nat
 bc:Nat
 q:Nat→Int
 g:Nat→Int
def OpD.v (d:OpD):Value:=.agg #[.int .i64 d.K,.int .i64 d.N,.int .i64 d.M,.slice d.lo d.ln d.lc,.bool d.fit,.bool d.fast,.slice d.bo d.bn d.bc]
def OpD.ok (w:World) (d:OpD):Prop:=d.ln≤4398046511000∧SrcI w d.lo d.ln d.q∧(∀ j,j<4*d.ln→I64 (d.q j))∧d.bn≤140737488355320∧d.bn≤d.bc∧Oct d.g∧Src w .u8 d.bo d.bn d.g
theorem play_any {w0 w:World} {own:Nat→Nat} {a b p r O pb t:Nat} {T:Nat→Ab} {a1 a2 a3 a4:Addr} {tb:TypeId} {pv:Value} (L:Lb a b) (hP:PSt w0 w own a b p r O T T t) (hb:Blk w pb 53 3 3 (prc p r O)) (h6:own pb=6) (hS:Sent w0 a1 a2 a3 a4) (hl:Laid w0 tb pv) (ht:t≤1650000000000) (hd:∀ i,i<8→(T i).d<9223372036854775807) (d:OpD) (h:d.ok w0) :
  Calls Tryz.prog 24 #[.pointer (some ⟨pb,0,none⟩),d.v] w fun e w'=>e=.returned (.bool true)∧Pl w0 w own a b p r O T t w':=by
 obtain ⟨K,N,M,lo,ln,lc,fit,fast,bo,bn,bc,q,g⟩:=d
 obtain ⟨h1,h2,h3,h4,h5,h7,h8⟩:=h
 show Calls Tryz.prog 24 #[.pointer (some ⟨pb,0,none⟩),.agg #[.int .i64 K,.int .i64 N,.int .i64 M,.slice lo ln lc,.bool fit,.bool fast,.slice bo bn bc]] w _
 have hc:K=1∨K=2∨K=3∨K=4∨K=5∨K<1∨5<K:=by omega
 rcases hc with rfl | rfl | rfl | rfl | rfl | hc
 ·exact play_attach L hP hb h6 hS hl N _ lo ln lc fit fast bo bn bc q h1 h2 h3
 ·exact play_detach L hP hb h6 hS hl N _ lo ln lc fit fast bo bn bc
 ·exact play_frame L hP hb h6 hS hl N _ lo ln lc fit fast bo bn bc g h4 h5 h7 h8 hd
 ·exact play_receive L hP hb h6 hS hl N _ lo ln lc fit fast bo bn bc ht
 ·exact play_dropped L hP hb h6 hS hl N _ lo ln lc fit fast bo bn bc
 ·exact play_none L hP K N _ lo ln lc fit fast bo bn bc hc
set_option maxHeartbeats 2000000 in
theorem emptied_any {w0 w:World} {own:Nat→Nat} {a b p r O pb t:Nat} {T:Nat→Ab} {a1 a2 a3 a4:Addr} {tb:TypeId} {pv:Value} (L:Lb a b) (hP:PSt w0 w own a b p r O T T t) (hb:Blk w pb 53 3 3 (prc p r O)) (h6:own pb=6) (hS:Sent w0 a1 a2 a3 a4) (hl:Laid w0 tb pv) (ht:t≤1649999999900) :
  Calls Tryz.prog 25 #[.pointer (some ⟨pb,0,none⟩)] w fun e w'=>e=.returned (.bool true)∧∃ own' T' t',PSt w0 w' own' a b p r O T' T' t'∧PStep w w' own own' a b∧t'≤t+40:=by
 have HP:Hid (PSt w0 w own a b p r O T T t):=hP
 have HB:Hid (Blk w pb 53 3 3 (prc p r O)):=hb
 have H5:Hid (∀ wr own1 T1 t1 (s:Nat),PSt w0 wr own1 a b p r O T1 T1 t1→PStep w wr own own1 a b→t1≤1650000000000→Calls Tryz.prog 24 #[.pointer (some ⟨pb,0,none⟩),.agg #[.int .i64 5,.int .i64 (s:Int),.int .i64 0,.slice none 0 0,.bool false,.bool false,.slice none 0 0]] wr fun e w'=>e=.returned (.bool true)∧∃ own' T' t',PSt w0 w' own' a b p r O T' T' t'∧PStep w w' own own' a b∧t'≤t1):=fun wr own1 T1 t1 s P1 S1 h1=>by
  refine (play_dropped0 L P1 (S1.blk L hb h6) (by rw [S1.lab pb hb.lt (by rw [h6];exact fun e=>L.a6 e.symm)];exact h6) hS hl s _ none 0 0 false false none 0 0).mono ?_
  rintro e w' ⟨rfl,P',S'⟩
  exact ⟨rfl,own1,T1,t1,P',S1.trans S' L,Nat.le_refl _⟩
 have H4:Hid (∀ wr own1 T1 t1 (s:Nat),PSt w0 wr own1 a b p r O T1 T1 t1→PStep w wr own own1 a b→t1≤1650000000000→Calls Tryz.prog 24 #[.pointer (some ⟨pb,0,none⟩),.agg #[.int .i64 4,.int .i64 (s:Int),.int .i64 0,.slice none 0 0,.bool false,.bool false,.slice none 0 0]] wr fun e w'=>e=.returned (.bool true)∧∃ own' T' t',PSt w0 w' own' a b p r O T' T' t'∧PStep w w' own own' a b∧t'≤t1+1):=fun wr own1 T1 t1 s P1 S1 h1=>by
  refine (play_receive L P1 (S1.blk L hb h6) (by rw [S1.lab pb hb.lt (by rw [h6];exact fun e=>L.a6 e.symm)];exact h6) hS hl s _ none 0 0 false false none 0 0 h1).mono ?_
  rintro e w' ⟨rfl,own',T',t',P',S',h',_⟩
  exact ⟨rfl,own',T',t',P',S1.trans S' L,h'⟩
 have SR:Hid (PStep w w own own a b):=pstep_refl hP.ow a b
 clear hP hb hS hl
 go_enter Tryz.func25,Tryz.ntmps25
 go_wp2
 go_loopw [3] (fun vs wr=>∃ (s:Nat) (own1:Nat→Nat) (T1:Nat→Ab) (t1:Nat),s≤8∧vs=.int .i64 s∧PSt w0 wr own1 a b p r O T1 T1 t1∧PStep w wr own own1 a b∧t1≤t+5*s) (fun vs _=>8-(intOf vs).toNat)
 case atStart=>exact ⟨0,own,T,t,Nat.zero_le _,rfl,HP.out,SR.out,by omega⟩
 case round =>
  obtain ⟨s,own1,T1,t1,hs8,rfl,P1,S1,ht1⟩:=hrel
  by_cases hlt:s<8
  ·have t8:(s:Int)<8:=by omega
   have H5':Hid (Calls Tryz.prog 24 #[.pointer (some ⟨pb,0,none⟩),.agg #[.int .i64 5,.int .i64 (s:Int),.int .i64 0,.slice none 0 0,.bool false,.bool false,.slice none 0 0]] wr fun e w'=>e=.returned (.bool true)∧∃ own' T' t',PSt w0 w' own' a b p r O T' T' t'∧PStep w w' own own' a b∧t'≤t1):=H5.out wr own1 T1 t1 s P1 S1 (by omega)
   clear P1 S1
   obtain ⟨wl,hwl⟩:∃ x,x=wr:=⟨_,rfl⟩
   subst hwl
   go_wp2_with (go_at_call 24;refine H5'.out.mono ?_;rintro e w2 ⟨rfl,own2,T2,t2,P2,S2,h2⟩)
   go_loopw [4,5] (fun vo vi wr=>∃ (i:Nat) (own3:Nat→Nat) (T3:Nat→Ab) (t3:Nat),i≤5∧vo=.bool true∧vi=.int .i64 i∧PSt w0 wr own3 a b p r O T3 T3 t3∧PStep w wr own own3 a b∧t3≤t+5*s+i) (fun _ vi _=>5-(intOf vi).toNat)
   case atStart=>exact ⟨0,own2,T2,t2,Nat.zero_le _,rfl,rfl,P2,S2,by omega⟩
   case round =>
    clear P2 S2 h2 H5'
    obtain ⟨i,own3,T3,t3,hi5,rfl,rfl,P3,S3,ht3⟩:=hrel
    by_cases hlt2:i<5
    ·have t4:(i:Int)≤4:=by omega
     have H4':Hid (Calls Tryz.prog 24 #[.pointer (some ⟨pb,0,none⟩),.agg #[.int .i64 4,.int .i64 (s:Int),.int .i64 0,.slice none 0 0,.bool false,.bool false,.slice none 0 0]] wr fun e w'=>e=.returned (.bool true)∧∃ own' T' t',PSt w0 w' own' a b p r O T' T' t'∧PStep w w' own own' a b∧t'≤t3+1):=H4.out wr own3 T3 t3 s P3 S3 (by omega)
     clear P3 S3
     go_wp2_with (go_at_call 24;refine H4'.out.mono ?_;rintro e w4 ⟨rfl,own4,T4,t4',P4,S4,h4⟩)
     go_roundw
     case rel=>exact ⟨i+1,own4,T4,t4',by omega,rfl,by go_num,P4,S4,by omega⟩
     case measure=>simp [intOf];omega
    ·obtain rfl:i=5:=by omega
     go_wp2
     go_roundw
     case rel=>exact ⟨s+1,own3,T3,t3,by omega,by go_num,P3,S3,by omega⟩
     case measure=>simp [intOf];omega
  ·obtain rfl:s=8:=by omega
   go_wp2
   go_ret
   exact ⟨rfl,own1,T1,t1,P1,S1,by omega⟩
structure LSt (w0 w:World) (own:Nat→Nat) (xb yb xp xr yp yr O:Nat) (Tx Ty:Nat→Ab) (t:Nat):Prop where
 x:PSt w0 w own 1 3 xp xr O Tx Tx t
 y:PSt w0 w own 2 4 yp yr O Ty Ty t
 bx:Blk w xb 53 3 3 (prc xp xr O)
 by':Blk w yb 53 3 3 (prc yp yr O)
 ox:own xb=6
 oy:own yb=6
theorem lb13:Lb 1 3:=⟨by decide,by decide,by decide,by decide,by decide,by decide,by decide⟩
theorem lb24:Lb 2 4:=⟨by decide,by decide,by decide,by decide,by decide,by decide,by decide⟩
theorem NSt.part {w0 w w':World} {own own':Nat→Nat} {a b c p:Nat} {T:Nat→Ab} (h:NSt w p (fun k=>own k=c) T) (hs:PStep w w' own own' a b) (how:Ow w0 w' own') (h0:c≠0) (ha:c≠a) (hb:c≠b) (h5:c≠5):NSt w' p (fun k=>own' k=c) T:=by
 obtain ⟨hl,S,hP,hU,hT⟩:=h
 exact ⟨fun k hk=>how.hi k (by rw [hk];exact h0),S,hP.same fun k hk=>hs.same k (hl k (hU k hk)) (by rw [hU k hk];exact ha) (by rw [hU k hk];exact hb) (by rw [hU k hk];exact h5),fun k hk=>by show own' k=c;rw [hs.lab k (hl k (hU k hk)) (by rw [hU k hk];exact ha)];exact hU k hk,hT⟩
theorem RSt.part {w0 w w':World} {own own':Nat→Nat} {a b c p:Nat} {T:Nat→Ab} (h:RSt w p (fun k=>own k=c) T) (hs:PStep w w' own own' a b) (how:Ow w0 w' own') (h0:c≠0) (ha:c≠a) (hb:c≠b) (h5:c≠5):RSt w' p (fun k=>own' k=c) T:=by
 obtain ⟨hl,N,R,hP,hU,hT⟩:=h
 exact ⟨fun k hk=>how.hi k (by rw [hk];exact h0),N,R,hP.same fun k hk=>hs.same k (hl k (hU k hk)) (by rw [hU k hk];exact ha) (by rw [hU k hk];exact hb) (by rw [hU k hk];exact h5),fun k hk=>by show own' k=c;rw [hs.lab k (hl k (hU k hk)) (by rw [hU k hk];exact ha)];exact hU k hk,hT⟩
section
variable {w0 w w':World} {own own':Nat→Nat} {xb yb xp xr yp yr O t t':Nat} {Tx Ty T':Nat→Ab}
theorem LSt.stepX (h:LSt w0 w own xb yb xp xr yp yr O Tx Ty t) (P:PSt w0 w' own' 1 3 xp xr O T' T' t') (S:PStep w w' own own' 1 3):LSt w0 w' own' xb yb xp xr yp yr O T' Ty t' :=
 ⟨P,⟨P.ow,h.y.n.part S P.ow (by decide) (by decide) (by decide) (by decide),h.y.r.part S P.ow (by decide) (by decide) (by decide) (by decide),P.o⟩,S.blk lb13 h.bx h.ox,S.blk lb13 h.by' h.oy,
  by rw [S.lab xb h.bx.lt (by rw [h.ox];decide)];exact h.ox,by rw [S.lab yb h.by'.lt (by rw [h.oy];decide)];exact h.oy⟩
theorem LSt.stepY (h:LSt w0 w own xb yb xp xr yp yr O Tx Ty t) (P:PSt w0 w' own' 2 4 yp yr O T' T' t') (S:PStep w w' own own' 2 4):LSt w0 w' own' xb yb xp xr yp yr O Tx T' t' :=
 ⟨⟨P.ow,h.x.n.part S P.ow (by decide) (by decide) (by decide) (by decide),h.x.r.part S P.ow (by decide) (by decide) (by decide) (by decide),P.o⟩,P,S.blk lb24 h.bx h.ox,S.blk lb24 h.by' h.oy,
  by rw [S.lab xb h.bx.lt (by rw [h.ox];decide)];exact h.ox,by rw [S.lab yb h.by'.lt (by rw [h.oy];decide)];exact h.oy⟩
theorem LSt.keep (h:LSt w0 w own xb yb xp xr yp yr O Tx Ty t) (g:w.grownBy w' none):LSt w0 w' own xb yb xp xr yp yr O Tx Ty t :=
 ⟨h.x.keep g,h.y.keep g,h.bx.keep g (by simp),h.by'.keep g (by simp),h.ox,h.oy⟩
end
end Go.Proofs.YthbcfepbkkbjiaaGreatDoor
namespace Go.Proofs.YthbcfepbkkbjiaaGreatDoor
open Go.RowKit
def Script (w:World) (so:Option Addr) (n:Nat) (D:Nat→OpD):Prop :=
 (∀ k,k<n→(D k).ok w)∧(0<n→∃ b off,so=some ⟨b,off,none⟩∧∀ k,k<n→w.cell? ⟨b,off+k*7,none⟩=some (.int .i64 (D k).K)∧w.cell? ⟨b,off+k*7+1,none⟩=some (.int .i64 (D k).N)∧w.cell? ⟨b,off+k*7+2,none⟩=some (.int .i64 (D k).M)∧w.cell? ⟨b,off+k*7+3,none⟩=some (.slice (D k).lo (D k).ln (D k).lc)∧w.cell? ⟨b,off+k*7+4,none⟩=some (.bool (D k).fit)∧w.cell? ⟨b,off+k*7+5,none⟩=some (.bool (D k).fast)∧w.cell? ⟨b,off+k*7+6,none⟩=some (.slice (D k).bo (D k).bn (D k).bc))
theorem NSt.grow {w0 w w':World} {own:Nat→Nat} {c c' p:Nat} {T:Nat→Ab} (h:NSt w p (fun k=>own k=c) T) (ow:Ow w0 w own) (g:w.grownBy w' none) (h0:c≠0) (h1:c'≠0):NSt w' p (fun k=>lab own w w' c' k=c) T :=
 (h.keep g).more (fun k hk=>lab_of ow h0 hk) (fun k hk=>(ow.op (fr_grown g) h1).hi k (by rw [hk];exact h0))
theorem RSt.grow {w0 w w':World} {own:Nat→Nat} {c c' p:Nat} {T:Nat→Ab} (h:RSt w p (fun k=>own k=c) T) (ow:Ow w0 w own) (g:w.grownBy w' none) (h0:c≠0) (h1:c'≠0):RSt w' p (fun k=>lab own w w' c' k=c) T :=
 (h.keep g).more (fun k hk=>lab_of ow h0 hk) (fun k hk=>(ow.op (fr_grown g) h1).hi k (by rw [hk];exact h0))
theorem BSt.grow {w0 w w':World} {own:Nat→Nat} {c c' p t:Nat} (h:BSt w p (fun k=>own k=c) t) (ow:Ow w0 w own) (g:w.grownBy w' none) (h0:c≠0) (h1:c'≠0):BSt w' p (fun k=>lab own w w' c' k=c) t :=
 (h.keep g).more (fun k hk=>lab_of ow h0 hk) (fun k hk=>(ow.op (fr_grown g) h1).hi k (by rw [hk];exact h0))
theorem ow_new (w:World):Ow w w (fun _=>0):=⟨grown_refl w none,fun k h=>absurd rfl h,fun k h=>absurd rfl h⟩
theorem hid {p:Prop} (h:p):Hid p:=h
theorem alz (w:World) (o:Obj):(w.alloc o).heap.size=w.heap.size+1:=by simp
theorem lst_new (w w1 w2 w4 w5:World) (xp xr yp yr:Nat) (Z:Nat→Ab) (e1:(w.alloc (.cells #[.slice none 0 0,.slice none 0 0] 36)).grownBy w1 none)
  (hN1:NSt w1 xp (fun k=>w.heap.size+1≤k∧k<w1.heap.size) Z)
  (e2:w1.grownBy w2 none) (hR2:RSt w2 xr (fun k=>w1.heap.size≤k∧k<w2.heap.size) Z)
  (e4:(w2.alloc (.cells #[.pointer (some ⟨xp,0,none⟩),.pointer (some ⟨xr,0,none⟩),.pointer (some ⟨w.heap.size,0,none⟩)] 53)).grownBy w4 none)
  (hN4:NSt w4 yp (fun k=>w2.heap.size+1≤k∧k<w4.heap.size) Z)
  (e5:w4.grownBy w5 none) (hR5:RSt w5 yr (fun k=>w4.heap.size≤k∧k<w5.heap.size) Z) :
  ∃ own,LSt w (w5.alloc (.cells #[.pointer (some ⟨yp,0,none⟩),.pointer (some ⟨yr,0,none⟩),.pointer (some ⟨w.heap.size,0,none⟩)] 53)) own w2.heap.size w5.heap.size xp xr yp yr w.heap.size Z Z 0:=by
 have e0:=World.grownBy_alloc w (.cells #[.slice none 0 0,.slice none 0 0] 36) none
 have ez0:(w.alloc (.cells #[.slice none 0 0,.slice none 0 0] 36)).heap.size=w.heap.size+1:=by simp
 have B0:=bst_new w
 generalize hwa:w.alloc (.cells #[.slice none 0 0,.slice none 0 0] 36)=wa at *
 have e3:=World.grownBy_alloc w2 (.cells #[.pointer (some ⟨xp,0,none⟩),.pointer (some ⟨xr,0,none⟩),.pointer (some ⟨w.heap.size,0,none⟩)] 53) none
 have ez3:(w2.alloc (.cells #[.pointer (some ⟨xp,0,none⟩),.pointer (some ⟨xr,0,none⟩),.pointer (some ⟨w.heap.size,0,none⟩)] 53)).heap.size=w2.heap.size+1:=by simp
 have b3:Blk (w2.alloc (.cells #[.pointer (some ⟨xp,0,none⟩),.pointer (some ⟨xr,0,none⟩),.pointer (some ⟨w.heap.size,0,none⟩)] 53)) w2.heap.size 53 3 3 (prc xp xr w.heap.size):=(blk_new w2 _ _).congr fun j hj=>by
  match j,hj with
  | 0,_=>rfl
  | 1,_=>rfl
  | 2,_=>rfl
 generalize hwc:w2.alloc (.cells #[.pointer (some ⟨xp,0,none⟩),.pointer (some ⟨xr,0,none⟩),.pointer (some ⟨w.heap.size,0,none⟩)] 53)=w3 at *
 have e6:=World.grownBy_alloc w5 (.cells #[.pointer (some ⟨yp,0,none⟩),.pointer (some ⟨yr,0,none⟩),.pointer (some ⟨w.heap.size,0,none⟩)] 53) none
 have ez6:(w5.alloc (.cells #[.pointer (some ⟨yp,0,none⟩),.pointer (some ⟨yr,0,none⟩),.pointer (some ⟨w.heap.size,0,none⟩)] 53)).heap.size=w5.heap.size+1:=by simp
 have b6:Blk (w5.alloc (.cells #[.pointer (some ⟨yp,0,none⟩),.pointer (some ⟨yr,0,none⟩),.pointer (some ⟨w.heap.size,0,none⟩)] 53)) w5.heap.size 53 3 3 (prc yp yr w.heap.size):=(blk_new w5 _ _).congr fun j hj=>by
  match j,hj with
  | 0,_=>rfl
  | 1,_=>rfl
  | 2,_=>rfl
 generalize hwf:w5.alloc (.cells #[.pointer (some ⟨yp,0,none⟩),.pointer (some ⟨yr,0,none⟩),.pointer (some ⟨w.heap.size,0,none⟩)] 53)=w6 at *
 have o0:=(ow_new w).op (c:=5) (fr_grown e0) (by decide)
 have B0':BSt wa w.heap.size (fun k=>lab (fun _=>0) w wa 5 k=5) 0:=B0.more (fun k hk=>lab_new (by omega)) (fun k hk=>o0.hi k (by rw [hk];decide))
 generalize lab (fun _=>0) w wa 5=l0 at *
 have o1:=o0.op (c:=1) (fr_grown e1) (by decide)
 have N1:NSt w1 xp (fun k=>lab l0 wa w1 1 k=1) Z:=hN1.more (fun k hk=>lab_new (by rw [ez0];exact hk)) (fun k hk=>o1.hi k (by rw [hk];decide))
 have B1:=B0'.grow (c':=1) o0 e1 (by decide) (by decide)
 generalize lab l0 wa w1 1=l1 at *
 have o2:=o1.op (c:=3) (fr_grown e2) (by decide)
 have R2:RSt w2 xr (fun k=>lab l1 w1 w2 3 k=3) Z:=hR2.more (fun k hk=>lab_new hk) (fun k hk=>o2.hi k (by rw [hk];decide))
 have N2:=N1.grow (c':=3) o1 e2 (by decide) (by decide)
 have B2:=B1.grow (c':=3) o1 e2 (by decide) (by decide)
 generalize lab l1 w1 w2 3=l2 at *
 have o3:=o2.op (c:=6) (fr_grown e3) (by decide)
 have N3:=N2.grow (c':=6) o2 e3 (by decide) (by decide)
 have R3:=R2.grow (c':=6) o2 e3 (by decide) (by decide)
 have B3:=B2.grow (c':=6) o2 e3 (by decide) (by decide)
 have x3:lab l2 w2 w3 6 w2.heap.size=6:=lab_new (by omega)
 generalize lab l2 w2 w3 6=l3 at *
 have o4:=o3.op (c:=2) (fr_grown e4) (by decide)
 have M4:NSt w4 yp (fun k=>lab l3 w3 w4 2 k=2) Z:=hN4.more (fun k hk=>lab_new (by rw [ez3];exact hk)) (fun k hk=>o4.hi k (by rw [hk];decide))
 have N4:=N3.grow (c':=2) o3 e4 (by decide) (by decide)
 have R4:=R3.grow (c':=2) o3 e4 (by decide) (by decide)
 have B4:=B3.grow (c':=2) o3 e4 (by decide) (by decide)
 have x4:lab l3 w3 w4 2 w2.heap.size=6:=lab_of o3 (by decide) x3
 generalize lab l3 w3 w4 2=l4 at *
 have o5:=o4.op (c:=4) (fr_grown e5) (by decide)
 have S5:RSt w5 yr (fun k=>lab l4 w4 w5 4 k=4) Z:=hR5.more (fun k hk=>lab_new hk) (fun k hk=>o5.hi k (by rw [hk];decide))
 have M5:=M4.grow (c':=4) o4 e5 (by decide) (by decide)
 have N5:=N4.grow (c':=4) o4 e5 (by decide) (by decide)
 have R5:=R4.grow (c':=4) o4 e5 (by decide) (by decide)
 have B5:=B4.grow (c':=4) o4 e5 (by decide) (by decide)
 have x5:lab l4 w4 w5 4 w2.heap.size=6:=lab_of o4 (by decide) x4
 generalize lab l4 w4 w5 4=l5 at *
 have o6:=o5.op (c:=6) (fr_grown e6) (by decide)
 refine ⟨lab l5 w5 w6 6,⟨o6,N5.grow o5 e6 (by decide) (by decide),R5.grow o5 e6 (by decide) (by decide),B5.grow o5 e6 (by decide) (by decide)⟩,⟨o6,M5.grow o5 e6 (by decide) (by decide),S5.grow o5 e6 (by decide) (by decide),B5.grow o5 e6 (by decide) (by decide)⟩,((b3.keep e4 (by simp)).keep e5 (by simp)).keep e6 (by simp),b6,lab_of o5 (by decide) x5,lab_new (by omega)⟩
theorem Script.keep {w w':World} {so:Option Addr} {n:Nat} {D:Nat→OpD} (h:Script w so n D) (g:w.grownBy w' none) {k:Nat} (hk:k<n):∃ b off,so=some ⟨b,off,none⟩∧w'.cell? ⟨b,off+k*7,none⟩=some (.int .i64 (D k).K)∧w'.cell? ⟨b,off+k*7+1,none⟩=some (.int .i64 (D k).N)∧w'.cell? ⟨b,off+k*7+2,none⟩=some (.int .i64 (D k).M)∧w'.cell? ⟨b,off+k*7+3,none⟩=some (.slice (D k).lo (D k).ln (D k).lc)∧w'.cell? ⟨b,off+k*7+4,none⟩=some (.bool (D k).fit)∧w'.cell? ⟨b,off+k*7+5,none⟩=some (.bool (D k).fast)∧w'.cell? ⟨b,off+k*7+6,none⟩=some (.slice (D k).bo (D k).bn (D k).bc):=by
 obtain ⟨b,off,e,hc⟩:=h.2 (by omega)
 obtain ⟨c0,c1,c2,c3,c4,c5,c6⟩:=hc k hk
 exact ⟨b,off,e,g.cell c0 (by simp),g.cell c1 (by simp),g.cell c2 (by simp),g.cell c3 (by simp),g.cell c4 (by simp),g.cell c5 (by simp),g.cell c6 (by simp)⟩
def dpt (T:Nat→Ab) (k:Nat):Prop:=∀ i,i<8→(T i).d≤k
section
variable {w0 w:World} {own:Nat→Nat} {xb yb xp xr yp yr O t k:Nat} {Tx Ty:Nat→Ab} {a1 a2 a3 a4:Addr} {tb:TypeId} {pv:Value}
def LAt (w0:World) (xb yb xp xr yp yr O t k:Nat) (w':World):Prop:=∃ own Tx Ty t',LSt w0 w' own xb yb xp xr yp yr O Tx Ty t'∧t'≤t∧dpt Tx k∧dpt Ty k
theorem dpt.more {T:Nat→Ab} (h:dpt T k):dpt T (k+1):=fun i hi=>Nat.le_succ_of_le (h i hi)
theorem play_x (hS:Sent w0 a1 a2 a3 a4) (hl:Laid w0 tb pv) (ht:t≤1650000000000) (hk:k<9223372036854775807) (L:LAt w0 xb yb xp xr yp yr O t k w) (d:OpD) (h:d.ok w0) :
  Calls Tryz.prog 24 #[.pointer (some ⟨xb,0,none⟩),d.v] w fun e w'=>e=.returned (.bool true)∧LAt w0 xb yb xp xr yp yr O (t+1) (k+1) w':=by
 obtain ⟨own,Tx,Ty,t',LS,h1,h2,h3⟩:=L
 refine (play_any lb13 LS.x LS.bx LS.ox hS hl (by omega) (fun i hi=>by have:=h2 i hi;omega) d h).mono ?_
 rintro e w' ⟨rfl,own',T',t2,P,S,h4,h5⟩
 exact ⟨rfl,own',T',Ty,t2,LS.stepX P S,by omega,fun i hi=>by have:=h2 i hi;have:=h5 i hi;omega,h3.more⟩
theorem play_y (hS:Sent w0 a1 a2 a3 a4) (hl:Laid w0 tb pv) (ht:t≤1650000000000) (hk:k<9223372036854775807) (L:LAt w0 xb yb xp xr yp yr O t k w) (d:OpD) (h:d.ok w0) :
  Calls Tryz.prog 24 #[.pointer (some ⟨yb,0,none⟩),d.v] w fun e w'=>e=.returned (.bool true)∧LAt w0 xb yb xp xr yp yr O (t+1) (k+1) w':=by
 obtain ⟨own,Tx,Ty,t',LS,h1,h2,h3⟩:=L
 refine (play_any lb24 LS.y LS.by' LS.oy hS hl (by omega) (fun i hi=>by have:=h3 i hi;omega) d h).mono ?_
 rintro e w' ⟨rfl,own',T',t2,P,S,h4,h5⟩
 exact ⟨rfl,own',Tx,T',t2,LS.stepY P S,by omega,h2.more,fun i hi=>by have:=h3 i hi;have:=h5 i hi;omega⟩
theorem emptied_x (hS:Sent w0 a1 a2 a3 a4) (hl:Laid w0 tb pv) (ht:t≤1649999999900) (L:LAt w0 xb yb xp xr yp yr O t k w) :
  Calls Tryz.prog 25 #[.pointer (some ⟨xb,0,none⟩)] w fun e w'=>e=.returned (.bool true)∧∃ own Tx Ty t',LSt w0 w' own xb yb xp xr yp yr O Tx Ty t'∧t'≤t+40:=by
 obtain ⟨own,Tx,Ty,t',LS,h1,h2,h3⟩:=L
 refine (emptied_any lb13 LS.x LS.bx LS.ox hS hl (by omega)).mono ?_
 rintro e w' ⟨rfl,own',T',t2,P,S,h4⟩
 exact ⟨rfl,own',T',Ty,t2,LS.stepX P S,by omega⟩
theorem emptied_y (hS:Sent w0 a1 a2 a3 a4) (hl:Laid w0 tb pv) (ht:t≤1649999999900) (LS:LSt w0 w own xb yb xp xr yp yr O Tx Ty t) :
  Calls Tryz.prog 25 #[.pointer (some ⟨yb,0,none⟩)] w fun e w'=>e=.returned (.bool true)∧∃ own Tx Ty t',LSt w0 w' own xb yb xp xr yp yr O Tx Ty t'∧t'≤t+40:=by
 refine (emptied_any lb24 LS.y LS.by' LS.oy hS hl (by omega)).mono ?_
 rintro e w' ⟨rfl,own',T',t2,P,S,h4⟩
 exact ⟨rfl,own',Tx,T',t2,LS.stepY P S,by omega⟩
theorem kept_l (ht:t≤1650000000000) (L:LAt w0 xb yb xp xr yp yr O t k w) :
  Calls Tryz.prog 21 #[.pointer (some ⟨O,0,none⟩)] w fun e w'=>e=.returned (.bool true)∧LAt w0 xb yb xp xr yp yr O t k w':=by
 obtain ⟨own,Tx,Ty,t',LS,h1,h2,h3⟩:=L
 refine (bst_kept LS.x.o (by omega)).mono ?_
 rintro e w' ⟨rfl,g⟩
 exact ⟨rfl,own,Tx,Ty,t',LS.keep g,h1,h2,h3⟩
end
set_option maxHeartbeats 4000000 in
theorem law_nets (so:Option Addr) (n sc:Nat) (D:Nat→OpD) (a1 a2 a3 a4:Addr) (tb:TypeId) (pv:Value) (w:World) (hn:n≤1600000000000) (hD:Script w so n D) (hL:Laid w tb pv) (hS:Sent w a1 a2 a3 a4) :
  Calls Tryz.prog 5 #[.slice so n sc] w fun e w'=>e=.returned (.bool true)∧w.grownBy w' none:=by
 have HL:Hid (Laid w tb pv):=hL
 have HS:Hid (Sent w a1 a2 a3 a4):=hS
 have HD:Hid (Script w so n D):=hD
 clear hL hS hD
 go_enter Tryz.func5,Tryz.ntmps5
 go_wp2_with (go_at_call 22;refine (nnew _).mono ?_;rintro e w1 ⟨rfl,hN1,hg1⟩;rw [alz] at hN1;go_wp2_with (go_at_call 23;refine (rrnew _).mono ?_;rintro e w2 ⟨xr,rfl,hR2,hg2⟩;go_wp2_with (go_at_call 22;refine (nnew _).mono ?_;rintro e w4 ⟨rfl,hN4,hg4⟩;rw [alz] at hN4;go_wp2_with (go_at_call 23;refine (rrnew _).mono ?_;rintro e w5 ⟨yr,rfl,hR5,hg5⟩;obtain ⟨own,LS⟩:=lst_new w w1 w2 w4 w5 _ xr _ yr _ hg1 hN1 hg2 hR2 hg4 hN4 hg5 hR5;have c1:=(pr_cells LS.bx).1;have c2:=(pr_cells LS.by').1))))
 have L0:Hid (LAt w w2.heap.size w5.heap.size (w.heap.size+1) xr (w2.heap.size+1) yr w.heap.size 0 0 (w5.alloc (.cells #[.pointer (some ⟨w2.heap.size+1,0,none⟩),.pointer (some ⟨yr,0,none⟩),.pointer (some ⟨w.heap.size,0,none⟩)] 53))):=⟨own,_,_,_,LS,Nat.le_refl _,fun _ _=>Nat.le_refl _,fun _ _=>Nat.le_refl _⟩
 clear hN1 hg1 hR2 hg2 hN4 hg4 hR5 hg5 LS c1 c2
 go_loopw [6] (fun vi wr=>∃ k:Nat,k≤n∧vi=.int .i64 k∧LAt w w2.heap.size w5.heap.size (w.heap.size+1) xr (w2.heap.size+1) yr w.heap.size k k wr) (fun vi _=>n-(intOf vi).toNat)
 case atStart=>exact ⟨0,Nat.zero_le _,rfl,L0.out⟩
 case round =>
  obtain ⟨k,hk,rfl,L⟩:=hrel
  clear L0
  by_cases hlt:k<n
  ·have hP:=play_x HS.out HL.out (by omega) (by omega) L (D k) (HD.out.1 k hlt)
   have hQ:=play_y HS.out HL.out (by omega) (by omega) L (D k) (HD.out.1 k hlt)
   have hC:=HD.out.keep L.choose_spec.choose_spec.choose_spec.choose_spec.1.x.ow.g hlt
   unfold OpD.v at hP hQ
   generalize (D k).K=dK,(D k).N=dN,(D k).M=dM,(D k).lo=dlo,(D k).ln=dln,(D k).lc=dlc,(D k).fit=dfit,(D k).fast=dfast,(D k).bo=dbo,(D k).bn=dbn,(D k).bc=dbc at hP hQ hC
   obtain ⟨b,off,rfl,c0,c1,c2,c3,c4,c5,c6⟩:=hC
   have HP:=hid hP
   have HQ:=hid hQ
   clear hP hQ L
   by_cases hz:Int.tmod dM 2=0
   ·go_wp2_with (first | (go_at_call 24;refine HP.out.mono ?_;rintro e w7 ⟨rfl,L7⟩;have H7:=hid L7;clear L7) | (go_at_call 21;refine (kept_l (by omega) H7.out).mono ?_;rintro e w8 ⟨rfl,L8⟩;have H8:=hid L8;clear L8))
    go_roundw
    case rel=>exact ⟨k+1,by omega,by go_num,H8.out⟩
    case measure=>simp [intOf];omega
   ·go_wp2_with (first | (go_at_call 24;refine HQ.out.mono ?_;rintro e w7 ⟨rfl,L7⟩;have H7:=hid L7;clear L7) | (go_at_call 21;refine (kept_l (by omega) H7.out).mono ?_;rintro e w8 ⟨rfl,L8⟩;have H8:=hid L8;clear L8))
    go_roundw
    case rel=>exact ⟨k+1,by omega,by go_num,H8.out⟩
    case measure=>simp [intOf];omega
  ·obtain rfl:k=n:=by omega
   have H9:=hid L
   clear L
   go_wp2_with (go_at_call 25;refine (emptied_x HS.out HL.out (by omega) H9.out).mono ?_;rintro e w7 ⟨rfl,own7,Tx7,Ty7,t7,L7,h7⟩;have H7:=hid L7;clear L7;go_wp2_with (go_at_call 25;refine (emptied_y HS.out HL.out (by omega) H7.out).mono ?_;rintro e w8 ⟨rfl,own8,Tx8,Ty8,t8,L8,h8⟩;have H8:=hid L8;clear L8;go_wp2_with (go_at_call 21;refine (bst_kept H8.out.x.o (by omega)).mono ?_;rintro e w9 ⟨rfl,g9⟩)))
   go_ret
   exact ⟨rfl,grown_trans H8.out.x.ow.g g9⟩
end Go.Proofs.YthbcfepbkkbjiaaGreatDoor
namespace Go.Proofs.YthbcfepbkkbjiaaGreatDoor
open Go.ChangeShapes Go.WideShapes Go.ChangeAt Go.RowKit Go.Deep
theorem Tryz.cellsOp:Tryz.prog.cellsOf 55=7:=by kernel_rfl
theorem Tryz.cellsMade:Tryz.prog.cellsOf 24=2:=by kernel_rfl
theorem Tryz.cellsBool:Tryz.prog.cellsOf 4=1:=by kernel_rfl
theorem Tryz.cellsInsns:Tryz.prog.cellsOf 22=1:=by kernel_rfl
theorem Tryz.cellsOctets:Tryz.prog.cellsOf 25=1:=by kernel_rfl
theorem Tryz.bytesOp:Tryz.prog.bytesOf 55=88:=by kernel_rfl
section
variable {H:Type} {enc:TypeId × Value→H} {w:World} {base:Nat} {held:Bool}
theorem mem_weights {P:Program} {t:TypeId} {d:DataW H} {ds:List (DataW H)} {k:Nat} (h:d ∈ ds) (hk:k ∈ d.weights P t):k ∈ DataW.weightsAll P t ds:=by
 induction ds with
 | nil=>cases h
 | cons x r ih =>
  simp only [DataW.weightsAll,List.mem_append]
  cases h with
  | head=>exact Or.inl hk
  | tail _ h=>exact Or.inr (ih h)
theorem op_open {fuel:Nat} {cs:List Value} {x:DataW H × List MemPlace} (h:DataW.trod enc Tryz.prog w base (fun _=>true) held fuel 55 cs=some x) (hw:∀ k ∈ x.1.weights Tryz.prog 55,k≤reachBytes) :
  ∃ d:OpD,d.ok w∧cs=[.int .i64 d.K,.int .i64 d.N,.int .i64 d.M,.slice d.lo d.ln d.lc,.bool d.fit,.bool d.fast,.slice d.bo d.bn d.bc]:=by
 obtain ⟨xs,m,_,hx,hl,hxl,hf⟩:=DataW.trod_struct Tryz.underlying55 h
 rw [Tryz.cellsOp] at hl
 match cs,hl,xs,hxl with
 | [v0,v1,v2,v3,v4,v5,v6],_,[y0,y1,y2,y3,y4,y5],_ =>
  have g0:=hf 0 _ rfl
  have g1:=hf 1 _ rfl
  have g2:=hf 2 _ rfl
  have g3:=hf 3 _ rfl
  have g4:=hf 4 _ rfl
  have g5:=hf 5 _ rfl
  simp [Tryz.cellsInt,Tryz.cellsMade,Tryz.cellsBool,Tryz.cellsOctets] at g0 g1 g2 g3 g4 g5
  obtain ⟨K,e0,_,_⟩:=DataW.trod_int Tryz.underlying3 g0
  obtain ⟨N,e1,_,_⟩:=DataW.trod_int Tryz.underlying3 g1
  obtain ⟨M,e2,_,_⟩:=DataW.trod_int Tryz.underlying3 g2
  obtain ⟨zs,m',_,hx',hl',hzl,hf'⟩:=DataW.trod_struct Tryz.underlying24 g3
  obtain ⟨z0,z1,rfl⟩:∃ z0 z1,zs=[z0,z1]:=by
   match zs,hzl with
   | [z0,z1],_=>exact ⟨z0,z1,rfl⟩
  have k0:=hf' 0 _ rfl
  have k1:=hf' 1 _ rfl
  simp [Tryz.cellsInsns,Tryz.cellsBool] at k0 k1
  obtain ⟨lo,ln,lc,q,e3,hI,hi,hls⟩:=open_insns k0
  obtain ⟨fit,e4,_⟩:=DataW.trod_bool Tryz.underlying4 k1
  obtain ⟨fast,e5,_⟩:=DataW.trod_bool Tryz.underlying4 g4
  obtain ⟨bo,bn,bc,e6⟩:∃ bo bn bc,v6=.slice bo bn bc:=by
   rcases open_slice Tryz.underlying25 g5 with ⟨hcs,_⟩ | ⟨a,l,c,_,_,_,_,hcs,_⟩
   ·exact ⟨_,_,_,by simpa using hcs⟩
   ·exact ⟨_,_,_,by simpa using hcs⟩
  subst e6
  obtain ⟨g,hg,hb,hbs⟩:=open_bytes g5
  have hcap:=open_bytes_cap g5
  simp at e0 e1 e2 e4 e5
  subst e0 e1 e2 e3 e4 e5
  have w3:∀ k ∈ z0.1.weights Tryz.prog 22,k≤reachBytes:=fun k hk=>hw k (by
   rw [hx]
   simp only [DataW.weights,Tryz.underlying55,List.map]
   simp [DataW.weightsEach,hx',DataW.weights,Tryz.underlying24,hk])
  have w5:∀ k ∈ y5.1.weights Tryz.prog 25,k≤reachBytes:=fun k hk=>hw k (by
   rw [hx]
   simp only [DataW.weights,Tryz.underlying55,List.map]
   simp [DataW.weightsEach,hk])
  refine ⟨⟨K,N,M,lo,ln,lc,fit,fast,bo,bn,bc,q,g⟩,⟨?_,hI,hi,?_,hcap,hg,hb⟩,rfl⟩
  ·show ln≤_
   rcases hls with h | ⟨es,sp,h,hle⟩
   ·omega
   ·have:=w3 ((es.length+sp.length)*Tryz.prog.bytesOf 63) (by rw [h];simp [DataW.weights,Tryz.underlying22])
    rw [Tryz.bytesInsn] at this
    simp only [reachBytes] at this
    omega
  ·show bn≤_
   rcases hbs with h | ⟨es,sp,h,hle⟩
   ·omega
   ·have:=w5 ((es.length+sp.length)*Tryz.prog.bytesOf 5) (by rw [h];simp [DataW.weights,Tryz.underlying25])
    rw [Tryz.bytesByte] at this
    simp only [reachBytes] at this
    omega
theorem pick {α:Type} (z:α) {n:Nat} {p:Nat→α→Prop} (h:∀ i,i<n→∃ a,p i a):∃ f:Nat→α,∀ i,i<n→p i (f i):=by
 classical
 exact ⟨fun i=>if hi:i<n then (h i hi).choose else z,fun i hi=>by simp only [dif_pos hi];exact (h i hi).choose_spec⟩
def opd0:OpD:=⟨0,0,0,none,0,0,false,false,none,0,0,fun _=>0,fun _=>0⟩
theorem open_script {fuel:Nat} {so:Option Addr} {n sc:Nat} {x:DataW H × List MemPlace} (h:DataW.trod enc Tryz.prog w base (fun _=>true) held fuel 46 [.slice so n sc]=some x) (hw:∀ k ∈ x.1.weights Tryz.prog 46,k≤reachBytes) :
  ∃ D,n≤1600000000000∧Script w so n D:=by
 rcases open_slice Tryz.underlying46 h with ⟨hcs,_⟩ | ⟨a,len,cap,m,k,D,Pl,hcs,_,hl,hm,hmm,hx,hel⟩
 ·simp at hcs
  obtain ⟨rfl,rfl,rfl⟩:=hcs
  exact ⟨fun _=>opd0,by omega,fun k hk=>by omega,fun h=>by omega⟩
 ·simp at hcs hmm
  obtain ⟨rfl,rfl,rfl⟩:=hcs
  obtain ⟨f,hf⟩:=pick opd0 (n:=n) (p:=fun i d=>d.ok w∧w.cell? (a.add (7*i))=some (.int .i64 d.K)∧w.cell? (a.add (7*i+1))=some (.int .i64 d.N)∧w.cell? (a.add (7*i+2))=some (.int .i64 d.M)∧w.cell? (a.add (7*i+3))=some (.slice d.lo d.ln d.lc)∧w.cell? (a.add (7*i+4))=some (.bool d.fit)∧w.cell? (a.add (7*i+5))=some (.bool d.fast)∧w.cell? (a.add (7*i+6))=some (.slice d.bo d.bn d.bc)) (fun i hi=>by
   obtain ⟨cs',h1,h2⟩:=hel i (by omega)
   obtain ⟨d,hd,rfl⟩:=op_open h2 (fun k hk=>hw k (by
    rw [hx]
    simp only [DataW.weights,Tryz.underlying46]
    exact List.mem_cons_of_mem _ (List.mem_append.2 (Or.inl (mem_weights (List.mem_map.2 ⟨i,List.mem_range.2 hi,rfl⟩) hk)))))
   rw [Tryz.cellsOp,Nat.mul_comm] at h1
   obtain ⟨_,_,hc⟩:=World.cells?_some h1
   have e0:=hc 0 (by omega)
   have e1:=hc 1 (by omega)
   have e2:=hc 2 (by omega)
   have e3:=hc 3 (by omega)
   have e4:=hc 4 (by omega)
   have e5:=hc 5 (by omega)
   have e6:=hc 6 (by omega)
   rw [Deep.add_add] at e0 e1 e2 e3 e4 e5 e6
   exact ⟨d,hd,by simpa using e0,by simpa using e1,by simpa using e2,by simpa using e3,by simpa using e4,by simpa using e5,by simpa using e6⟩)
  refine ⟨f,?_,fun k hk=>(hf k hk).1,fun hp=>?_⟩
  ·have:=hw (((List.range n).map D).length+((List.range (m-n)).map fun j=>D (n+j)).length*1 |> fun z=>z*Tryz.prog.bytesOf 55) (by
    rw [hx]
    simp [DataW.weights,Tryz.underlying46])
   rw [Tryz.bytesOp] at this
   simp [reachBytes] at this
   omega
  ·obtain ⟨b,off,spot⟩:=a
   have hspot:spot=none:=by simpa [Addr.add] using World.cell?_spot (hf 0 hp).2.1
   subst hspot
   have hadd:∀ j,(⟨b,off,none⟩:Addr).add j=⟨b,off+j,none⟩:=fun j=>by unfold Addr.add;split <;> simp_all
   refine ⟨b,off,rfl,fun k hk=>?_⟩
   obtain ⟨_,e0,e1,e2,e3,e4,e5,e6⟩:=hf k hk
   rw [hadd,Nat.mul_comm] at e0
   rw [hadd,Nat.mul_comm,← Nat.add_assoc] at e1 e2 e3 e4 e5 e6
   exact ⟨e0,e1,e2,e3,e4,e5,e6⟩
end
end Go.Proofs.YthbcfepbkkbjiaaGreatDoor
namespace Go.Proofs.YthbcfepbkkbjiaaGreatDoor
open Go.ChangeShapes Go.WideShapes Go.ChangeAt Go.RowKit Go.Deep
theorem nets_lifted (os:Os) (started:os.Started) (H:Type) (enc:TypeId × Value→H) (F:Stop.Interp) :
  ReturnsInHanded {} Tryz.checked os 5 .any ((OpenSpec.ofChange Rows.netsSpec).preRow enc Tryz.prog Tryz.f5 Rows.netsRow.domain false Rows.netsRow.laid) (((OpenSpec.ofChange Rows.netsSpec).at F).post enc Tryz.prog Tryz.f5 false true false false):=by
 have hx:∃ places,DataW.whole enc Tryz.prog ((laidIn Tryz.prog os).forCall (fun _ _=>0) ⟨#[],#[.slice none 0 0],[]⟩).memory Tryz.f5.params.toList Rows.netsSpec.vars false #[Value.slice none 0 0].toList 8=some ([.nil],[],places):=⟨[],by kernel_rfl⟩
 obtain ⟨places,hx⟩:=hx
 refine returnsInHanded_of_row (C:=Tryz.checked) (s:=OpenSpec.ofChange Rows.netsSpec) Tryz.own started (by kernel_rfl) Tryz.func5
  (witness_row_at (enc:=enc) (C:=Tryz.checked) false (laidIn Tryz.prog os) #[.slice none 0 0] rfl (by kernel_rfl) (by kernel_rfl) (by kernel_rfl)
   (OpenSpec.preRow_of_cond 8 hx (by kernel_rfl) (fun k hk=>by cases hk) (by kernel_rfl) (laidWorld_met os _))) ?_
 intro W base args ds gs before hval0 hW _ _ hsz0 hL _ _
 have hsz:(DataW.weightsEach Tryz.prog (Tryz.f5.params.toList++Rows.netsSpec.plain.varTypes Tryz.prog) (ds++gs)).all (·≤reachBytes)=true:=hsz0
 clear hsz0
 have hval:∀ (j:Nat) t v,Tryz.f5.params[j]?=some t→args[j]?=some v→Value.okWide Tryz.prog W .any base t v:=hval0
 have hW':=hW
 obtain ⟨p,q,hA0,hV,rfl,hfz,hnd⟩:=hW
 have hA:DataW.TrodAll enc Tryz.prog W 0 (fun _=>true) true Tryz.f5.params.toList args.toList ds p:=hA0
 rw [Tryz.params5] at hA hval hsz
 obtain ⟨v0,d0,rfl,rfl,h0⟩:=trodAll_one hA
 obtain ⟨p0,ep0⟩:∃ x,x=p:=⟨_,rfl⟩
 subst ep0
 obtain ⟨rfl,rfl⟩:=trodVars_none hV
 have k0:=h0
 have lt0:∀ x ∈ p0,x.block<W.heap.size:=by obtain ⟨m,hm⟩:=k0;exact DataW.trod_lt m _ _ _ hm
 obtain ⟨ao0,n0,c0,rfl⟩:=okWide_slice Tryz.underlying46 (hval 0 46 v0 rfl rfl)
 obtain ⟨f0,hf0⟩:=h0
 obtain ⟨D0,hm0,hD0⟩:=open_script hf0 (fun k hk=>by have:=List.all_eq_true.1 (sz_head hsz) k (by simp only [DataW.weightsEach,List.mem_append];exact Or.inl hk);simpa using this)
 obtain ⟨a1,a2,a3,a4,hSent⟩:=sent_of_laid hL
 obtain ⟨a,hLaid⟩:=laid_of hL
 clear hA0 hval0
 refine (law_nets ao0 n0 c0 D0 a1 a2 a3 a4 _ _ W hm0 hD0 hLaid hSent).mono fun e W' ⟨he,gr⟩=>?_
 subst he
 have bel:=grown_below gr
 exact ⟨_,rfl,_,_,_,[],_,[],hW',trodAll_mk1 (shut_bool Tryz.underlying4 _),trodAll_mk1 (Below.trod Tryz.laidOut (by kernel_rfl) (of_decide_eq_true (by kernel_rfl)) k0 bel lt0),rfl,bel.frame _,fun h=>by cases h⟩
theorem nets_said:Rows.NetsSaid :=
 OpenClaim.holds_of_cond 5 Tryz.f5 rfl rfl rfl rfl rfl rfl rfl ⟨rfl,rfl,rfl,rfl,rfl⟩ rfl rfl rfl rfl rfl (by kernel_rfl) Tryz.func5 (by kernel_rfl)
  (of_decide_eq_true (by kernel_rfl)) (by unfold Func.isWrapper;first | (rw [if_pos (by decide +kernel)];kernel_rfl) | (rw [if_neg (by decide +kernel)];exact ⟨rfl,rfl⟩))
  (fun os started H enc _ F=>by rw [OpenClaim.pre_eq_preRow];exact nets_lifted os started H enc F)
theorem nets_plain (f : FuncId) (fn : Func) (hf : Tryz.pinned.checked.prog.funcNamed "gauge/gaugelaw.Nets" = some f) (hfn : Tryz.pinned.checked.prog.funcs[f]? = some fn) :
  true=Tryz.pinned.checked.prog.looks []∧∀ (j:Nat) t,fn.params[j]?=some t→Tryz.pinned.checked.prog.wantsStandIn t=false:=by
 obtain rfl : f = 5 := Option.some.inj ((show Tryz.prog.funcNamed "gauge/gaugelaw.Nets" = some 5 by kernel_rfl).symm.trans hf) |>.symm
 obtain rfl:fn=Tryz.f5:=(Option.some.inj (Tryz.func5.symm.trans hfn)).symm
 refine ⟨by kernel_rfl,fun j t ht=>?_⟩
 rw [Tryz.params5] at ht
 have:t=46:=by simpa using Array.mem_of_getElem? ht
 subst this
 ·exact (show Tryz.prog.wantsStandIn 46=false by kernel_rfl)
theorem nets_holds : Rows.NetsCardSaid :=
 Claim7.holds_tied_plain_at .later [] _ _ _ _ nets_said (fun _ h=>by cases h) (by kernel_rfl) (fun _ h=>by cases h) nets_row_tie rfl ⟨rfl,rfl⟩ (by kernel_rfl) rfl nets_plain (by kernel_rfl)
end Go.Proofs.YthbcfepbkkbjiaaGreatDoor
