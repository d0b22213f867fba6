import Derived.Deep.DeepAppendWide
import Derived.Test.YthbcfepbkkbjiaaGreatDoorI2
import Derived.Test.YthbcfepbkkbjiaaGreatDoorIWA
import Derived.Test.YthbcfepbkkbjiaaGreatDoorI4
set_option linter.unusedVariables false
set_option maxRecDepth 100000
namespace Go.Proofs.YthbcfepbkkbjiaaGreatDoor
open Go.RowKit
attribute [local go_sem ↓] Go.wp_at_zero Go.wp_at_succ
def Bks (w:World) (O:Nat) (A Wr:Nat→Prop) (t:Nat):Prop :=
 ∃ (la ma:Option Addr) (lc mc:Nat) (E:Nat→Option Addr × Nat × Nat) (M:Nat→Int),
  Blk w O 36 2 2 (fun j=>if j=0 then .slice la (4*t) lc else .slice ma (4*t) mc)∧Wr O∧(∀ k,Wr k→¬ A k) ∧
  Held w 25 1 la (4*t) lc (fun i=>.slice (E i).1 (E i).2.1 (E i).2.2)∧(∀ g,own? la=some g→Wr g∧g≠O) ∧
  Held w 5 1 ma (4*t) mc (ints .u8 M)∧(∀ g,own? ma=some g→Wr g∧g≠O∧own? la≠some g) ∧
  (∀ k,A k→k<w.heap.size)∧(∀ j,0≤M j∧M j≤255) ∧
  ∀ i,i<4*t→(E i).2.1≤140737488355332∧(0<(E i).2.1→∃ b,(E i).1=some ⟨b,0,none⟩∧A b∧Mkd w b (E i).2.1 (fun _=>.int .u8 (M i)))
def CTk (w w':World) (O:Nat) (A Wr:Nat→Prop) (ao:Option Addr) (t:Nat):Prop :=
 ∃ A' Wr',(∀ k,A' k→A k∨own? ao=some k∨(w.heap.size≤k∧k<w'.heap.size))∧(∀ k,Wr' k→Wr k∨(w.heap.size≤k∧k<w'.heap.size))∧Bks w' O A' Wr' (t+1)∧Fr (fun k=>Wr k∨own? ao=some k) w w'
theorem run_append_argw {P:Program} (w:World) (t ty e:TypeId) (i:TypeInfo) (z:Value) (size bytes:Nat) (ht:P.underlying t=some (.slice e)) (hi:P.info? e=some i) (hz:i.zero=some z)
  (hsize:i.size=size) (hby:i.bytes=bytes) (hzs:z.cells.size=size) (hsz:0<size)
  (b:Addr) (n cap:Nat) (olds:List Value) (hlo:olds.length=n*size) (holds:∀ j u,olds[j]?=some u→w.cell? (b.add j)=some u)
  (a:Addr) (m c:Nat) (news:List Value) (hl:news.length=m*size) (hnews:∀ j u,news[j]?=some u→w.cell? (a.add j)=some u)
  (hg:cap<n+m) (h63:n+m≤maxLen) (hbytes:((n+m)+(n+m)/4+192)*bytes≤281474976710656) :
  ∃ v' w',(Builtin.append_ #[t,t] ty #[.slice (some b) n cap,.slice (some a) m c]).run P w=.ok v' w'∧w'.ownsRow w.heap.size e size v' (n+m) (olds++news)∧w.grownBy w' none:=by
 subst hsize
 subst hby
 have hsmall:n+m≤9223372036854775807:=by simp only [maxLen] at h63;omega
 have hlen:(olds++news).length=(n+m)*i.size:=by rw [List.length_append,hlo,hl,Nat.add_mul]
 have hge:=grownCap_ge w (n+m) cap e
 have hcm:grownCap w (n+m) cap e≤maxLen:=grownCap_le_maxLen w (n+m) cap e h63
 have hr:=run_append_grow (P:=P) w t ty e i z ht hi hz b n cap olds hlo holds a m c news hl hnews hg (by omega) (growslice_fits_wide hg hbytes)
 refine ⟨_,_,hr,⟨hlen,.inr ⟨w.heap.size,_,_,rfl,Nat.le_refl _,heap_alloc_new w.drew _,hge,hcm,?_,?_⟩⟩,⟨rfl,rfl,rfl,by simp,fun k hk _=>heap_alloc_old w.drew _ hk⟩⟩
 ·simp only [Array.size_append,List.size_toArray,size_zeroCells,hzs,hlo,hl,← Nat.add_mul]
  congr 1
  omega
 ·simp only [Array.toList_append,List.append_assoc]
  rw [← List.append_assoc,← hlen]
  exact List.take_left
theorem run_append_blkw {P:Program} (w:World) (t ty:TypeId)
  (e:TypeId) (i:TypeInfo) (z:Value) (size bytes:Nat) (ht:P.underlying t=some (.slice e)) (hi:P.info? e=some i) (hz:i.zero=some z)
  (hsize:i.size=size) (hby:i.bytes=bytes) (hzs:z.cells.size=size) (hsz:0<size)
  (ao:Option Addr) (n cap:Nat) (f:Nat→Value)
  (hv:(ao=none∧n=0∧cap=0)∨∃ g,ao=some ⟨g,0,none⟩∧Blk w g e (cap*size) (n*size) f∧n≤cap∧cap≤maxLen)
  (B m c:Nat) (arr:Array Value) (te:TypeId) (hB:w.heap[B]?=some (.cells arr te (0,0))) (hl:arr.size=m*size) (h1:∀ u ∈ arr.toList,u.oneCell'=true)
  (hm:0<m) (h63:n+m≤maxLen) (hmb:m*bytes≤140737488355328) (hbytes:((n+m)+(n+m)/4+192)*bytes≤281474976710656) :
  ∃ g' cap' w',(Builtin.append_ #[t,t] ty #[.slice ao n cap,.slice (some ⟨B,0,none⟩) m c]).run P w=.ok (.slice (some ⟨g',0,none⟩) (n+m) cap') w' ∧
   Blk w' g' e (cap'*size) ((n+m)*size) (fun j=>if j<n*size then f j else arr.getD (j-n*size) .nilFunc)∧n+m≤cap'∧cap'≤maxLen ∧
   ((n+m≤cap∧ao=some ⟨g',0,none⟩∧cap'=cap∧w.grownBy w' (some g'))∨(cap<n+m∧w.heap.size≤g'∧w.grownBy w' none)):=by
 have key:∀ (olds:List Value) (g' cap':Nat) (w':World),olds.length=n*size→(∀ j,j<n*size→olds.getD j .nilFunc=f j)→Blk w' g' e (cap'*size) ((n+m)*size) (fun j=>(olds++arr.toList).getD j .nilFunc) →
   Blk w' g' e (cap'*size) ((n+m)*size) (fun j=>if j<n*size then f j else arr.getD (j-n*size) .nilFunc):=by
  intro olds g' cap' w' hlen hol hb
  refine hb.congr fun j hj=>?_
  by_cases hjn:j<n*size
  ·rw [if_pos hjn,← hol j hjn]
   simp [List.getD,List.getElem?_append_left (by omega:j<olds.length)]
  ·rw [if_neg hjn]
   simp [List.getD,List.getElem?_append_right (by omega:olds.length≤j),hlen,Array.getD_eq_getD_getElem?]
 have grow:∀ (olds:List Value) v' w',olds.length=n*size→(∀ j,j<n*size→olds.getD j .nilFunc=f j)→cap<n+m→w'.ownsRow w.heap.size e size v' (n+m) (olds++arr.toList)→w.grownBy w' none →
   ∃ g' cap',v'=.slice (some ⟨g',0,none⟩) (n+m) cap'∧Blk w' g' e (cap'*size) ((n+m)*size) (fun j=>if j<n*size then f j else arr.getD (j-n*size) .nilFunc)∧n+m≤cap'∧cap'≤maxLen ∧
   ((n+m≤cap∧ao=some ⟨g',0,none⟩∧cap'=cap∧w.grownBy w' (some g'))∨(cap<n+m∧w.heap.size≤g'∧w.grownBy w' none)):=by
  intro olds v' w' hlen hol hcap how hgr
  have how2:=how
  rcases how.2 with ⟨_,h0⟩ | ⟨g',cap',cur,rfl,hb,_,hn',hm',_⟩
  ·omega
  ·have q:=blk_of_owns how2
   exact ⟨g',cap',rfl,key olds g' cap' w' hlen hol q.2.2.2,hn',hm',Or.inr ⟨hcap,hb,hgr⟩⟩
 rcases hv with ⟨rfl,rfl,rfl⟩ | ⟨g,rfl,hblk,hn,hcm⟩
 ·obtain ⟨v',w',hr,how,hgr,_⟩:=run_append_own_at (P:=P) w w.heap.size t ty e i z size bytes ht hi hz hsize hby hzs hsz (.slice none 0 0) 0 [] (World.ownsRow_nil _ _ _ _) ⟨B,0,none⟩ m c arr.toList (by simpa using hl) (World.news_of_block hB) h1 h63 (by rw [Nat.zero_add];exact hmb) (Nat.le_refl _)
  obtain ⟨g',cap',rfl,r⟩:=grow [] v' w' (by simp) (fun j hj=>by simp at hj) (by omega) how hgr
  exact ⟨g',cap',w',hr,r⟩
 ·by_cases hroom:n+m≤cap
  ·obtain ⟨w',hr,how,hgr⟩:=run_append_fits (P:=P) w g t ty e i size ht hi hsize g n cap _ (owns_of_blk hblk hn hcm) ⟨B,0,none⟩ m c arr.toList (by simpa using hl) (World.news_of_block hB) h1 hroom
   have q:=blk_of_owns how
   exact ⟨g,cap,w',hr,key _ g cap w' (by simp) (fun j hj=>by simp [List.getD,hj]) q.2.2.2,hroom,hcm,Or.inl ⟨hroom,rfl,rfl,hgr⟩⟩
  ·obtain ⟨v',w',hr,how,hgr⟩:=run_append_argw (P:=P) w t ty e i z size bytes ht hi hz hsize hby hzs hsz ⟨g,0,none⟩ n cap ((List.range (n*size)).map f) (by simp) (fun j u hu=>(owns_of_blk hblk hn hcm).cells rfl j u hu) ⟨B,0,none⟩ m c arr.toList (by simpa using hl) (World.news_of_block hB) (by omega) h63 hbytes
   obtain ⟨g',cap',rfl,r⟩:=grow _ v' w' (by simp) (fun j hj=>by simp [List.getD,hj]) (by omega) how hgr
   exact ⟨g',cap',w',hr,r⟩
theorem wp_append_blkw {P:Program} (w:World) {o:Oper} {a:Act} {K:Act→World→Prop} {Q:Exit→Act→World→Prop}
  (s x:Operand) (t:TypeId) (ho:o.op=.call { callee:=.builtin .append,args:=#[s,x],argTypes:=#[t,t] })
  (e:TypeId) (i:TypeInfo) (z:Value) (size bytes:Nat) (ht:P.underlying t=some (.slice e)) (hi:P.info? e=some i) (hz:i.zero=some z)
  (hsize:i.size=size) (hby:i.bytes=bytes) (hzs:z.cells.size=size) (hsz:0<size)
  (ao:Option Addr) (n cap:Nat) (f:Nat→Value) (hs:a.eval s=.slice ao n cap)
  (hv:(ao=none∧n=0∧cap=0)∨∃ g,ao=some ⟨g,0,none⟩∧Blk w g e (cap*size) (n*size) f∧n≤cap∧cap≤maxLen)
  (B m c:Nat) (arr:Array Value) (te:TypeId) (hx:a.eval x=.slice (some ⟨B,0,none⟩) m c) (hB:w.heap[B]?=some (.cells arr te (0,0))) (hl:arr.size=m*size) (h1:∀ u ∈ arr.toList,u.oneCell'=true)
  (hm:0<m) (h63:n+m≤maxLen) (hmb:m*bytes≤140737488355328) (hbytes:((n+m)+(n+m)/4+192)*bytes≤281474976710656)
  (h:∀ g' cap' w',Blk w' g' e (cap'*size) ((n+m)*size) (fun j=>if j<n*size then f j else arr.getD (j-n*size) .nilFunc)→n+m≤cap'→cap'≤maxLen →
   ((n+m≤cap∧ao=some ⟨g',0,none⟩∧cap'=cap∧w.grownBy w' (some g'))∨(cap<n+m∧w.heap.size≤g'∧w.grownBy w' none)) →
   K (a.put o.dst (.slice (some ⟨g',0,none⟩) (n+m) cap')) w'):o.wp P a w K Q:=by
 obtain ⟨g',cap',w',hr,r1,r2,r3,r4⟩:=run_append_blkw (P:=P) w t o.type e i z size bytes ht hi hz hsize hby hzs hsz ao n cap f hv B m c arr te hB hl h1 hm h63 hmb hbytes
 unfold Oper.wp execOp
 simp only [ho,resolve,invoke,builtin,Sem.run_bind,Sem.run_pure,Result.andThen_ok,List.map_toArray,List.map_cons,List.map_nil,hs,hx,hr]
 exact h g' cap' w' r1 r2 r3 r4
theorem wpList_append_heldw {P:Program} (w:World) {ops:Array Oper} {rest:List Oper} {o:Oper} {a:Act} {Q:Exit→Act→World→Prop}
  (hgd:o.guard=none) (s x:Operand) (t:TypeId) (ho:o.op=.call { callee:=.builtin .append,args:=#[s,x],argTypes:=#[t,t] })
  (e:TypeId) (i:TypeInfo) (z:Value) (size bytes:Nat) (ht:P.underlying t=some (.slice e)) (hi:P.info? e=some i) (hz:i.zero=some z)
  (hsize:i.size=size) (hby:i.bytes=bytes) (hzs:z.cells.size=size) (hsz:0<size)
  (ao:Option Addr) (n cap:Nat) (f:Nat→Value) (hs:a.eval s=.slice ao n cap) (hv:Held w e size ao n cap f)
  (B m c:Nat) (arr:Array Value) (te:TypeId) (hx:a.eval x=.slice (some ⟨B,0,none⟩) m c) (hB:w.heap[B]?=some (.cells arr te (0,0))) (hl:arr.size=m*size) (h1:∀ u ∈ arr.toList,u.oneCell'=true)
  (hm:0<m) (h63:n+m≤maxLen) (hmb:m*bytes≤140737488355328) (hbytes:((n+m)+(n+m)/4+192)*bytes≤281474976710656)
  (f':Nat→Value) (hf:∀ j,j<n*size→f j=f' j) (hf':∀ j,j<m*size→arr.getD j .nilFunc=f' (n*size+j))
  (h:∀ g' cap' w',Blk w' g' e (cap'*size) ((n+m)*size) f'→n+m≤cap'→cap'≤maxLen→Held w' e size ao n cap f'→w.grownBy w' (own? ao)→(own? ao=some g'∨w.heap.size≤g')→(∀ b L,Mkd w b L f'→L≤(n+m)*size→Mkd w' b L f') →
   wpList P ops Q rest (a.put o.dst (.slice (some ⟨g',0,none⟩) (n+m) cap')) w'):wpList P ops Q (o::rest) a w:=by
 refine wpList_plain hgd fun _ hK=>wp_append_blkw w s x t ho e i z size bytes ht hi hz hsize hby hzs hsz ao n cap f hs hv B m c arr te hx hB hl h1 hm h63 hmb hbytes fun g' cap' w' hb hc hcm hor=>hK _ _ ?_
 have hb':Blk w' g' e (cap'*size) ((n+m)*size) f':=hb.congr fun j hj=>by
  by_cases hjn:j<n*size
  ·rw [if_pos hjn];exact hf j hjn
  ·rw [if_neg hjn,hf' _ (by rw [Nat.add_mul] at hj;omega),show n*size+(j-n*size)=j by omega]
 rcases hor with ⟨hroom,rfl,rfl,hg⟩ | ⟨_,hlt,hg⟩
 ·refine h g' cap' w' hb' hc hcm (Or.inr ⟨g',rfl,hb'.less (Nat.mul_le_mul_right _ (by omega)),by omega,hcm⟩) hg (Or.inl rfl) fun b L hM hL=>?_
  by_cases hbg:b=g'
  ·subst hbg;exact ⟨_,_,hb'.less hL⟩
  ·obtain ⟨e1,N1,hB1⟩:=hM;exact ⟨e1,N1,hB1.keep hg (by simpa using hbg)⟩
 ·refine h g' cap' w' hb' hc hcm ?_ (grown_weak hg _) (Or.inr hlt) (fun b L hM _=>by obtain ⟨e1,N1,hB1⟩:=hM;exact ⟨e1,N1,hB1.keep hg (by simp)⟩)
  rcases hv with hv | ⟨g,rfl,hb0,r⟩
  ·exact Or.inl hv
  ·exact Or.inr ⟨g,rfl,(hb0.keep hg (by simp)).congr hf,r⟩
set_option maxHeartbeats 1000000 in
theorem ckept_any (O:Nat) (A Wr:Nat→Prop) (t:Nat) (w:World) (ht:t≤1700000000000) (h:Bks w O A Wr t) :
  Calls Tryz.prog 21 #[.pointer (some ⟨O,0,none⟩)] w fun e w'=>e=.returned (.bool true)∧w.grownBy w' none:=by
 obtain ⟨la,ma,lc,mc,E,M,h1,h2,h3,h4,h5,h6,h7,h8,h9,h10⟩:=h
 go_enter Tryz.func21,Tryz.ntmps21
 go_wp2
 go_loopw [3] (fun i wr=>∃ k:Nat,k≤4*t∧i=.int .i64 k∧w.grownBy wr none) (fun i _=>4*t-(intOf i).toNat)
 case atStart=>exact ⟨0,by omega,rfl,grown_refl _ _⟩
 case round =>
  obtain ⟨k,hk,rfl,hgr⟩:=hrel
  have hO:=h1.keep hgr (by simp)
  have o0:wr.cell? ⟨O,0,none⟩=some (.slice la (4*t) lc):=hO.cell (j:=0) (by omega)
  have o1:wr.cell? ⟨O,1,none⟩=some (.slice ma (4*t) mc):=hO.cell (j:=1) (by omega)
  by_cases hlt:k<4*t
  ·obtain ⟨hen,hM⟩:=h10 k hlt
   rcases h4.keep hgr (Or.inl rfl) with ⟨_,h0,_⟩ | ⟨gl,rfl,hbl,_⟩
   ·omega
   rcases h6.keep hgr (Or.inl rfl) with ⟨_,h0,_⟩ | ⟨gm,rfl,hbm,_⟩
   ·omega
   have hc:wr.cell? ⟨gl,k,none⟩=some (.slice (E k).1 (E k).2.1 (E k).2.2):=hbl.cell (by omega)
   have hm:wr.cell? ⟨gm,k,none⟩=some (.int .u8 (M k)):=hbm.cell (by omega)
   generalize (E k).1=ea at hc hM
   generalize (E k).2.1=en at hc hM hen
   generalize (E k).2.2=ec at hc
   clear h10 h4 h6 hO hbl hbm h1
   obtain ⟨wo,hwo⟩:∃ x,x=wr:=⟨_,rfl⟩
   subst hwo
   go_wp2
   go_loopw [4] (fun j wq=>∃ i:Nat,i≤en∧j=.int .i64 i∧wo.grownBy wq none) (fun j _=>en-(intOf j).toNat)
   case atStart=>exact ⟨0,by omega,rfl,grown_refl _ _⟩
   case round =>
    obtain ⟨i,hi,rfl,hgq⟩:=hrel
    have q0:=hgq.cell o0 (by simp)
    have q1:=hgq.cell o1 (by simp)
    have q2:=hgq.cell hc (by simp)
    have q3:=hgq.cell hm (by simp)
    have hgw:=grown_trans hgr hgq
    by_cases hlt2:i<en
    ·obtain ⟨b,rfl,_,hMb⟩:=hM (by omega)
     have q4:wr.cell? ⟨b,i,none⟩=some (.int .u8 (M k)):=(hMb.same (hgw.block b hMb.lt (by simp))).cell hlt2
     have t1:(k:Int)<4*(t:Int):=by omega
     have t2:(i:Int)<(en:Int):=by omega
     clear hM hMb o0 o1 hc hm
     go_wp2
     go_quiet (fail)
     go_wp2
     go_roundw
     case rel=>exact ⟨i+1,by omega,by go_num,grown_none hgq (grown_drewN _ _ _)⟩
     case measure=>simp [intOf];omega
    ·clear o0 o1 hc hm
     go_wp2
     go_roundw
     case rel=>exact ⟨k+1,by omega,by go_num,hgw⟩
     case measure=>simp [intOf];omega
  ·go_wp2
   go_ret
   exact ⟨rfl,hgr⟩
theorem ctake_end {w w3 w4 w5:World} {O:Nat} {A Wr:Nat→Prop} {t:Nat} {ao la ma:Option Addr} {n cap:Nat} {E:Nat→Option Addr × Nat × Nat} {M:Nat→Int} {X:Int} {o4 o5:Obj} {v4:Value}
  {g1 p1 g2 p2 g3 p3 g4 p4 g5 p5 lc mc:Nat} (hOw:O<w.heap.size) (hn:n≤140737488355320) (hX:0≤X∧X≤255)
  (h2:Wr O) (h3:∀ k,Wr k→¬ A k) (h4:∀ g,own? la=some g→g<w.heap.size) (h5:∀ g,own? la=some g→Wr g∧g≠O) (h6:∀ g,own? ma=some g→g<w.heap.size)
  (h7:∀ g,own? ma=some g→Wr g∧g≠O∧own? la≠some g) (h8:∀ k,A k→k<w.heap.size) (h9:∀ j,0≤M j∧M j≤255)
  (h10:∀ i,i<4*t→(E i).2.1≤140737488355332∧(0<(E i).2.1→∃ b,(E i).1=some ⟨b,0,none⟩∧A b∧Mkd w b (E i).2.1 (fun _=>.int .u8 (M i))))
  (hc:∀ g,own? ao=some g→¬ A g∧¬ Wr g) (H3:w.grownBy w3 (own? ao)) (hM3:Held w3 5 1 ao n cap (fun _=>.int .u8 X))
  (M1:Mkd w3 g1 ((n+1)*1) (fun _=>.int .u8 X)) (M2:Mkd w3 g2 ((n+2)*1) (fun _=>.int .u8 X)) (M3:Mkd w3 g3 ((n+3)*1) (fun _=>.int .u8 X))
  (r1:own? ao=some g1∨w.heap.size≤g1) (r2:own? ao=some g2∨w.heap.size≤g2) (r3:own? ao=some g3∨w.heap.size≤g3)
  (G4:(w3.alloc o4).grownBy w4 (own? la))
  (B4:Blk w4 g4 25 (p4*1) ((4*t+4)*1) (fun i=>sl (newE E (4*t) (ao,n,cap) (some ⟨g1,0,none⟩,n+1,p1) (some ⟨g2,0,none⟩,n+2,p2) (some ⟨g3,0,none⟩,n+3,p3) i)))
  (c4:4*t+4≤p4) (d4:p4≤maxLen) (r4:own? la=some g4∨(w3.alloc o4).heap.size≤g4)
  (G5:((w4.setCell ⟨O,0,none⟩ v4).alloc o5).grownBy w5 (own? ma)) (B5:Blk w5 g5 5 (p5*1) ((4*t+4)*1) (ints .u8 (newM M (4*t) X)))
  (c5:4*t+4≤p5) (d5:p5≤maxLen) (r5:own? ma=some g5∨((w4.setCell ⟨O,0,none⟩ v4).alloc o5).heap.size≤g5)
  (O5:Blk w5 O 36 2 2 (fun i=>if i=0 then .slice (some ⟨g4,0,none⟩) (4*t+4) p4 else (if i=0 then .slice la (4*t) lc else .slice ma (4*t) mc))) :
  CTk w (w5.setCell ⟨O,1,none⟩ (.slice (some ⟨g5,0,none⟩) (4*t+4) p5)) O A Wr ao t:=by
 obtain ⟨W',hW'⟩:∃ W',W'=w5.setCell ⟨O,1,none⟩ (.slice (some ⟨g5,0,none⟩) (4*t+4) p5):=⟨_,rfl⟩
 have sW:W'.heap.size=w5.heap.size:=by rw [hW',size_setCell]
 have s3:=H3.size
 have s4:=G4.size
 have s5:=G5.size
 simp only [World.size_alloc,size_setCell] at s4 s5 r4 r5
 have l1:=M1.lt
 have l2:=M2.lt
 have l3:=M3.lt
 have l4:=B4.lt
 have l5:=B5.lt
 have chain3:∀ k,k<w3.heap.size→own? la≠some k→own? ma≠some k→k≠O→W'.heap[k]?=w3.heap[k]?:=by
  intro k hk hl hm hO
  rw [hW',Below.heap_setCell _ _ _ _ hO,G5.block k (by simp;omega) (fun e=>hm e.symm),Below.heap_alloc _ _ _ (by rw [size_setCell];omega),Below.heap_setCell _ _ _ _ hO,G4.block k (by simp;omega) (fun e=>hl e.symm),Below.heap_alloc _ _ _ hk]
 have chain4:∀ k,k<w4.heap.size→own? ma≠some k→k≠O→W'.heap[k]?=w4.heap[k]?:=by
  intro k hk hm hO
  rw [hW',Below.heap_setCell _ _ _ _ hO,G5.block k (by simp;omega) (fun e=>hm e.symm),Below.heap_alloc _ _ _ (by rw [size_setCell];omega),Below.heap_setCell _ _ _ _ hO]
 have chain:∀ k,A k→W'.heap[k]?=w.heap[k]?:=by
  intro k hk
  have hl:=h8 k hk
  rw [chain3 k (by omega) (fun e=>h3 k (h5 k e).1 hk) (fun e=>h3 k (h7 k e).1 hk) (fun e=>h3 O h2 (e ▸ hk)),H3.block k hl (fun e=>(hc k e.symm).1 hk)]
 have far:∀ g,(own? ao=some g∨w.heap.size≤g)→own? la≠some g∧own? ma≠some g:=by
  intro g hg
  constructor
  ·intro e
   rcases hg with hg | hg
   ·exact (hc g hg).2 (h5 g e).1
   ·have:=h4 g e;omega
  ·intro e
   rcases hg with hg | hg
   ·exact (hc g hg).2 (h7 g e).1
   ·have:=h6 g e;omega
 have hON:∀ g,(own? ao=some g∨w.heap.size≤g)→g≠O:=by
  intro g hg e
  rcases hg with hg | hg
  ·exact (hc g hg).2 (e ▸ h2)
  ·omega
 have hao:∀ g,own? ao=some g→g<w3.heap.size:=hM3.lt
 have n4O:g4≠O:=by
  rcases r4 with h | h
  ·exact (h5 g4 h).2
  ·omega
 have n5O:g5≠O:=by
  rcases r5 with h | h
  ·exact (h7 g5 h).2.1
  ·omega
 have n4m:own? ma≠some g4:=by
  intro e
  rcases r4 with h | h
  ·exact (h7 g4 e).2.2 h
  ·have:=h6 g4 e;omega
 have n45:g4≠g5:=by
  intro e
  rcases r5 with h | h
  ·exact n4m (e ▸ h)
  ·omega
 have A4:∀ g,A g∨own? ao=some g∨g=g1∨g=g2∨g=g3→g≠g4∧g≠g5∧g≠O:=by
  intro g hg
  have key:A g∨(own? ao=some g∨w.heap.size≤g)∧g<w3.heap.size:=by
   rcases hg with h | h | rfl | rfl | rfl
   ·exact Or.inl h
   ·exact Or.inr ⟨Or.inl h,hao g h⟩
   ·exact Or.inr ⟨r1,l1⟩
   ·exact Or.inr ⟨r2,l2⟩
   ·exact Or.inr ⟨r3,l3⟩
  rcases key with h | ⟨h,hl⟩
  ·have:=h8 g h
   refine ⟨fun e=>?_,fun e=>?_,fun e=>h3 O h2 (e ▸ h)⟩
   ·rcases r4 with q | q
    ·exact h3 g4 (h5 g4 q).1 (e ▸ h)
    ·omega
   ·rcases r5 with q | q
    ·exact h3 g5 (h7 g5 q).1 (e ▸ h)
    ·omega
  ·refine ⟨fun e=>?_,fun e=>?_,hON g h⟩
   ·rcases r4 with q | q
    ·exact (far g h).1 (e ▸ q)
    ·omega
   ·rcases r5 with q | q
    ·exact (far g h).2 (e ▸ q)
    ·omega
 have mk3:∀ g L,(own? ao=some g∨w.heap.size≤g)→Mkd w3 g L (fun _=>Value.int .u8 X)→Mkd W' g L (fun _=>Value.int .u8 X):=fun g L hg hM =>
  hM.same (chain3 g hM.lt (far g hg).1 (far g hg).2 (hON g hg))
 rw [← hW']
 refine ⟨fun g=>A g∨own? ao=some g∨g=g1∨g=g2∨g=g3,fun g=>g=O∨g=g4∨g=g5,?_,?_,?_,?_⟩
 ·intro k hk
  rcases hk with h | h | rfl | rfl | rfl
  ·exact Or.inl h
  ·exact Or.inr (Or.inl h)
  ·exact Or.inr (r1.imp id fun h=>⟨h,by omega⟩)
  ·exact Or.inr (r2.imp id fun h=>⟨h,by omega⟩)
  ·exact Or.inr (r3.imp id fun h=>⟨h,by omega⟩)
 ·intro k hk
  rcases hk with rfl | rfl | rfl
  ·exact Or.inl h2
  ·rcases r4 with h | h
   ·exact Or.inl (h5 _ h).1
   ·exact Or.inr ⟨by omega,by omega⟩
  ·rcases r5 with h | h
   ·exact Or.inl (h7 _ h).1
   ·exact Or.inr ⟨by omega,by omega⟩
 ·have e4:4*(t+1)=4*t+4:=by omega
  refine ⟨some ⟨g4,0,none⟩,some ⟨g5,0,none⟩,p4,p5,newE E (4*t) (ao,n,cap) (some ⟨g1,0,none⟩,n+1,p1) (some ⟨g2,0,none⟩,n+2,p2) (some ⟨g3,0,none⟩,n+3,p3),newM M (4*t) X,?_,Or.inl rfl,?_,?_,?_,?_,?_,?_,?_,?_⟩
  ·rw [e4,hW']
   refine (O5.set' (j:=1) (by omega) _).congr fun j hj=>?_
   match j,hj with
   | 0,_=>rfl
   | 1,_=>rfl
  ·intro k hk hA
   rcases hk with rfl | rfl | rfl
   ·exact (A4 _ hA).2.2 rfl
   ·exact (A4 _ hA).1 rfl
   ·exact (A4 _ hA).2.1 rfl
  ·rw [e4]
   exact Or.inr ⟨g4,rfl,B4.same (chain4 g4 l4 n4m n4O),c4,d4⟩
  ·intro g hg
   cases hg
   exact ⟨Or.inr (Or.inl rfl),n4O⟩
  ·rw [e4,hW']
   exact Or.inr ⟨g5,rfl,B5.setOther (a:=⟨O,1,none⟩) (fun e=>n5O e.symm) _,c5,d5⟩
  ·intro g hg
   cases hg
   exact ⟨Or.inr (Or.inr rfl),n5O,fun e=>by cases e;exact n45 rfl⟩
  ·intro k hk
   rcases hk with h | h | rfl | rfl | rfl
   ·have:=h8 k h;omega
   ·have:=hao k h;omega
   ·omega
   ·omega
   ·omega
  ·intro j
   unfold newM
   split
   ·exact h9 j
   ·exact hX
  ·intro i hi
   by_cases hlt:i<4*t
   ·rw [newE_old _ _ _ _ _ _ _ hlt]
    have hm:newM M (4*t) X i=M i:=if_pos hlt
    rw [hm]
    refine ⟨(h10 i hlt).1,fun hp=>?_⟩
    obtain ⟨b,e1,e2,e3⟩:=(h10 i hlt).2 hp
    exact ⟨b,e1,Or.inl e2,e3.same (chain b e2)⟩
   ·have hm:newM M (4*t) X i=X:=if_neg hlt
    rw [hm]
    obtain ⟨d,hd⟩:∃ d,i=4*t+d:=⟨i-4*t,by omega⟩
    subst hd
    have hd4:d<4:=by omega
    match d,hd4 with
    | 0,_ =>
     rw [newE_z]
     refine ⟨by show n≤_;omega,fun hp=>?_⟩
     rcases hM3 with ⟨_,h0,_⟩ | ⟨g,rfl,hb,_⟩
     ·have:0<n:=hp
      omega
     ·exact ⟨g,rfl,Or.inr (Or.inl rfl),mk3 g n (Or.inl rfl) ⟨_,_,by simpa using hb⟩⟩
    | 1,_=>rw [newE_1];exact ⟨by show n+1≤_;omega,fun _=>⟨g1,rfl,Or.inr (Or.inr (Or.inl rfl)),mk3 g1 (n+1) r1 (by simpa using M1)⟩⟩
    | 2,_=>rw [newE_2];exact ⟨by show n+2≤_;omega,fun _=>⟨g2,rfl,Or.inr (Or.inr (Or.inr (Or.inl rfl))),mk3 g2 (n+2) r2 (by simpa using M2)⟩⟩
    | 3,_=>rw [newE_3];exact ⟨by show n+3≤_;omega,fun _=>⟨g3,rfl,Or.inr (Or.inr (Or.inr (Or.inr rfl))),mk3 g3 (n+3) r3 (by simpa using M3)⟩⟩
 ·refine ⟨?_,?_,?_,by omega,fun k hk hu=>?_⟩
  ·rw [hW'];exact G5.os.trans (G4.os.trans H3.os)
  ·rw [hW'];exact G5.tape.trans (G4.tape.trans H3.tape)
  ·rw [hW'];exact G5.output.trans (G4.output.trans H3.output)
  ·rw [chain3 k (by omega) (fun e=>hu (Or.inl (h5 k e).1)) (fun e=>hu (Or.inl (h7 k e).1)) (fun e=>hu (Or.inl (e ▸ h2))),H3.block k hk (fun e=>hu (Or.inr e.symm))]
set_option maxHeartbeats 2000000 in
theorem ctake_any (O:Nat) (A Wr:Nat→Prop) (t:Nat) (ao:Option Addr) (n cap:Nat) (f:Nat→Value) (w:World) (ht:t≤1650000000000) (hn:n≤140737488355320) (h:Bks w O A Wr t)
  (hv:Held w 5 1 ao n cap f) (hc:∀ g,own? ao=some g→¬ A g∧¬ Wr g) :
  Calls Tryz.prog 18 #[.pointer (some ⟨O,0,none⟩),.slice ao n cap] w
   fun e w'=>e=.returned (.tuple #[])∧CTk w w' O A Wr ao t:=by
 obtain ⟨la,ma,lc,mc,E,M,h1,h2,h3,h4,h5,h6,h7,h8,h9,h10⟩:=h
 obtain ⟨i0,hi,hz0,hz1,hz2⟩:=info_parts Tryz.infoByte
 obtain ⟨i1,hi1,hy0,hy1,hy2⟩:=info_parts Tryz.infoBytes
 have o1:w.cell? ⟨O,1,none⟩=some (.slice ma (4*t) mc):=h1.cell (j:=1) (by omega)
 have hX:Hid (markOf t=markOf t):=rfl
 go_enter Tryz.func18,Tryz.ntmps18
 go_wp2
 generalize hXe:(100+(t:Int)%150)=X
 have hXb:0≤X∧X≤255:=by omega
 clear hXe
 have hlo:=hv.lt
 go_loopw [5] (fun i wr=>∃ k:Nat,k≤n∧i=.int .i64 k∧w.grownBy wr (own? ao)∧Held wr 5 1 ao n cap (mbTo f (.int .u8 X) k)) (fun i _=>n-(intOf i).toNat)
 case atStart=>exact ⟨0,Nat.zero_le _,rfl,grown_refl _ _,hv.congr fun j _=>by simp [mbTo]⟩
 case round =>
  obtain ⟨k,hk,rfl,hgr,hh⟩:=hrel
  by_cases hlt:k<n
  ·rcases hh with ⟨_,h0,_⟩ | ⟨g,rfl,hbk,hcap⟩
   ·omega
   have e0:=hbk.cell (j:=k) (by omega)
   have f0:=hbk.frozen k
   have Q1:=hbk.set' (j:=k) (by omega) (.int .u8 X)
   clear h1 h4 h6 h10 o1
   go_wp2
   go_roundw
   case rel=>exact ⟨k+1,by omega,by go_num,grown_trans hgr (grown_setCell _ _ _),Or.inr ⟨g,rfl,Q1.congr fun j _=>mbTo_succ f _ k j,hcap⟩⟩
   case measure=>simp [intOf];omega
  ·have:k=n:=by omega
   subst this
   have hM:Held wr 5 1 ao k cap (fun _=>.int .u8 X):=hh.congr fun j hj=>by simp only [mbTo];rw [if_pos (by omega)]
   have hOc:∀ g,own? ao=some g→g=O→False:=fun g hg e=>(hc g hg).2 (e ▸ h2)
   have hOl:∀ g,own? la=some g→g=O→False:=fun g hg e=>(h5 g hg).2 e
   have hlc:∀ _:Unit,own? ao=none∨own? la≠own? ao:=fun _=>by
    cases hrow:own? ao with
    | none=>exact Or.inl rfl
    | some g=>exact Or.inr fun e=>(hc g hrow).2 (h5 g e).1
   have hmO:own? ma≠some O:=fun e=>(h7 O e).2.1 rfl
   have hmc:∀ _:Unit,own? ao=none∨own? ma≠own? ao:=fun _=>by
    cases hrow:own? ao with
    | none=>exact Or.inl rfl
    | some g=>exact Or.inr fun e=>(hc g hrow).2 (h7 g e).1
   have hml:∀ _:Unit,own? la=none∨own? ma≠own? la:=fun _=>by
    cases hrow:own? la with
    | none=>exact Or.inl rfl
    | some g=>exact Or.inr fun e=>(h7 g e).2.2 hrow
   clear hh hv o1
   go_wp2_with (first | (at_builtin;refine wpList_append_held _ rfl (.tmp 28) (.tmp 30) 25 rfl 5 i0 _ 1 1 Tryz.underlying25 hi hz0 hz1 hz2 rfl (by decide) ao k cap _ rfl (hM.alloc _) _ 1 1 _ _ rfl (heap_top _ _ _ (by simp)) rfl (by simp [Value.oneCell']) (by decide) (by unfold maxLen;omega) (by omega) (fun _=>.int .u8 X) (fun _ _=>rfl) (same1 _) ?_;intro g1 p1 w1 B1 c1 d1 hM1 G1 r1 K1;have H1:=grown_trans (grown_alloc hgr _) G1) | (at_builtin;refine wpList_append_held _ rfl (.tmp 32) (.tmp 35) 25 rfl 5 i0 _ 1 1 Tryz.underlying25 hi hz0 hz1 hz2 rfl (by decide) ao k cap _ rfl (hM1.alloc _) _ 2 2 _ _ rfl (heap_top _ _ _ (by simp)) rfl (by simp [Value.oneCell']) (by decide) (by unfold maxLen;omega) (by omega) (fun _=>.int .u8 X) (fun _ _=>rfl) (same2 _) ?_;intro g2 p2 w2 B2 c2 d2 hM2 G2 r2 K2;have H2:=grown_trans (grown_alloc H1 _) G2) | (at_builtin;refine wpList_append_held _ rfl (.tmp 37) (.tmp 41) 25 rfl 5 i0 _ 1 1 Tryz.underlying25 hi hz0 hz1 hz2 rfl (by decide) ao k cap _ rfl (hM2.alloc _) _ 3 3 _ _ rfl (heap_top _ _ _ (by simp)) rfl (by simp [Value.oneCell']) (by decide) (by unfold maxLen;omega) (by omega) (fun _=>.int .u8 X) (fun _ _=>rfl) (same3 _) ?_;intro g3 p3 w3 B3 c3 d3 hM3 G3 r3 K3;have H3:=grown_trans (grown_alloc H2 _) G3;have O3:=h1.keep H3 (fun e=>hOc _ e.symm rfl);have o30:w3.cell? ⟨O,0,none⟩=some (.slice la (4*t) lc):=O3.cell (j:=0) (by omega);have L3:=h4.keep H3 (hlc ())) | (at_builtin;refine wpList_append_heldw _ rfl (.tmp 47) (.tmp 52) 33 rfl 25 i1 _ 1 24 Tryz.underlying33 hi1 hy0 hy1 hy2 rfl (by decide) la (4*t) lc _ rfl (L3.alloc _) _ 4 4 _ _ rfl (heap_top _ _ _ (by simp)) rfl (by simp [Value.oneCell']) (by decide) (by unfold maxLen;omega) (by omega) (by omega) (fun i=>sl (newE E (4*t) (ao,k,cap) (some ⟨g1,0,none⟩,k+1,p1) (some ⟨g2,0,none⟩,k+2,p2) (some ⟨g3,0,none⟩,k+3,p3) i)) (fun j hj=>by rw [newE_old _ _ _ _ _ _ _ (by omega)];rfl) (newE_arr E (4*t) (ao,k,cap) (some ⟨g1,0,none⟩,k+1,p1) (some ⟨g2,0,none⟩,k+2,p2) (some ⟨g3,0,none⟩,k+3,p3)) ?_;intro g4 p4 w4 B4 c4 d4 hM4 G4 r4 K4;have O4:=(O3.alloc _).keep G4 (fun e=>hOl _ e.symm rfl);have o40:=O4.cell (j:=0) (by omega);have f40:=O4.frozen 0;have O4s:=O4.set' (j:=0) (by omega) (.slice (some ⟨g4,0,none⟩) (4*t+4) p4);have o41:(w4.setCell ⟨O,0,none⟩ (.slice (some ⟨g4,0,none⟩) (4*t+4) p4)).cell? ⟨O,1,none⟩=some (.slice ma (4*t) mc):=O4s.cell (j:=1) (by omega);have Ma5:=(((h6.keep H3 (hmc ())).alloc _).keep G4 (hml ())).keep (grown_setCell w4 ⟨O,0,none⟩ (.slice (some ⟨g4,0,none⟩) (4*t+4) p4)) (Or.inr hmO)) | (at_builtin;refine wpList_append_held _ rfl (.tmp 60) (.tmp 65) 25 rfl 5 i0 _ 1 1 Tryz.underlying25 hi hz0 hz1 hz2 rfl (by decide) ma (4*t) mc _ rfl (Ma5.alloc _) _ 4 4 _ _ rfl (heap_top _ _ _ (by simp)) rfl (by simp [Value.oneCell']) (by decide) (by unfold maxLen;omega) (by omega) (ints .u8 (newM M (4*t) X)) (newM_old M (4*t) X) (newM_arr M (4*t) X) ?_;intro g5 p5 w5 B5 c5 d5 hM5 G5 r5 K5;have O5:=(O4s.alloc _).keep G5 (fun e=>hmO e.symm);have o51:=O5.cell (j:=1) (by omega);have f51:=O5.frozen 1))
   go_end0
   refine ⟨rfl,?_⟩
   have M1:Mkd w3 g1 ((k+1)*1) (fun _=>.int .u8 X):=K3 _ _ ((K2 _ _ (Mkd.alloc ⟨_,_,B1⟩ _) (by omega)).alloc _) (by omega)
   have M2:Mkd w3 g2 ((k+2)*1) (fun _=>.int .u8 X):=K3 _ _ (Mkd.alloc ⟨_,_,B2⟩ _) (by omega)
   have M3:Mkd w3 g3 ((k+3)*1) (fun _=>.int .u8 X):=⟨_,_,B3⟩
   have z0:=hgr.size
   have z1:=H1.size
   have z2:=H2.size
   simp only [World.size_alloc] at r1 r2 r3
   exact ctake_end h1.lt hn hXb h2 h3 h4.lt h5 h6.lt h7 h8 h9 h10 hc H3 hM3 M1 M2 M3 (r1.imp id fun h=>by omega) (r2.imp id fun h=>by omega) (r3.imp id fun h=>by omega) G4 B4 c4 d4 r4 G5 B5 c5 d5 r5 O5
def BSt (w:World) (O:Nat) (U:Nat→Prop) (t:Nat):Prop:=(∀ k,U k→k<w.heap.size)∧∃ A Wr,(∀ k,A k→U k)∧(∀ k,Wr k→U k)∧Bks w O A Wr t
theorem Bks.same {w w':World} {O:Nat} {A Wr:Nat→Prop} {t:Nat} (h:Bks w O A Wr t) (hz:w.heap.size≤w'.heap.size) (hb:∀ k,k<w.heap.size→(A k∨Wr k)→w'.heap[k]?=w.heap[k]?):Bks w' O A Wr t:=by
 obtain ⟨la,ma,lc,mc,E,M,h1,h2,h3,h4,h5,h6,h7,h8,h9,h10⟩:=h
 refine ⟨la,ma,lc,mc,E,M,h1.same (hb _ h1.lt (Or.inr h2)),h2,h3,h4.same fun k hk=>hb k (h4.ltb hk) (Or.inr (h5 k hk).1),h5,h6.same fun k hk=>hb k (h6.ltb hk) (Or.inr (h7 k hk).1),h7,fun k hk=>Nat.lt_of_lt_of_le (h8 k hk) hz,h9,fun i hi=>⟨(h10 i hi).1,fun hp=>?_⟩⟩
 obtain ⟨b,e1,e2,e3⟩:=(h10 i hi).2 hp
 exact ⟨b,e1,e2,e3.same (hb b e3.lt (Or.inl e2))⟩
theorem BSt.frame {w w':World} {O:Nat} {U V:Nat→Prop} {t:Nat} (h:BSt w O U t) (hf:Fr V w w') (hd:∀ k,U k→¬ V k):BSt w' O U t:=by
 obtain ⟨hl,A,Wr,hA,hW,hB⟩:=h
 exact ⟨fun k hk=>Nat.lt_of_lt_of_le (hl k hk) hf.size,A,Wr,hA,hW,hB.same hf.size fun k hk hu=>hf.same k hk (hd k (hu.elim (hA k) (hW k)))⟩
theorem BSt.keep {w w':World} {O:Nat} {U:Nat→Prop} {t:Nat} (h:BSt w O U t) (hg:w.grownBy w' none):BSt w' O U t:=h.frame (V:=fun _=>False) (fr_grown hg) (fun _ _ h=>h)
theorem BSt.more {w:World} {O:Nat} {U U':Nat→Prop} {t:Nat} (h:BSt w O U t) (hU:∀ k,U k→U' k) (hl:∀ k,U' k→k<w.heap.size):BSt w O U' t:=by
 obtain ⟨_,A,Wr,hA,hW,hB⟩:=h
 exact ⟨hl,A,Wr,fun k hk=>hU k (hA k hk),fun k hk=>hU k (hW k hk),hB⟩
theorem bst_new (w:World):BSt (w.alloc (.cells #[.slice none 0 0,.slice none 0 0] 36)) w.heap.size (fun k=>k=w.heap.size) 0:=by
 refine ⟨fun k hk=>by simp;omega,fun _=>False,fun k=>k=w.heap.size,fun k h=>h.elim,fun k h=>h,none,none,0,0,fun _=>(none,0,0),fun _=>0,(blk_new w _ _).congr fun j hj=>?_,rfl,fun _ _ h=>h,Or.inl ⟨rfl,rfl,rfl⟩,fun g h=>(by cases h),Or.inl ⟨rfl,rfl,rfl⟩,fun g h=>(by cases h),fun k h=>h.elim,fun _=>(by show (0:Int)≤0∧(0:Int)≤255;decide),fun i h=>by omega⟩
 match j,hj with
 | 0,_=>rfl
 | 1,_=>rfl
theorem bst_kept {w:World} {O:Nat} {U:Nat→Prop} {t:Nat} (h:BSt w O U t) (ht:t≤1700000000000) :
  Calls Tryz.prog 21 #[.pointer (some ⟨O,0,none⟩)] w fun e w'=>e=.returned (.bool true)∧w.grownBy w' none:=by
 obtain ⟨_,A,Wr,_,_,hB⟩:=h
 exact ckept_any O A Wr t w ht hB
theorem bst_take {w:World} {O:Nat} {U:Nat→Prop} {t:Nat} (h:BSt w O U t) (ht:t≤1650000000000) (ao:Option Addr) (n cap:Nat) (f:Nat→Value) (hn:n≤140737488355320) (hv:Held w 5 1 ao n cap f) (hc:∀ k,own? ao=some k→¬ U k) :
  Calls Tryz.prog 18 #[.pointer (some ⟨O,0,none⟩),.slice ao n cap] w
   fun e w'=>e=.returned (.tuple #[])∧BSt w' O (fun k=>Gr U w w' k∨own? ao=some k) (t+1)∧Fr (fun k=>U k∨own? ao=some k) w w':=by
 obtain ⟨hl,A,Wr,hA,hW,hB⟩:=h
 refine (ctake_any O A Wr t ao n cap f w ht hn hB hv fun k hk=>⟨fun h=>hc k hk (hA k h),fun h=>hc k hk (hW k h)⟩).mono ?_
 rintro e w' ⟨rfl,A',Wr',h1,h2,h3,h4⟩
 refine ⟨rfl,⟨fun k hk=>?_,A',Wr',fun k hk=>?_,fun k hk=>?_,h3⟩,h4.os,h4.tape,h4.output,h4.size,fun k hk hu=>h4.same k hk fun h=>hu (h.imp (hW k) id)⟩
 ·rcases hk with (h | h) | h
  ·exact Nat.lt_of_lt_of_le (hl k h) h4.size
  ·exact h.2
  ·exact Nat.lt_of_lt_of_le (hv.ltb h) h4.size
 ·rcases h1 k hk with h | h | h
  ·exact Or.inl (Or.inl (hA k h))
  ·exact Or.inr h
  ·exact Or.inl (Or.inr h)
 ·rcases h2 k hk with h | h
  ·exact Or.inl (Or.inl (hW k h))
  ·exact Or.inl (Or.inr h)
end Go.Proofs.YthbcfepbkkbjiaaGreatDoor
namespace Go.Proofs.YthbcfepbkkbjiaaGreatDoor
open Go.RowKit
attribute [local go_sem ↓] Go.wp_at_zero Go.wp_at_succ
theorem rencode_new (ao:Option Addr) (n c:Nat) (q:Nat→Int) (w:World) (hn:n≤4398046511104) (h:SrcI w ao n q) :
  Calls Tryz.prog 40 #[.slice ao n c] w fun e w'=>∃ d dc,e=.returned (.slice d (8*n) dc)∧Src w' .u8 d (8*n) (encs q)∧(∀ k,own? d=some k→w.heap.size≤k)∧w.grownBy w' none:=by
 by_cases h0:n=0
 ·subst h0
  refine (rencode_nil ao c w).mono ?_
  rintro e w' ⟨rfl,rfl⟩
  exact ⟨none,0,rfl,fun h=>by omega,fun k hk=>(by cases hk),grown_refl _ _⟩
 ·obtain ⟨b,off,rfl,hr⟩:=h (by omega)
  refine (rencode_any b off n c q w hn hr).mono ?_
  rintro e w' ⟨v,rfl,hg,ao',cap,rfl,ho⟩
  rcases ho with ⟨_,h1,_⟩ | ⟨g,rfl,hb,hB,_⟩
  ·omega
  ·exact ⟨_,cap,rfl,fun _=>⟨g,0,rfl,fun j hj=>by rw [Nat.zero_add];exact hB.cell (by omega)⟩,fun k hk=>by cases hk;exact hb,hg⟩
set_option maxHeartbeats 1000000 in
theorem filter_raw2 (lo:Option Addr) (ln lc:Nat) (q:Nat→Int) (w:World) (hln:ln≤4398046511000) (hl:SrcI w lo ln q) :
  Calls Tryz.prog 11 #[.agg #[.slice lo ln lc,.bool false]] w fun e w'=>∃ (ao:Option Addr) (m c:Nat) (g:Nat→Int),e=.returned (.slice ao m c)∧Oct g∧m≤8*ln∧Src w' .u8 ao m g∧(∀ k,own? ao=some k→w.heap.size≤k)∧w.grownBy w' none:=by
 go_enter Tryz.func11,Tryz.ntmps11
 go_wp2_with (go_at_call 40;refine (rencode_new _ _ _ q _ (by omega) (hl.keep (World.grownBy_alloc w _ none))).mono ?_;rintro e w1 ⟨d,dc,rfl,hd,hn1,hg1⟩)
 go_ret
 exact ⟨d,_,dc,encs q,rfl,encs_oct q,Nat.le_refl _,hd,fun k hk=>Nat.le_trans (World.grownBy_alloc w _ none).size (hn1 k hk),grown_trans (grown_alloc (grown_refl w none) _) hg1⟩
set_option maxHeartbeats 4000000 in
theorem filter_fit2 (lo:Option Addr) (ln lc:Nat) (q:Nat→Int) (w:World) (hln:ln≤4398046511000) (hl:SrcI w lo ln q) (hi64:∀ j,j<4*ln→I64 (q j)) :
  Calls Tryz.prog 11 #[.agg #[.slice lo ln lc,.bool true]] w fun e w'=>∃ (ao:Option Addr) (m c:Nat) (g:Nat→Int),e=.returned (.slice ao m c)∧Oct g∧m≤1640∧Src w' .u8 ao m g∧(∀ k,own? ao=some k→w.heap.size≤k)∧w.grownBy w' none:=by
 obtain ⟨i0,hi,hz0,hz1,hz2⟩:=info_parts Tryz.infoInsn
 obtain ⟨W0,hW0⟩:∃ W0,W0=w.alloc (.cells #[.slice lo ln lc,.bool true] 24):=⟨_,rfl⟩
 have GW:w.grownBy W0 none:=by rw [hW0];exact World.grownBy_alloc w _ none
 have SW:W0.heap.size=w.heap.size+1:=by rw [hW0];simp
 have B0:W0.cell? ⟨w.heap.size,0,none⟩=some (.slice lo ln lc):=by rw [hW0];exact World.cell?_alloc_new _ _ _ _
 have HW:Hid (W0=w.alloc (.cells #[.slice lo ln lc,.bool true] 24)):=hW0
 clear hW0
 go_enter Tryz.func11,Tryz.ntmps11
 go_wp2
 rw [← HW.out]
 go_loopw [3,4] (fun v i wr=>∃ (k:Nat) (f:Nat→Int),k≤4∧i=.int .i64 k∧W0.grownBy wr none∧Out wr W0.heap.size 63 4 v k (ints .i64 f)) (fun _ i _=>4-(intOf i).toNat)
 case atStart=>exact ⟨0,fun _=>0,by omega,rfl,grown_refl _ _,out_nil _ _ _ _ _⟩
 case round =>
  obtain ⟨k,f,hk,rfl,hgr,ho⟩:=hrel
  by_cases hlt:k<4
  ·go_wp2_with (at_builtin;refine wpList_append_out _ W0 rfl (.tmp 18) (.tmp 21) 22 rfl 63 i0 _ 4 32 Tryz.underlying22 hi hz0 hz1 hz2 rfl (by decide) _ _ _ rfl (ho.alloc _) (grown_alloc hgr _) _ 1 1 _ _ rfl (heap_top _ _ _ (by simp)) rfl (by simp [Value.oneCell']) (by decide) (by unfold maxLen;omega) (by omega) ?_;intro g2 p2 w2 ho2 hg2 _)
   go_roundw
   case rel=>exact ⟨k+1,_,by omega,by go_num,hg2,ho2.congr fun j hj=>ins4_fun f k _ _ _ _ j hj⟩
   case measure=>simp [intOf];omega
  ·have hke:k=4:=by omega
   subst hke
   have b0:=hgr.cell B0 (by simp)
   obtain ⟨wo,hwo⟩:∃ x,x=wr:=⟨_,rfl⟩
   subst hwo
   by_cases h200:200<ln
   ·have t1:(200:Int)<(ln:Int):=by omega
    go_wp2
    go_loopw [3,6] (fun v i wr=>∃ (k:Nat) (f:Nat→Int),k≤200∧i=.int .i64 k∧W0.grownBy wr none∧Out wr W0.heap.size 63 4 v (4+k) (ints .i64 f)) (fun _ i _=>200-(intOf i).toNat)
    case atStart=>exact ⟨0,f,by omega,rfl,hgr,ho⟩
    case round =>
     clear hgr ho b0
     obtain ⟨k,f,hk,rfl,hgr,ho⟩:=hrel
     have b0:=hgr.cell B0 (by simp)
     by_cases hlt:k<200
     ·obtain ⟨Y,yoff,rfl,hR⟩:=(hl.keep (grown_trans GW hgr)) (by omega)
      obtain ⟨c0,c1,c2,c3⟩:=hR.insn (show k<ln by omega)
      have j0:=hi64 (4*k) (by omega)
      have j1:=hi64 (4*k+1) (by omega)
      have j2:=hi64 (4*k+2) (by omega)
      have j3:=hi64 (4*k+3) (by omega)
      clear hR
      go_wp2_with (first | (go_at_call 41;refine (fit_at _ _ _ _ _ _ j0 j1 j2 j3 (by omega) (by omega)).mono ?_;rintro e w2 ⟨⟨fa,fb,fc,fd,rfl⟩,hg2⟩;have ho2:=(ho.keep hg2 (by simp)).alloc (.cells #[.int .i64 fa,.int .i64 fb,.int .i64 fc,.int .i64 fd] 63);have G2:=grown_alloc (grown_trans hgr hg2) (.cells #[.int .i64 fa,.int .i64 fb,.int .i64 fc,.int .i64 fd] 63)) | (at_builtin;refine wpList_append_out _ W0 rfl (.tmp 42) (.tmp 44) 22 rfl 63 i0 _ 4 32 Tryz.underlying22 hi hz0 hz1 hz2 rfl (by decide) _ _ _ rfl (ho2.alloc _) (grown_alloc G2 _) _ 1 1 _ _ rfl (heap_top _ _ _ (by simp)) rfl (by simp [Value.oneCell']) (by decide) (by unfold maxLen;omega) (by omega) ?_;intro g3 p3 w3 ho3 hg3 _))
      go_roundw
      case rel=>exact ⟨_,_,_,_,_,_,_,_,_,_,_,_,_,_,_,_,_,_,_,_,_,⟨k+1,_,by omega,by go_num,hg3,ho3.congr fun j hj=>ins4_fun f (4+k) _ _ _ _ j hj⟩,rfl⟩
      case measure=>simp [intOf];omega
     ·go_wp2_with (first | (at_builtin;refine wpList_append_out _ W0 rfl (.tmp 46) (.tmp 48) 22 rfl 63 i0 _ 4 32 Tryz.underlying22 hi hz0 hz1 hz2 rfl (by decide) _ _ _ rfl (ho.alloc _) (grown_alloc hgr _) _ 1 1 _ _ rfl (heap_top _ _ _ (by simp)) rfl (by simp [Value.oneCell']) (by decide) (by unfold maxLen;omega) (by omega) ?_;intro g3 p3 w3 ho3 hg3 _;have hS3:=out_srcI (ho3.congr fun j hj=>ins4_fun f (4+k) _ _ _ _ j hj)) | (go_at_call 40;refine (rencode_new _ _ _ _ _ (by omega) hS3).mono ?_;rintro e w4 ⟨dd,dc,rfl,hd,hn4,hg4⟩))
      go_ret
      exact ⟨dd,_,dc,_,rfl,encs_oct _,by omega,hd,fun k hk=>Nat.le_trans (grown_trans GW hg3).size (hn4 k hk),grown_trans (grown_trans GW hg3) hg4⟩
   ·have t1:¬ (200:Int)<(ln:Int):=by omega
    go_wp2
    go_loopw [3,6] (fun v i wr=>∃ (k:Nat) (f:Nat→Int),k≤ln∧i=.int .i64 k∧W0.grownBy wr none∧Out wr W0.heap.size 63 4 v (4+k) (ints .i64 f)) (fun _ i _=>ln-(intOf i).toNat)
    case atStart=>exact ⟨0,f,by omega,rfl,hgr,ho⟩
    case round =>
     clear hgr ho b0
     obtain ⟨k,f,hk,rfl,hgr,ho⟩:=hrel
     have b0:=hgr.cell B0 (by simp)
     by_cases hlt:k<ln
     ·obtain ⟨Y,yoff,rfl,hR⟩:=(hl.keep (grown_trans GW hgr)) (by omega)
      obtain ⟨c0,c1,c2,c3⟩:=hR.insn (show k<ln by omega)
      have j0:=hi64 (4*k) (by omega)
      have j1:=hi64 (4*k+1) (by omega)
      have j2:=hi64 (4*k+2) (by omega)
      have j3:=hi64 (4*k+3) (by omega)
      clear hR
      go_wp2_with (first | (go_at_call 41;refine (fit_at _ _ _ _ _ _ j0 j1 j2 j3 (by omega) (by omega)).mono ?_;rintro e w2 ⟨⟨fa,fb,fc,fd,rfl⟩,hg2⟩;have ho2:=(ho.keep hg2 (by simp)).alloc (.cells #[.int .i64 fa,.int .i64 fb,.int .i64 fc,.int .i64 fd] 63);have G2:=grown_alloc (grown_trans hgr hg2) (.cells #[.int .i64 fa,.int .i64 fb,.int .i64 fc,.int .i64 fd] 63)) | (at_builtin;refine wpList_append_out _ W0 rfl (.tmp 42) (.tmp 44) 22 rfl 63 i0 _ 4 32 Tryz.underlying22 hi hz0 hz1 hz2 rfl (by decide) _ _ _ rfl (ho2.alloc _) (grown_alloc G2 _) _ 1 1 _ _ rfl (heap_top _ _ _ (by simp)) rfl (by simp [Value.oneCell']) (by decide) (by unfold maxLen;omega) (by omega) ?_;intro g3 p3 w3 ho3 hg3 _))
      go_roundw
      case rel=>exact ⟨k+1,_,by omega,by go_num,hg3,ho3.congr fun j hj=>ins4_fun f (4+k) _ _ _ _ j hj⟩
      case measure=>simp [intOf];omega
     ·go_wp2_with (first | (at_builtin;refine wpList_append_out _ W0 rfl (.tmp 46) (.tmp 48) 22 rfl 63 i0 _ 4 32 Tryz.underlying22 hi hz0 hz1 hz2 rfl (by decide) _ _ _ rfl (ho.alloc _) (grown_alloc hgr _) _ 1 1 _ _ rfl (heap_top _ _ _ (by simp)) rfl (by simp [Value.oneCell']) (by decide) (by unfold maxLen;omega) (by omega) ?_;intro g3 p3 w3 ho3 hg3 _;have hS3:=out_srcI (ho3.congr fun j hj=>ins4_fun f (4+k) _ _ _ _ j hj)) | (go_at_call 40;refine (rencode_new _ _ _ _ _ (by omega) hS3).mono ?_;rintro e w4 ⟨dd,dc,rfl,hd,hn4,hg4⟩))
      go_ret
      exact ⟨dd,_,dc,_,rfl,encs_oct _,by omega,hd,fun k hk=>Nat.le_trans (grown_trans GW hg3).size (hn4 k hk),grown_trans (grown_trans GW hg3) hg4⟩
theorem filter_new (lo:Option Addr) (ln lc:Nat) (fit:Bool) (q:Nat→Int) (w:World) (hln:ln≤4398046511000) (hl:SrcI w lo ln q) (hi64:∀ j,j<4*ln→I64 (q j)) :
  Calls Tryz.prog 11 #[.agg #[.slice lo ln lc,.bool fit]] w fun e w'=>∃ (ao:Option Addr) (m c:Nat) (g:Nat→Int),e=.returned (.slice ao m c)∧Oct g∧m≤8*ln+1640∧Src w' .u8 ao m g∧(∀ k,own? ao=some k→w.heap.size≤k)∧w.grownBy w' none:=by
 cases fit with
 | false =>
  refine (filter_raw2 lo ln lc q w hln hl).mono ?_
  rintro e w' ⟨ao,m,c,g,h1,h2,h3,h4⟩
  exact ⟨ao,m,c,g,h1,h2,by omega,h4⟩
 | true =>
  refine (filter_fit2 lo ln lc q w hln hl hi64).mono ?_
  rintro e w' ⟨ao,m,c,g,h1,h2,h3,h4⟩
  exact ⟨ao,m,c,g,h1,h2,by omega,h4⟩
end Go.Proofs.YthbcfepbkkbjiaaGreatDoor
