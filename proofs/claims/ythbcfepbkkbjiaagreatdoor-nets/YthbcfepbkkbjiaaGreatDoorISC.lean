import Derived.Lib.SliceRun
import Derived.Deep.DeepAppendRoom
import Derived.Test.YthbcfepbkkbjiaaGreatDoorISA
import Derived.Test.YthbcfepbkkbjiaaGreatDoorIMB
import Derived.Test.YthbcfepbkkbjiaaGreatDoorIRB
set_option linter.unusedSimpArgs false
set_option linter.unusedVariables false
set_option maxRecDepth 100000
namespace Go.Proofs.YthbcfepbkkbjiaaGreatDoor
open Go.RowKit
theorem newJudge_list (b n:Nat) (w:World):Calls Tryz.prog 120 #[.slice (some ⟨b,0,none⟩) n n,.bool false] w fun e w'=>e=.returned (.iface 238 (.slice (some ⟨b,0,none⟩) n n))∧w'=w:=by
 go_enter Tryz.func120,Tryz.ntmps120
 go_wp2
 go_ret
 exact ⟨rfl,rfl⟩
theorem newJudge_code (b n:Nat) (q:Nat→Int) (w:World) (hn:n≤256) (hR:Row w .i64 b 0 (4*n) q) (hG:Good q n):Calls Tryz.prog 120 #[.slice (some ⟨b,0,none⟩) n n,.bool true] w fun e w'=>∃ B cap,e=.returned (.iface 237 (.slice (some ⟨B,0,none⟩) (start q n) cap))∧start q n≤cap∧w.heap.size≤B∧Blk w' B 5 cap (start q n) (ints .u8 (codeF q n))∧w.grownBy w' none:=by
 have HF:Hid (Calls Tryz.prog 45 #[.slice (some ⟨b,0,none⟩) n n] w fun e w'=>∃ g cap,e=.returned (.slice (some ⟨g,0,none⟩) (start q n) cap)∧(start q n≤cap∧w.heap.size≤g∧Blk w' g 5 cap (start q n) (ints .u8 (codeF q n)))∧w.grownBy w' none):=by
  refine (cfilter b 0 n n q w hn hR hG).mono ?_
  rintro e w' ⟨g,cap,rfl,ho,hg⟩
  obtain ⟨_,_,hv,_,hcp⟩:=owns_form ho (start_pos _ hG.pos)
  cases hv
  obtain ⟨hB,_,hb⟩:=owns_blk ho
  exact ⟨g,cap,rfl,⟨hcp,hb,hB⟩,hg⟩
 clear hR hG
 generalize start q n=N at *
 generalize codeF q n=K at *
 go_enter Tryz.func120,Tryz.ntmps120
 go_wp2_with (go_at_call 45;refine HF.out.mono ?_;rintro e w1 ⟨B,cap,rfl,⟨h1,h2,h3⟩,hg1⟩)
 go_ret
 exact ⟨B,cap,rfl,h1,h2,h3,hg1⟩
theorem verdict_list (b n:Nat) (q:Nat→Int) (po:Option Addr) (m pc:Nat) (p:Nat→Int) (w:World) (hn:n≤256) (hm:m≤2000) (hmc:m≤pc) (hp:Oct p) (hR:Row w .i64 b 0 (4*n) q) (hq:Src w .u8 po m p) (hG:Good q n) :
  Calls Tryz.prog 220 #[.slice (some ⟨b,0,none⟩) n n,.slice po m pc] w fun e w'=>e=.returned (.int .u32 (runF q p m 256 F0))∧w.grownBy w' none:=by
 have HF:Hid (Calls Tryz.prog 43 #[.slice (some ⟨b,0,none⟩) n n,.slice po m pc] w fun e w'=>e=.returned (.int .u32 (runF q p m 256 F0))∧w.grownBy w' none):=pfilter b 0 n n q po m pc p w hn hm hmc hp hR hq hG
 clear hR hq hG
 generalize runF q p m 256 F0=R at *
 go_enter Tryz.func220,Tryz.ntmps220
 go_wp2_with (go_at_call 43;refine HF.out.mono ?_;rintro e w1 ⟨rfl,hg1⟩)
 go_ret
 exact ⟨rfl,hg1⟩
theorem verdict_code (B cap n:Nat) (q:Nat→Int) (po:Option Addr) (m pc:Nat) (p:Nat→Int) (w:World) (hn:n≤256) (hm:m≤2000) (hmc:m≤pc) (hp:Oct p) (hc:start q n≤cap) (hs:Src w .u8 (some ⟨B,0,none⟩) (start q n) (codeF q n)) (hq:Src w .u8 po m p) (hG:Good q n) :
  Calls Tryz.prog 219 #[.slice (some ⟨B,0,none⟩) (start q n) cap,.slice po m pc] w fun e w'=>e=.returned (.int .u32 (runF q p m 256 F0))∧w.grownBy w' none:=by
 obtain ⟨cst,_,hex⟩:=code_exec hG hn hp hm
 have hsb:=start_bd q n
 have HF:Hid (Calls Tryz.prog 65 #[.slice (some ⟨B,0,none⟩) (start q n) cap,.slice po m pc] w fun e w'=>e=.returned (.tuple #[.int .u32 (runF q p m 256 F0),.int .i64 cst,.bool true])∧w.grownBy w' none):=by
  have:=sexec_any (some ⟨B,0,none⟩) (start q n) cap (codeF q n) po m pc p w (by omega) hc hm hmc (codeF_oct hG) hp hs hq
  rw [hex] at this
  exact this
 clear hs hq hG hex
 generalize runF q p m 256 F0=R at *
 generalize start q n=N at *
 go_enter Tryz.func219,Tryz.ntmps219
 go_wp2_with (go_at_call 65;refine HF.out.mono ?_;rintro e w1 ⟨rfl,hg1⟩)
 go_ret
 exact ⟨rfl,hg1⟩
theorem eql_nil (w:World) (a:Option Addr) (l c:Nat):(binOp .eql 25 (.slice a l c) (.slice none 0 0)).run Tryz.prog w=.ok (.bool a.isNone) w:=by
 have h:∀ d:Nat,(Op.equalIn (d+1) 25 (.slice a l c) (.slice none 0 0)).run Tryz.prog w=.ok a.isNone w:=fun d=>by cases a <;> simp [Op.equalIn,run_underlying Tryz.underlying25]
 simp only [binOp]
 simp [Op.equal,Op.maxDepth,h 9999]
def ilist (g:Nat→Int) (n:Nat):List Value:=(List.range n).map fun j=>.int .u8 (g j)
theorem ilist_one (g:Nat→Int) (n:Nat):∀ u ∈ ilist g n,u.oneCell'=true:=fun u hu=>by
 obtain ⟨x,_,rfl⟩:=List.mem_map.1 hu;rfl
theorem ilist_news {w:World} {a:Addr} {n:Nat} {g:Nat→Int} (h:0<n→∃ b off,a=⟨b,off,none⟩∧Row w .u8 b off n g):∀ j u,(ilist g n)[j]?=some u→w.cell? (a.add j)=some u:=fun j u hu=>by
 have hj:j<n:=by have:=(List.getElem?_eq_some_iff.1 hu).1;simpa [ilist] using this
 obtain ⟨b,off,rfl,hr⟩:=h (by omega)
 have e:(⟨b,off,none⟩:Addr).add j=⟨b,off+j,none⟩:=by unfold Addr.add;split <;> simp_all
 rw [e,hr j hj]
 simp [ilist,hj] at hu
 rw [← hu]
theorem ilist_held {w:World} {base n:Nat} {e:TypeId} {v:Value} {g:Nat→Int} (h:w.ownsRow base e 1 v n (ilist g n)):∃ ao cap,v=.slice ao n cap∧Held w e 1 ao n cap (ints .u8 g)∧∀ k,own? ao=some k→base≤k:=by
 rcases h.2 with ⟨rfl,rfl⟩ | ⟨g',cap',cur,rfl,hb,hh,hn,hm,hs,ht⟩
 ·exact ⟨none,0,rfl,Or.inl ⟨rfl,rfl,rfl⟩,fun k h=>by cases h⟩
 ·refine ⟨_,cap',rfl,Or.inr ⟨g',rfl,⟨cur,hh,hs,by omega,fun j hj=>?_⟩,hn,hm⟩,fun k h=>by cases h;exact hb⟩
  rw [Nat.mul_one] at hj ht
  have:(cur.toList.take n)[j]?=(ilist g n)[j]?:=by rw [ht]
  rw [List.getElem?_take_of_lt hj,Array.getElem?_toList] at this
  rw [this]
  simp [ilist,ints,hj]
set_option maxHeartbeats 1000000 in
theorem clone_any (ao:Option Addr) (n c:Nat) (g:Nat→Int) (w:World) (hn:n≤2000) (hz:ao=none→n=0) (hs:Src w .u8 ao n g) :
  Calls Tryz.prog 169 #[.slice ao n c] w fun e w'=>(∃ ao' c',e=.returned (.slice ao' n c')∧Held w' 5 1 ao' n c' (ints .u8 g)∧∀ k,own? ao'=some k→w.heap.size≤k)∧w.grownBy w' none:=by
 obtain ⟨i0,hi,hz0,hz1,hz2⟩:=info_parts Tryz.infoByte
 cases ao with
 | none =>
  obtain rfl:=hz rfl
  have h0:=eql_nil w none 0 c
  go_enter Tryz.func169,Tryz.ntmps169
  go_wp2
  go_ret
  exact ⟨⟨none,0,rfl,Or.inl ⟨rfl,rfl,rfl⟩,fun k h=>by cases h⟩,grown_refl _ _⟩
 | some a =>
  have h0:=eql_nil w (some a) n c
  have HN:Hid (0<n→∃ b off,a=⟨b,off,none⟩∧Row (w.alloc (.cells #[] 5)) .u8 b off n g):=fun h=>by
   obtain ⟨b,off,e,hr⟩:=(hs.keep (World.grownBy_alloc w (.cells #[] 5) none)) h
   exact ⟨b,off,Option.some.inj e,hr⟩
  clear hs
  go_enter Tryz.func169,Tryz.ntmps169
  go_wp2_with (at_builtin;refine wpList_append_own_at _ rfl _ _ 25 rfl w.heap.size 5 i0 (.int .u8 0) 1 1 Tryz.underlying25 hi hz0 hz1 hz2 rfl (by decide) (.slice (some ⟨w.heap.size,0,none⟩) 0 0) 0 [] rfl ⟨rfl,Or.inr ⟨w.heap.size,0,#[],rfl,Nat.le_refl _,heap_top _ _ _ rfl,Nat.le_refl _,Nat.zero_le _,rfl,rfl⟩⟩ a n c (ilist g n) rfl (by simp [ilist]) (ilist_news HN.out) (ilist_one g n) (by unfold maxLen;omega) (by omega) (by simp) ?_;intro v2 w2 ho2 hg2 _ _)
  go_ret
  rw [Nat.zero_add,List.nil_append] at ho2
  have G2:w.grownBy w2 none:=grown_new none (World.grownBy_alloc w _ none) hg2 (Nat.le_refl _)
  obtain ⟨ao',c',rfl,hh,hf⟩:=ilist_held ho2
  exact ⟨⟨ao',c',rfl,hh,hf⟩,G2⟩
end Go.Proofs.YthbcfepbkkbjiaaGreatDoor
namespace Go.Proofs.YthbcfepbkkbjiaaGreatDoor
open Go.RowKit
theorem Tryz.infoBytes1:(Tryz.prog.info? 25).map (fun i=>(i.zero,i.size,i.bytes))=some (some (.slice none 0 0),1,24):=by kernel_rfl
theorem zeroBytes (w:World):(zeroValue 25).run Tryz.prog w=.ok (.slice none 0 0) w:=by
 obtain ⟨i,hi,h0,h1,h2⟩:=info_parts Tryz.infoBytes1
 simp [zeroValue,typeInfo,hi,h0]
theorem setCells_one (w:World) (W k:Nat) (v:Value):w.setCells W k [v]=w.setCell ⟨W,k,none⟩ v:=by
 simp [World.setCells]
theorem owns_setBeyond {w:World} {base g n cap:Nat} {e:TypeId} {xs:List Value} (h:w.ownsRow base e 1 (.slice (some ⟨g,0,none⟩) n cap) n xs) (v:Value):(w.setCell ⟨g,n,none⟩ v).ownsRow base e 1 (.slice (some ⟨g,0,none⟩) n cap) n xs:=by
 obtain ⟨hl,h⟩:=h
 rcases h with ⟨h,_⟩ | ⟨g',cap',cur,hv,hb,hh,hn,hm,hs,ht⟩
 ·cases h
 ·cases hv
  refine ⟨hl,Or.inr ⟨g,cap,cur.setIfInBounds n v,rfl,hb,?_,hn,hm,by simpa using hs,?_⟩⟩
  ·have hlt:g<w.heap.size:=(Array.getElem?_eq_some_iff.1 hh).1
   have e1:w.heap[g]=Obj.cells cur e (0,0):=(Array.getElem?_eq_some_iff.1 hh).2
   unfold World.setCell
   show (w.heap.modify g _)[g]?=_
   rw [Array.getElem?_modify,if_pos rfl,hh]
   rfl
  ·rw [Nat.mul_one] at ht ⊢
   rw [← ht]
   apply List.ext_getElem?
   intro j
   by_cases hj:j<n
   ·rw [List.getElem?_take_of_lt hj,List.getElem?_take_of_lt hj,Array.getElem?_toList,Array.getElem?_toList,Array.getElem?_setIfInBounds_ne (by omega)]
   ·rw [List.getElem?_take_eq_none (by omega),List.getElem?_take_eq_none (by omega)]
theorem owns_blkV {w:World} {base g n cap:Nat} {e:TypeId} {xs:List Value} (h:w.ownsRow base e 1 (.slice (some ⟨g,0,none⟩) n cap) n xs):(∃ cur,w.heap[g]?=some (.cells cur e (0,0))∧cur.size=cap)∧n≤cap∧cap≤maxLen:=by
 rcases h.2 with ⟨h,_⟩ | ⟨g',cap',cur,hv,hb,hh,hn,hm,hs,ht⟩
 ·cases h
 ·cases hv
  exact ⟨⟨cur,hh,by omega⟩,hn,hm⟩
theorem grown_setRow {w w':World} {W:Nat} (h:w.grownBy w' (some W)) (j:Nat) (v:Value):w.grownBy (w'.setCell ⟨W,j,none⟩ v) (some W) :=
 ⟨h.os,h.tape,h.output,by have:=h.size;simp [World.setCell];omega,fun k hk hr=>by rw [Below.heap_setCell _ _ _ _ (fun e=>hr (by simp at e;rw [e]))];exact h.block k hk hr⟩
theorem grown_drewL {w w':World} {row:Option Nat} (h:w.drew.grownBy w' row):w.grownBy w' row:=⟨h.os,h.tape,h.output,h.size,h.block⟩
theorem owns_cut {w:World} {base g n cap:Nat} {e:TypeId} {xs:List Value} (h:w.ownsRow base e 1 (.slice (some ⟨g,0,none⟩) n cap) n xs):w.ownsRow base e 1 (.slice (some ⟨g,0,none⟩) 0 cap) 0 []:=by
 rcases h.2 with ⟨h,_⟩ | ⟨g',cap',cur,hv,hb,hh,hn,hm,hs,ht⟩
 ·cases h
 ·cases hv
  exact ⟨rfl,Or.inr ⟨g,cap,cur,rfl,hb,hh,Nat.zero_le _,hm,hs,by simp⟩⟩
theorem owns_tail {w:World} {base g k cap:Nat} {e:TypeId} {x:Value} {xs:List Value} (h:w.ownsRow base e 1 (.slice (some ⟨g,0,none⟩) (k+1) cap) (k+1) (x::xs)):∀ j u,xs[j]?=some u→w.cell? ((⟨g,1,none⟩:Addr).add j)=some u:=fun j u hu=>by
 have hj:j<xs.length:=(List.getElem?_eq_some_iff.1 hu).1
 have hl:=h.1
 simp at hl
 have e1:(⟨g,1,none⟩:Addr).add j=⟨g,1+j,none⟩:=by unfold Addr.add;split <;> simp_all
 have:=h.cellAt (j+1) (by omega)
 rw [e1,Nat.add_comm 1 j,this]
 simpa using hu
set_option maxHeartbeats 1000000 in
theorem delete_first (base W k cap:Nat) (x:Value) (xs:List Value) (w:World) (ho:w.ownsRow base 25 1 (.slice (some ⟨W,0,none⟩) (k+1) cap) (k+1) (x::xs)) (h1:∀ u ∈ xs,u.oneCell'=true) (hk:k≤100) :
  Calls Tryz.prog 122 #[.slice (some ⟨W,0,none⟩) (k+1) cap,.int .i64 0,.int .i64 1] w fun e w'=>e=.returned (.slice (some ⟨W,0,none⟩) k cap)∧w'.ownsRow base 25 1 (.slice (some ⟨W,0,none⟩) k cap) k xs∧w.grownBy w' (some W):=by
 obtain ⟨i0,hi,hz0,hz1,hz2⟩:=info_parts Tryz.infoBytes1
 have hlen:xs.length=k:=by have:=ho.1;simp at this;omega
 obtain ⟨_,hkc,hcm⟩:=owns_blkV ho
 have HO:Hid (w.ownsRow base 25 1 (.slice (some ⟨W,0,none⟩) (k+1) cap) (k+1) (x::xs)):=ho
 clear ho
 unfold maxLen at hcm
 have t1:(1:Int)≤(k:Int)+1:=by omega
 have t2:¬ cap=k:=by omega
 have HW:Hid (w.drew.ownsRow base 25 1 (.slice (some ⟨W,0,none⟩) 0 cap) 0 []):=owns_cut HO.out.drew
 by_cases hc1:cap=1
 ·subst hc1
  obtain rfl:k=0:=by omega
  obtain rfl:xs=[]:=List.eq_nil_of_length_eq_zero hlen
  go_enter Tryz.func122,Tryz.ntmps122
  go_wp2_with (at_builtin;fail)
  refine wp_region_tl 6 (by kernel_rfl) (by kernel_rfl) ?_
  simp only [List.take_succ_cons,List.take_zero,List.drop_succ_cons,List.drop_zero]
  repeat still_step
  refine wpStill_nil ?_
  go_wp2_with (at_builtin;refine wpList_append_own_spare _ rfl _ _ 33 rfl base 25 i0 1 Tryz.underlying33 hi hz1 W 0 1 [] rfl HW.out ⟨W,0,none⟩ 0 0 [] rfl (by first | rfl | omega) (fun j u hu=>by simp at hu) (fun u hu=>by simp at hu) (by omega) ?_;intro w6 ho6 hg6;rw [List.nil_append,Nat.zero_add] at ho6;obtain ⟨⟨cur,hcur,hcs⟩,_,_⟩:=owns_blkV ho6;have hcl:=Go.Lib.run_clear_slice (P:=Tryz.prog) w6 33 25 0 (.slice none 0 0) Tryz.underlying33 zeroBytes rfl rfl W 0 1 (1-0) (by omega) (fun j hj=>(by obtain rfl:j=0:=(by omega);rw [Nat.add_zero,cell_of_row w6 W _ cur _ (0,0) hcur];simp;omega)) (fun j hj=>(by simp [World.frozen?,hcur]));rw [List.replicate_one,setCells_one] at hcl)
  go_ret
  exact ⟨rfl,owns_setBeyond ho6 _,grown_setRow (grown_drewL hg6) _ _⟩
 ·have hnews:Hid (∀ j u,xs[j]?=some u→w.drew.cell? ((⟨W,1,none⟩:Addr).add j)=some u):=owns_tail HO.out
  go_enter Tryz.func122,Tryz.ntmps122
  go_wp2_with (at_builtin;fail)
  refine wp_region_tl 6 (by kernel_rfl) (by kernel_rfl) ?_
  simp only [List.take_succ_cons,List.take_zero,List.drop_succ_cons,List.drop_zero]
  repeat still_step
  refine wpStill_nil ?_
  go_wp2_with (at_builtin;refine wpList_append_own_spare _ rfl _ _ 33 rfl base 25 i0 1 Tryz.underlying33 hi hz1 W 0 cap [] rfl HW.out ⟨W,1,none⟩ k (cap-1) xs rfl (by first | rfl | omega) hnews.out h1 (by omega) ?_;intro w6 ho6 hg6;rw [List.nil_append,Nat.zero_add] at ho6;obtain ⟨⟨cur,hcur,hcs⟩,_,_⟩:=owns_blkV ho6;have hcl:=Go.Lib.run_clear_slice (P:=Tryz.prog) w6 33 25 0 (.slice none 0 0) Tryz.underlying33 zeroBytes rfl rfl W k 1 (cap-k) (by omega) (fun j hj=>(by obtain rfl:j=0:=(by omega);rw [Nat.add_zero,cell_of_row w6 W _ cur _ (0,0) hcur];simp;omega)) (fun j hj=>(by simp [World.frozen?,hcur]));rw [List.replicate_one,setCells_one] at hcl)
  go_ret
  exact ⟨rfl,owns_setBeyond ho6 _,grown_setRow (grown_drewL hg6) _ _⟩
end Go.Proofs.YthbcfepbkkbjiaaGreatDoor
namespace Go.Proofs.YthbcfepbkkbjiaaGreatDoor
open Go.RowKit
structure Pk where
 a:Option Addr
 l:Nat
 c:Nat
 g:Nat→Int
def Pk.v (p:Pk):Value:=.slice p.a p.l p.c
structure So where
 fv:Value
 fb:Nat
 q:Nat→Int
 n:Nat
 wo:Option Addr
 wc:Nat
 ws:List Pk
 d:Nat
def So.cell (s:So) (j:Nat):Value:=if j=0 then s.fv else if j=1 then .slice s.wo s.ws.length s.wc else .int .i64 s.d
structure Ab where
 n:Nat
 q:Nat→Int
 ws:List (Nat × (Nat→Int))
 d:Nat
def So.ab (s:So):Ab:=⟨s.n,s.q,s.ws.map fun p=>(p.l,p.g),s.d⟩
def Ab.want (s:Ab) (p:Nat→Int) (m:Nat):Int:=if s.n=0 then 0 else runF s.q p m 256 F0
def Ab.offer (s:Ab) (p:Nat→Int) (m:Nat):Ab :=
 if s.want p m=0 then s else if 4≤s.ws.length then ⟨s.n,s.q,s.ws,s.d+1⟩ else ⟨s.n,s.q,s.ws ++ [(min m (s.want p m).toNat,p)],s.d⟩
def So.uses (s:So) (k:Nat):Prop:=(s.n≠0∧s.fb=k)∨own? s.wo=some k∨∃ p,p ∈ s.ws∧own? p.a=some k
def FilOk (w:World) (s:So):Prop :=
 (s.n=0∧s.fv=.nilIface)∨(s.n≠0∧s.n≤256∧Good s.q s.n ∧
  ((s.fv=.iface 238 (.slice (some ⟨s.fb,0,none⟩) s.n s.n)∧Row w .i64 s.fb 0 (4*s.n) s.q) ∨
   (∃ cap,s.fv=.iface 237 (.slice (some ⟨s.fb,0,none⟩) (start s.q s.n) cap)∧start s.q s.n≤cap∧Row w .u8 s.fb 0 (start s.q s.n) (codeF s.q s.n))))
structure SoOk (w:World) (s:So):Prop where
 f:FilOk w s
 o:w.ownsRow 0 25 1 (.slice s.wo s.ws.length s.wc) s.ws.length (s.ws.map Pk.v)
 four:s.ws.length≤4
 p:∀ p,p ∈ s.ws→Held w 5 1 p.a p.l p.c (ints .u8 p.g)∧Oct p.g∧p.l≤2000
 fo:s.n≠0→own? s.wo≠some s.fb
 fp:s.n≠0→∀ p,p ∈ s.ws→own? p.a≠some s.fb
 op:∀ p,p ∈ s.ws→∀ k,own? p.a=some k→own? s.wo≠some k
 pp:s.ws.Pairwise fun p p'=>∀ k,own? p.a=some k→own? p'.a≠some k
theorem cell_same {w w':World} {b j:Nat} (h:w'.heap[b]?=w.heap[b]?):w'.cell? ⟨b,j,none⟩=w.cell? ⟨b,j,none⟩:=by simp [World.cell?,h]
theorem Row.same {w w':World} {k:IntKind} {b off n:Nat} {g:Nat→Int} (h:Row w k b off n g) (hb:w'.heap[b]?=w.heap[b]?):Row w' k b off n g:=fun j hj=>by rw [cell_same hb];exact h j hj
theorem Held.same {w w':World} {e:TypeId} {size:Nat} {ao:Option Addr} {n cap:Nat} {f:Nat→Value} (h:Held w e size ao n cap f) (hb:∀ k,own? ao=some k→w'.heap[k]?=w.heap[k]?):Held w' e size ao n cap f:=by
 rcases h with h | ⟨g,rfl,h1,h2⟩
 ·exact Or.inl h
 ·exact Or.inr ⟨g,rfl,h1.same (hb g rfl),h2⟩
theorem owns_same {w w':World} {base:Nat} {e:TypeId} {size n cap:Nat} {ao:Option Addr} {xs:List Value} (h:w.ownsRow base e size (.slice ao n cap) n xs) (hb:∀ k,own? ao=some k→w'.heap[k]?=w.heap[k]?):w'.ownsRow base e size (.slice ao n cap) n xs:=by
 obtain ⟨h1,h2⟩:=h
 refine ⟨h1,?_⟩
 rcases h2 with h2 | ⟨g,c,cur,hv,r1,r2,r3⟩
 ·exact Or.inl h2
 ·cases hv
  exact Or.inr ⟨g,_,cur,rfl,r1,by rw [hb g rfl];exact r2,r3⟩
theorem Held.ltb {w:World} {e:TypeId} {size:Nat} {ao:Option Addr} {n cap:Nat} {f:Nat→Value} (h:Held w e size ao n cap f) {k:Nat} (hk:own? ao=some k):k<w.heap.size:=by
 rcases h with ⟨rfl,_⟩ | ⟨g,rfl,h1,_⟩
 ·cases hk
 ·cases hk;exact h1.lt
theorem owns_ltb {w:World} {base:Nat} {e:TypeId} {size n cap:Nat} {ao:Option Addr} {xs:List Value} (h:w.ownsRow base e size (.slice ao n cap) n xs) {k:Nat} (hk:own? ao=some k):k<w.heap.size:=by
 rcases h.2 with ⟨h2,_⟩ | ⟨g,c,cur,hv,r1,r2,r3⟩
 ·cases h2;cases hk
 ·cases hv;cases hk
  exact (Array.getElem?_eq_some_iff.1 r2).1
theorem row_ltb {w:World} {k:IntKind} {b off n:Nat} {g:Nat→Int} (h:Row w k b off n g) (hn:0<n):b<w.heap.size:=World.block_lt_of_cell? w _ (h 0 hn)
theorem SoOk.lt {w:World} {s:So} (h:SoOk w s) {k:Nat} (hk:s.uses k):k<w.heap.size:=by
 rcases hk with ⟨h0,rfl⟩ | hk | ⟨p,hp,hk⟩
 ·rcases h.f with ⟨h1,_⟩ | ⟨_,_,hG,h1⟩
  ·exact absurd h1 h0
  ·rcases h1 with ⟨_,hr⟩ | ⟨cap,_,_,hr⟩
   ·exact row_ltb hr (by have:=hG.pos;omega)
   ·exact row_ltb hr (start_pos _ hG.pos)
 ·exact owns_ltb h.o hk
 ·exact (h.p p hp).1.ltb hk
theorem SoOk.same {w w':World} {s:So} (h:SoOk w s) (hb:∀ k,s.uses k→w'.heap[k]?=w.heap[k]?):SoOk w' s:=by
 refine ⟨?_,owns_same h.o fun k hk=>hb k (Or.inr (Or.inl hk)),h.four,fun p hp=>⟨(h.p p hp).1.same fun k hk=>hb k (Or.inr (Or.inr ⟨p,hp,hk⟩)),(h.p p hp).2⟩,h.fo,h.fp,h.op,h.pp⟩
 rcases h.f with h1 | ⟨h0,h1,h2,h3⟩
 ·exact Or.inl h1
 ·refine Or.inr ⟨h0,h1,h2,?_⟩
  have e:=hb s.fb (Or.inl ⟨h0,rfl⟩)
  rcases h3 with ⟨h3,h4⟩ | ⟨cap,h3,h4,h5⟩
  ·exact Or.inl ⟨h3,h4.same e⟩
  ·exact Or.inr ⟨cap,h3,h4,h5.same e⟩
structure PNet (w:World) (b:Nat) (S:Nat→So):Prop where
 m:Blk w b 100 24 24 (fun j=>(S (j/3)).cell (j%3))
 s:∀ i,i<8→SoOk w (S i)
 nb:∀ i,i<8→¬ (S i).uses b
 ij:∀ i j,i<8→j<8→i≠j→∀ k,(S i).uses k→¬ (S j).uses k
def netUses (b:Nat) (S:Nat→So) (k:Nat):Prop:=k=b∨∃ i,i<8∧(S i).uses k
theorem PNet.same {w w':World} {b:Nat} {S:Nat→So} (h:PNet w b S) (hb:∀ k,netUses b S k→w'.heap[k]?=w.heap[k]?):PNet w' b S :=
 ⟨h.m.same (hb b (Or.inl rfl)),fun i hi=>(h.s i hi).same fun k hk=>hb k (Or.inr ⟨i,hi,hk⟩),h.nb,h.ij⟩
theorem PNet.keep {w w':World} {b:Nat} {S:Nat→So} (h:PNet w b S) (hg:w.grownBy w' none):PNet w' b S:=h.same fun k hk=>hg.block k (by
 rcases hk with rfl | ⟨i,hi,hk⟩
 ·exact h.m.lt
 ·exact (h.s i hi).lt hk) (by simp)
theorem PNet.lt {w:World} {b:Nat} {S:Nat→So} (h:PNet w b S) {k:Nat} (hk:netUses b S k):k<w.heap.size:=by
 rcases hk with rfl | ⟨i,hi,hk⟩
 ·exact h.m.lt
 ·exact (h.s i hi).lt hk
def updS (S:Nat→So) (i:Nat) (s:So):Nat→So:=fun j=>if j=i then s else S j
theorem updS_at (S:Nat→So) (i:Nat) (s:So):updS S i s i=s:=if_pos rfl
theorem updS_ne (S:Nat→So) (i:Nat) (s:So) {j:Nat} (h:j≠i):updS S i s j=S j:=if_neg h
theorem PNet.cells {w:World} {b:Nat} {S:Nat→So} (h:PNet w b S) {i:Nat} (hi:i<8):w.cell? ⟨b,i*3,none⟩=some (S i).fv∧w.cell? ⟨b,i*3+1,none⟩=some (.slice (S i).wo (S i).ws.length (S i).wc)∧w.cell? ⟨b,i*3+2,none⟩=some (.int .i64 (S i).d):=by
 have c0:=h.m.cell (j:=i*3) (by omega)
 have c1:=h.m.cell (j:=i*3+1) (by omega)
 have c2:=h.m.cell (j:=i*3+2) (by omega)
 rw [show i*3/3=i by omega,show i*3%3=0 by omega] at c0
 rw [show (i*3+1)/3=i by omega,show (i*3+1)%3=1 by omega] at c1
 rw [show (i*3+2)/3=i by omega,show (i*3+2)%3=2 by omega] at c2
 exact ⟨c0,c1,c2⟩
theorem PNet.turn {w w':World} {b i:Nat} {S:Nat→So} {s:So} (h:PNet w b S) (hi:i<8)
  (hm:Blk w' b 100 24 24 (fun j=>(updS S i s (j/3)).cell (j%3))) (hs:SoOk w' s)
  (hsame:∀ k,k<w.heap.size→k≠b→¬ (S i).uses k→w'.heap[k]?=w.heap[k]?)
  (hu:∀ k,s.uses k→(S i).uses k∨w.heap.size≤k):PNet w' b (updS S i s):=by
 have hnew:∀ k,s.uses k→k≠b∧∀ j,j<8→j≠i→¬ (S j).uses k:=fun k hk=>by
  rcases hu k hk with h1 | h1
  ·exact ⟨fun e=>h.nb i hi (e ▸ h1),fun j hj hji hjk=>h.ij i j hi hj (fun e=>hji e.symm) k h1 hjk⟩
  ·exact ⟨fun e=>by have:=h.m.lt;omega,fun j hj _ hjk=>by have:=(h.s j hj).lt hjk;omega⟩
 refine ⟨hm,fun j hj=>?_,fun j hj=>?_,fun j j' hj hj' hne k hk hk'=>?_⟩
 ·by_cases e:j=i
  ·subst e;rw [updS_at];exact hs
  ·rw [updS_ne _ _ _ e]
   exact (h.s j hj).same fun k hk=>hsame k ((h.s j hj).lt hk) (fun e'=>h.nb j hj (e' ▸ hk)) (fun hk'=>h.ij i j hi hj (fun e'=>e e'.symm) k hk' hk)
 ·by_cases e:j=i
  ·subst e;rw [updS_at];exact fun hk=>(hnew b hk).1 rfl
  ·rw [updS_ne _ _ _ e];exact h.nb j hj
 ·by_cases e:j=i
  ·subst e
   rw [updS_at] at hk
   rw [updS_ne _ _ _ (fun e=>hne e.symm)] at hk'
   exact (hnew k hk).2 j' hj' (fun e=>hne e.symm) hk'
  ·rw [updS_ne _ _ _ e] at hk
   by_cases e':j'=i
   ·subst e'
    rw [updS_at] at hk'
    exact (hnew k hk').2 j hj e hk
   ·rw [updS_ne _ _ _ e'] at hk'
    exact h.ij j j' hj hj' hne k hk hk'
end Go.Proofs.YthbcfepbkkbjiaaGreatDoor
