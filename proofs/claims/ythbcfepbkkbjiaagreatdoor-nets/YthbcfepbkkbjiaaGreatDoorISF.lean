import Derived.Test.YthbcfepbkkbjiaaGreatDoorISC
set_option linter.unusedSimpArgs false
set_option linter.unusedVariables false
set_option maxRecDepth 100000
namespace Go.Proofs.YthbcfepbkkbjiaaGreatDoor
open Go.RowKit
def So.drop (s:So) (d:Nat):So:=⟨s.fv,s.fb,s.q,s.n,s.wo,s.wc,s.ws,d⟩
def So.wait (s:So) (wo:Option Addr) (wc:Nat) (ws:List Pk):So:=⟨s.fv,s.fb,s.q,s.n,wo,wc,ws,s.d⟩
theorem SoOk.drop {w:World} {s:So} (h:SoOk w s) (d:Nat):SoOk w (s.drop d):=⟨h.f,h.o,h.four,h.p,h.fo,h.fp,h.op,h.pp⟩
theorem blk_turn {w:World} {b i j:Nat} {S:Nat→So} {s:So} {v:Value} (h:Blk w b 100 24 24 (fun j=>(S (j/3)).cell (j%3))) (hi:i<8) (hj:j<3) (hv:s.cell j=v) (ho:∀ j',j'≠j→j'<3→s.cell j'=(S i).cell j') :
  Blk (w.setCell ⟨b,i*3+j,none⟩ v) b 100 24 24 (fun j=>(updS S i s (j/3)).cell (j%3)):=by
 refine (h.set' (j:=i*3+j) (by omega) v).congr fun x hx=>?_
 by_cases e:x=i*3+j
 ·subst e
  rw [if_pos rfl,show (i*3+j)/3=i by omega,show (i*3+j)%3=j by omega,updS_at,hv]
 ·rw [if_neg e]
  by_cases e2:x/3=i
  ·rw [e2,updS_at,ho _ (by omega) (by omega)]
  ·rw [updS_ne _ _ _ e2]
structure Apart (w w':World) (b:Nat) (S:Nat→So) (i:Nat) (s:So):Prop where
 os:w'.os=w.os
 tape:w'.tape=w.tape
 output:w'.output=w.output
 size:w.heap.size≤w'.heap.size
 same:∀ k,k<w.heap.size→k≠b→¬ (S i).uses k→w'.heap[k]?=w.heap[k]?
 uses:∀ k,s.uses k→(S i).uses k∨w.heap.size≤k
set_option maxHeartbeats 1000000 in
theorem keep_full (b i:Nat) (S:Nat→So) (pv:Value) (w:World) (h:PNet w b S) (hi:i<8) (h4:4≤(S i).ws.length) (hd:(S i).d<9223372036854775807) :
  Calls Tryz.prog 156 #[.pointer (some ⟨b,i*3,none⟩),pv] w fun e w'=>e=.returned (.tuple #[])∧PNet w' b (updS S i ((S i).drop ((S i).d+1)))∧Apart w w' b S i ((S i).drop ((S i).d+1)):=by
 obtain ⟨c0,c1,c2⟩:=h.cells hi
 have z2:=h.m.frozen (i*3+2)
 have t4:(4:Int)≤((S i).ws.length:Int):=by omega
 have hB:=blk_turn (s:=(S i).drop ((S i).d+1)) (v:=.int .i64 (((S i).d:Int)+1)) h.m hi (j:=2) (by omega) (by simp [So.cell,So.drop]) (fun j' h1 h2=>by
  match j',h1,h2 with
  | 0,_,_=>rfl
  | 1,_,_=>rfl
  | 2,h1,_=>exact absurd rfl h1)
 have HH:Hid (PNet w b S):=h
 have hb:=h.m.lt
 have hsame:∀ (v:Value) k,k≠b→(w.setCell ⟨b,i*3+2,none⟩ v).heap[k]?=w.heap[k]?:=fun v k hk=>Below.heap_setCell _ _ _ _ hk
 clear h
 generalize hl:(S i).ws.length=L at *
 go_enter Tryz.func156,Tryz.ntmps156
 go_wp2
 refine bodyPost_ret (results_none rfl _ _ _) rfl ?_
 refine ⟨rfl,HH.out.turn hi hB ((HH.out.s i hi).drop _ |>.same fun k hk=>hsame _ k fun e=>HH.out.nb i hi (e ▸ hk)) (fun k _ hk _=>hsame _ k hk) (fun k hk=>Or.inl hk),rfl,rfl,rfl,by simp [World.setCell],fun k _ hk _=>hsame _ k hk,fun k hk=>Or.inl hk⟩
theorem ownBlock_slice (ao:Option Addr) (n c:Nat):(Value.slice ao n c).ownBlock=own? ao:=by cases ao <;> rfl
theorem wait_turn {w w2 w3:World} {b i:Nat} {S:Nat→So} {ao:Option Addr} {m c g4 p4:Nat} {p:Nat→Int} (H:PNet w b S) (hi:i<8) (h4:(S i).ws.length<4) (g2:w.grownBy w2 none)
  (hh:Held w2 5 1 ao m c (ints .u8 p)) (hf:∀ k,own? ao=some k→w.heap.size≤k) (hp:Oct p) (hm:m≤2000)
  (ho3:w3.ownsRow 0 25 1 (.slice (some ⟨g4,0,none⟩) ((S i).ws.length+1) p4) ((S i).ws.length+1) ((S i).ws.map Pk.v ++ [.slice ao m c])) (hg3:w2.grownBy w3 (own? (S i).wo)) (hx:some g4=own? (S i).wo∨g4=w2.heap.size) :
  PNet (w3.setCell ⟨b,i*3+1,none⟩ (.slice (some ⟨g4,0,none⟩) ((S i).ws.length+1) p4)) b (updS S i ((S i).wait (some ⟨g4,0,none⟩) p4 ((S i).ws ++ [⟨ao,m,c,p⟩])))∧Apart w (w3.setCell ⟨b,i*3+1,none⟩ (.slice (some ⟨g4,0,none⟩) ((S i).ws.length+1) p4)) b S i ((S i).wait (some ⟨g4,0,none⟩) p4 ((S i).ws ++ [⟨ao,m,c,p⟩])):=by
 have hS:=H.s i hi
 have hb:=H.m.lt
 have hz:=g2.size
 have wob:own? (S i).wo≠some b:=fun e=>H.nb i hi (Or.inr (Or.inl e))
 have woL:∀ k,own? (S i).wo=some k→k<w.heap.size:=fun k hk=>hS.lt (Or.inr (Or.inl hk))
 have g4b:g4≠b:=by
  rcases hx with e | e
  ·exact fun e'=>wob (e' ▸ e.symm)
  ·omega
 have g4n:∀ k,own? ao=some k→k≠g4:=fun k hk e=>by
  rcases hx with h | h
  ·have:=woL g4 h.symm;have:=hf k hk;omega
  ·have:=hh.ltb hk;omega
 have aob:∀ k,own? ao=some k→k≠b:=fun k hk e=>by have:=hf k hk;omega
 have step:∀ (v:Value) k,k<w.heap.size→k≠b→own? (S i).wo≠some k→(w3.setCell ⟨b,i*3+1,none⟩ v).heap[k]?=w.heap[k]?:=fun v k hk hkb hkw=>by
  rw [Below.heap_setCell _ _ _ _ hkb,hg3.block k (by omega) (fun e=>hkw e.symm),g2.block k hk (by simp)]
 have hm3:Blk w3 b 100 24 24 (fun j=>(S (j/3)).cell (j%3)):=(H.m.keep g2 (by simp)).keep hg3 (fun e=>wob e.symm)
 have hB:=blk_turn (s:=(S i).wait (some ⟨g4,0,none⟩) p4 ((S i).ws ++ [⟨ao,m,c,p⟩])) (v:=.slice (some ⟨g4,0,none⟩) ((S i).ws.length+1) p4) hm3 hi (j:=1) (by omega) (by simp [So.cell,So.wait]) (fun j' h1 h2=>by
  match j',h1,h2 with
  | 0,_,_=>rfl
  | 1,h1,_=>exact absurd rfl h1
  | 2,_,_=>rfl)
 have hu:∀ k,((S i).wait (some ⟨g4,0,none⟩) p4 ((S i).ws ++ [⟨ao,m,c,p⟩])).uses k→(S i).uses k∨w.heap.size≤k:=fun k hk=>by
  rcases hk with hk | hk | ⟨p',hp',hk⟩
  ·exact Or.inl (Or.inl hk)
  ·cases hk
   rcases hx with e | e
   ·exact Or.inl (Or.inr (Or.inl e.symm))
   ·exact Or.inr (by show _≤g4;omega)
  ·rcases List.mem_append.1 hp' with hp' | hp'
   ·exact Or.inl (Or.inr (Or.inr ⟨p',hp',hk⟩))
   ·simp at hp'
    subst hp'
    exact Or.inr (hf k hk)
 have hsame:∀ k,k<w.heap.size→k≠b→¬ (S i).uses k→(w3.setCell ⟨b,i*3+1,none⟩ (.slice (some ⟨g4,0,none⟩) ((S i).ws.length+1) p4)).heap[k]?=w.heap[k]?:=fun k hk hkb hku=>step _ k hk hkb (fun e=>hku (Or.inr (Or.inl e)))
 have z3:=hg3.size
 refine ⟨H.turn hi hB ?_ hsame hu,hg3.os.trans g2.os,hg3.tape.trans g2.tape,hg3.output.trans g2.output,by simp [World.setCell];omega,hsame,hu⟩
 refine ⟨?_,?_,?_,?_,?_,?_,?_,?_⟩
 ·have:FilOk w (S i)→FilOk (w3.setCell ⟨b,i*3+1,none⟩ (.slice (some ⟨g4,0,none⟩) ((S i).ws.length+1) p4)) (S i):=fun hf'=>by
   rcases hf' with h1 | ⟨h0,h1,h2,h3⟩
   ·exact Or.inl h1
   ·have e:=step (.slice (some ⟨g4,0,none⟩) ((S i).ws.length+1) p4) (S i).fb (hS.lt (Or.inl ⟨h0,rfl⟩)) (fun e=>H.nb i hi (Or.inl ⟨h0,e⟩)) (hS.fo h0)
    refine Or.inr ⟨h0,h1,h2,?_⟩
    rcases h3 with ⟨h3,h4⟩ | ⟨cap,h3,h4,h5⟩
    ·exact Or.inl ⟨h3,h4.same e⟩
    ·exact Or.inr ⟨cap,h3,h4,h5.same e⟩
  exact this hS.f
 ·show World.ownsRow _ 0 _ 1 (.slice (some ⟨g4,0,none⟩) ((S i).ws ++ [(⟨ao,m,c,p⟩:Pk)]).length p4) ((S i).ws ++ [(⟨ao,m,c,p⟩:Pk)]).length (((S i).ws ++ [(⟨ao,m,c,p⟩:Pk)]).map Pk.v)
  rw [List.length_append,List.map_append]
  exact owns_same ho3 fun k hk=>by cases hk;exact Below.heap_setCell _ _ _ _ g4b
 ·show ((S i).ws ++ [(⟨ao,m,c,p⟩:Pk)]).length≤4
  rw [List.length_append]
  show (S i).ws.length+1≤4
  omega
 ·intro p' hp'
  rcases List.mem_append.1 hp' with hp' | hp'
  ·refine ⟨(hS.p p' hp').1.same fun k hk=>step _ k (hS.lt (Or.inr (Or.inr ⟨p',hp',hk⟩))) (fun e=>H.nb i hi (Or.inr (Or.inr ⟨p',hp',e ▸ hk⟩))) (hS.op p' hp' k hk),(hS.p p' hp').2⟩
  ·simp at hp'
   subst hp'
   refine ⟨hh.same fun k hk=>?_,hp,hm⟩
   rw [Below.heap_setCell _ _ _ _ (aob k hk),hg3.block k (hh.ltb hk) (fun e=>by have:=woL k e.symm;have:=hf k hk;omega)]
 ·intro h0 e
  cases e
  rcases hx with h | h
  ·exact hS.fo h0 h.symm
  ·have:=hS.lt (Or.inl ⟨h0,rfl⟩:(S i).uses (S i).fb)
   have h':(S i).fb=w2.heap.size:=h
   omega
 ·intro h0 p' hp' e
  rcases List.mem_append.1 hp' with hp' | hp'
  ·exact hS.fp h0 p' hp' e
  ·simp at hp'
   subst hp'
   have:=hf _ e
   have:=hS.lt (Or.inl ⟨h0,rfl⟩:(S i).uses (S i).fb)
   have h':((S i).wait (some ⟨g4,0,none⟩) p4 ((S i).ws ++ [⟨ao,m,c,p⟩])).fb=(S i).fb:=rfl
   omega
 ·intro p' hp' k hk e
  cases e
  rcases List.mem_append.1 hp' with hp' | hp'
  ·rcases hx with h | h
   ·exact hS.op p' hp' _ hk h.symm
   ·have:=hS.lt (Or.inr (Or.inr ⟨p',hp',hk⟩):(S i).uses _)
    have h':g4<w.heap.size:=this
    omega
  ·simp at hp'
   subst hp'
   exact g4n _ hk rfl
 ·refine List.pairwise_append.2 ⟨hS.pp,by simp,fun p' hp' p'' hp'' k hk hk'=>?_⟩
  simp at hp''
  subst hp''
  have:=hS.lt (Or.inr (Or.inr ⟨p',hp',hk⟩):(S i).uses k)
  have:=hf k hk'
  omega
set_option maxHeartbeats 1000000 in
theorem keep_room (b i:Nat) (S:Nat→So) (po:Option Addr) (m pc:Nat) (p:Nat→Int) (w:World) (h:PNet w b S) (hi:i<8) (h4:(S i).ws.length<4) (hm:m≤2000) (hz:po=none→m=0) (hp:Oct p) (hq:Src w .u8 po m p) :
  Calls Tryz.prog 156 #[.pointer (some ⟨b,i*3,none⟩),.slice po m pc] w fun e w'=>e=.returned (.tuple #[])∧∃ wo wc a c,PNet w' b (updS S i ((S i).wait wo wc ((S i).ws ++ [⟨a,m,c,p⟩])))∧Apart w w' b S i ((S i).wait wo wc ((S i).ws ++ [⟨a,m,c,p⟩])):=by
 obtain ⟨i0,hi0,hz0,hz1,hz2⟩:=info_parts Tryz.infoBytes1
 obtain ⟨c0,c1,c2⟩:=h.cells hi
 have z1:=h.m.frozen (i*3+1)
 have t4:¬ (4:Int)≤((S i).ws.length:Int):=by omega
 have HH:Hid (PNet w b S):=h
 have HC:Hid (∀ w',w.grownBy w' none→Calls Tryz.prog 169 #[.slice po m pc] w' fun e w''=>(∃ ao' c',e=.returned (.slice ao' m c')∧Held w'' 5 1 ao' m c' (ints .u8 p)∧∀ k,own? ao'=some k→w'.heap.size≤k)∧w'.grownBy w'' none):=fun w' hg=>clone_any po m pc p w' hm hz (hq.keep hg)
 have hb:=h.m.lt
 obtain ⟨L,hL⟩:∃ L,(S i).ws.length=L:=⟨_,rfl⟩
 have HL:Hid ((S i).ws.length=L):=hL
 rw [hL] at c1 t4
 clear h hq hL
 go_enter Tryz.func156,Tryz.ntmps156
 go_wp2
 go_region_law (first | (refine step_app _ rfl _ _ 33 rfl 0 25 i0 (.slice none 0 0) 1 24 Tryz.underlying33 hi0 hz0 hz1 hz2 rfl (by decide) (.slice (S i).wo L (S i).wc) L ((S i).ws.map Pk.v) rfl OC ⟨w1.heap.size,0,none⟩ 1 1 [.slice ao1 m cc1] rfl rfl (World.news_of_block (heap_top _ _ _ rfl)) (by simp [Value.oneCell']) (by unfold maxLen;omega) (by omega) (Nat.zero_le _) ?_;intro cv' w3 ho3 hg3 hat3;obtain ⟨g4,p4,rfl,_,_⟩:=owns_form ho3 (by omega);have k1:=(H2.m.keep hg3 (by rw [ownBlock_slice];exact fun e=>H2.nb i hi (Or.inr (Or.inl e.symm)))).cell (j:=i*3+1) (by omega);have f1:=(H2.m.keep hg3 (by rw [ownBlock_slice];exact fun e=>H2.nb i hi (Or.inr (Or.inl e.symm)))).frozen (i*3+1)) | (refine step_un rfl ?_;go_simp;go_at_call 169;refine (HC.out _ (grown_drew (grown_refl _ _))).mono ?_;rintro e w1 ⟨⟨ao1,cc1,rfl,hh1,hf1⟩,hg1⟩;have H1:=(HH.out.keep (grown_drew (grown_refl _ _))).keep hg1;have A2:=World.grownBy_alloc w1 (.cells #[.slice ao1 m cc1] 25) none;have H2:=H1.keep A2;have OC:=(H2.s i hi).o;rw [HL.out] at OC;obtain ⟨e0,e1,e2⟩:=H1.cells hi;rw [HL.out] at e1;have y1:=H1.m.frozen (i*3+1);obtain ⟨d0,d1,d2⟩:=H2.cells hi;rw [HL.out] at d1;have x1:=H2.m.frozen (i*3+1)))
 all_goals go_wp2
 all_goals go_end0
 all_goals
  have e:=HL.out
  subst e
  simp only [ownBlock_slice] at hg3 hat3
  exact ⟨rfl,_,_,_,_,wait_turn HH.out hi h4 (grown_trans (grown_trans (grown_drew (grown_refl w none)) hg1) A2) (hh1.keep A2 (Or.inl rfl)) hf1 hp hm ho3 hg3 (hat3.imp (fun e=>e) (fun e=>Option.some.inj e))⟩
end Go.Proofs.YthbcfepbkkbjiaaGreatDoor
namespace Go.Proofs.YthbcfepbkkbjiaaGreatDoor
open Go.RowKit
theorem updS_self (S:Nat→So) (i:Nat):updS S i (S i)=S:=funext fun j=>by unfold updS;split <;> simp_all
theorem Apart.after {w w1 w':World} {b i:Nat} {S:Nat→So} {s:So} (h:Apart w1 w' b S i s) (g:w.grownBy w1 none):Apart w w' b S i s :=
 ⟨h.os.trans g.os,h.tape.trans g.tape,h.output.trans g.output,Nat.le_trans g.size h.size,fun k hk hb hu=>(h.same k (Nat.lt_of_lt_of_le hk g.size) hb hu).trans (g.block k hk (by simp)),fun k hk=>(h.uses k hk).imp id fun h=>Nat.le_trans g.size h⟩
theorem apart_none {w w1:World} (b i:Nat) (S:Nat→So) (g:w.grownBy w1 none):Apart w w1 b S i (S i) :=
 ⟨g.os,g.tape,g.output,g.size,fun k hk _ _=>g.block k hk (by simp),fun k hk=>Or.inl hk⟩
theorem Tryz.mInstr (v : Value) (w : World) : (Go.method 410 238 v "gauge/sockets.verdict").run Tryz.prog w = .ok (220, v) w := by kernel_rfl
theorem Tryz.mCode (v : Value) (w : World) : (Go.method 410 237 v "gauge/sockets.verdict").run Tryz.prog w = .ok (219, v) w := by kernel_rfl
theorem eql_judge (w:World) (tp:TypeId) (v:Value):(binOp .eql 94 (.iface tp v) .nilIface).run Tryz.prog w=.ok (.bool false) w:=by
 have h:∀ d:Nat,(Op.equalIn (d+1) 94 (.iface tp v) .nilIface).run Tryz.prog w=.ok false w:=fun d=>by simp [Op.equalIn,run_underlying Tryz.underlying94]
 simp only [binOp]
 simp [Op.equal,Op.maxDepth,h 9999]
theorem eql_judge0 (w:World):(binOp .eql 94 .nilIface .nilIface).run Tryz.prog w=.ok (.bool true) w:=by
 have h:∀ d:Nat,(Op.equalIn (d+1) 94 .nilIface .nilIface).run Tryz.prog w=.ok true w:=fun d=>by simp [Op.equalIn,run_underlying Tryz.underlying94]
 simp only [binOp]
 simp [Op.equal,Op.maxDepth,h 9999]
def Off (w w':World) (b:Nat) (S:Nat→So) (i:Nat) (p:Nat→Int) (m:Nat) (R:Int):Prop:=∃ s',PNet w' b (updS S i s')∧Apart w w' b S i s' ∧
 (R=0→s'=S i)∧(R≠0→4≤(S i).ws.length→s'=(S i).drop ((S i).d+1))∧(R≠0→(S i).ws.length<4→∃ wo wc a c,s'=(S i).wait wo wc ((S i).ws ++ [⟨a,min m R.toNat,c,p⟩]))
theorem off_zero {w w1:World} {b i m:Nat} {S:Nat→So} {p:Nat→Int} (h:PNet w b S) (hg:w.grownBy w1 none):Off w w1 b S i p m 0 :=
 ⟨S i,by rw [updS_self];exact h.keep hg,apart_none b i S hg,fun _=>rfl,fun h=>absurd rfl h,fun h=>absurd rfl h⟩
theorem keep_off {w w1:World} {b i m K pc:Nat} {S:Nat→So} {po:Option Addr} {p:Nat→Int} (h:PNet w b S) (hi:i<8) (hm:m≤2000) (hz:po=none→m=0) (hp:Oct p) (hq:Src w .u8 po m p) (hd:(S i).d<9223372036854775807) (hK:(K:Int)≠0) (hg:w.grownBy w1 none) :
  Calls Tryz.prog 156 #[.pointer (some ⟨b,i*3,none⟩),.slice po (min m K) pc] w1 fun e w'=>e=.returned (.tuple #[])∧Off w w' b S i p m (K:Int):=by
 have h1:=h.keep hg
 by_cases h4:4≤(S i).ws.length
 ·refine (keep_full b i S _ w1 h1 hi h4 hd).mono ?_
  rintro e w' ⟨rfl,hP,hA⟩
  exact ⟨rfl,_,hP,hA.after hg,fun h=>absurd h hK,fun _ _=>rfl,fun _ h=>by omega⟩
 ·have hq1:Src w1 .u8 po (min m K) p:=fun h0=>by
   obtain ⟨b',off,e,hr⟩:=(hq.keep hg) (by omega)
   exact ⟨b',off,e,fun j hj=>hr j (by omega)⟩
  refine (keep_room b i S po (min m K) pc p w1 h1 hi (by omega) (by omega) (fun e=>by have:=hz e;omega) hp hq1).mono ?_
  rintro e w' ⟨rfl,wo,wc,a,c,hP,hA⟩
  exact ⟨rfl,_,hP,hA.after hg,fun h=>absurd h hK,fun _ h=>absurd h h4,fun _ _=>⟨wo,wc,a,c,rfl⟩⟩
set_option maxHeartbeats 1000000 in
theorem offer_none (b i:Nat) (S:Nat→So) (pv:Value) (w:World) (h:PNet w b S) (hi:i<8) (h0:(S i).fv=.nilIface) :
  Calls Tryz.prog 121 #[.pointer (some ⟨b,i*3,none⟩),pv] w fun e w'=>e=.returned (.tuple #[])∧w.grownBy w' none:=by
 obtain ⟨c0,c1,c2⟩:=h.cells hi
 rw [h0] at c0
 have e0:=eql_judge0
 clear h
 go_enter Tryz.func121,Tryz.ntmps121
 go_wp2
 refine bodyPost_ret (results_none rfl _ _ _) rfl ?_
 exact ⟨rfl,grown_refl _ _⟩
set_option maxHeartbeats 1000000 in
theorem offer_i (b i:Nat) (S:Nat→So) (po:Option Addr) (m pc:Nat) (p:Nat→Int) (R:Int) (B N cap:Nat) (w:World) (h:PNet w b S) (hi:i<8) (hfv:(S i).fv=.iface 238 (.slice (some ⟨B,0,none⟩) N cap)) (hm:m≤2000) (hmc:m≤pc) (hz:po=none→m=0) (hp:Oct p) (hq:Src w .u8 po m p) (hd:(S i).d<9223372036854775807) (hR:U32 R)
  (hV:Calls Tryz.prog 220 #[.slice (some ⟨B,0,none⟩) N cap,.slice po m pc] w fun e w''=>e=.returned (.int .u32 R)∧w.grownBy w'' none) :
  Calls Tryz.prog 121 #[.pointer (some ⟨b,i*3,none⟩),.slice po m pc] w fun e w'=>e=.returned (.tuple #[])∧Off w w' b S i p m R:=by
 obtain ⟨c0,c1,c2⟩:=h.cells hi
 rw [hfv] at c0
 have e0:=eql_judge
 have mt:=Tryz.mInstr
 have HH:Hid (PNet w b S):=h
 have HV:Hid (Calls Tryz.prog 220 #[.slice (some ⟨B,0,none⟩) N cap,.slice po m pc] w fun e w''=>e=.returned (.int .u32 R)∧w.grownBy w'' none):=hV
 have HQ:Hid (Src w .u8 po m p):=hq
 obtain ⟨r0,r1⟩:=hR
 clear h hV hq hfv
 by_cases hR0:R=0
 ·subst hR0
  go_enter Tryz.func121,Tryz.ntmps121
  go_wp2_with (go_at_call 220;refine HV.out.mono ?_;rintro e w1 ⟨rfl,hg1⟩)
  go_end0
  exact ⟨rfl,off_zero HH.out hg1⟩
 ·have hR1:(R != 0)=true:=by simpa using hR0
  obtain ⟨K,hK⟩:∃ K:Nat,R=(K:Int):=⟨R.toNat,by omega⟩
  subst hK
  have HK:Hid (∀ w1,w.grownBy w1 none→Calls Tryz.prog 156 #[.pointer (some ⟨b,i*3,none⟩),.slice po (min (m:Int) (K:Int)).toNat pc] w1 fun e w'=>e=.returned (.tuple #[])∧Off w w' b S i p m (K:Int)):=fun w1 hg1=>by
   rw [show (min (m:Int) (K:Int)).toNat=min m K by omega]
   exact keep_off HH.out hi hm hz hp HQ.out hd (by omega) hg1
  have t1:(0:Int)≤min (m:Int) (K:Int):=by omega
  have t2:min (m:Int) (K:Int)≤(pc:Int):=by omega
  clear hz hp hm
  go_enter Tryz.func121,Tryz.ntmps121
  go_wp2_with (first | (go_at_call 220;refine HV.out.mono ?_;rintro e w1 ⟨rfl,hg1⟩) | (go_at_call 156;refine (HK.out _ hg1).mono ?_;rintro e w2 ⟨rfl,ho2⟩))
  go_end0
  exact ⟨rfl,ho2⟩
set_option maxHeartbeats 1000000 in
theorem offer_c (b i:Nat) (S:Nat→So) (po:Option Addr) (m pc:Nat) (p:Nat→Int) (R:Int) (B N cap:Nat) (w:World) (h:PNet w b S) (hi:i<8) (hfv:(S i).fv=.iface 237 (.slice (some ⟨B,0,none⟩) N cap)) (hm:m≤2000) (hmc:m≤pc) (hz:po=none→m=0) (hp:Oct p) (hq:Src w .u8 po m p) (hd:(S i).d<9223372036854775807) (hR:U32 R)
  (hV:Calls Tryz.prog 219 #[.slice (some ⟨B,0,none⟩) N cap,.slice po m pc] w fun e w''=>e=.returned (.int .u32 R)∧w.grownBy w'' none) :
  Calls Tryz.prog 121 #[.pointer (some ⟨b,i*3,none⟩),.slice po m pc] w fun e w'=>e=.returned (.tuple #[])∧Off w w' b S i p m R:=by
 obtain ⟨c0,c1,c2⟩:=h.cells hi
 rw [hfv] at c0
 have e0:=eql_judge
 have mt:=Tryz.mCode
 have HH:Hid (PNet w b S):=h
 have HV:Hid (Calls Tryz.prog 219 #[.slice (some ⟨B,0,none⟩) N cap,.slice po m pc] w fun e w''=>e=.returned (.int .u32 R)∧w.grownBy w'' none):=hV
 have HQ:Hid (Src w .u8 po m p):=hq
 obtain ⟨r0,r1⟩:=hR
 clear h hV hq hfv
 by_cases hR0:R=0
 ·subst hR0
  go_enter Tryz.func121,Tryz.ntmps121
  go_wp2_with (go_at_call 219;refine HV.out.mono ?_;rintro e w1 ⟨rfl,hg1⟩)
  go_end0
  exact ⟨rfl,off_zero HH.out hg1⟩
 ·have hR1:(R != 0)=true:=by simpa using hR0
  obtain ⟨K,hK⟩:∃ K:Nat,R=(K:Int):=⟨R.toNat,by omega⟩
  subst hK
  have HK:Hid (∀ w1,w.grownBy w1 none→Calls Tryz.prog 156 #[.pointer (some ⟨b,i*3,none⟩),.slice po (min (m:Int) (K:Int)).toNat pc] w1 fun e w'=>e=.returned (.tuple #[])∧Off w w' b S i p m (K:Int)):=fun w1 hg1=>by
   rw [show (min (m:Int) (K:Int)).toNat=min m K by omega]
   exact keep_off HH.out hi hm hz hp HQ.out hd (by omega) hg1
  have t1:(0:Int)≤min (m:Int) (K:Int):=by omega
  have t2:min (m:Int) (K:Int)≤(pc:Int):=by omega
  clear hz hp hm
  go_enter Tryz.func121,Tryz.ntmps121
  go_wp2_with (first | (go_at_call 219;refine HV.out.mono ?_;rintro e w1 ⟨rfl,hg1⟩) | (go_at_call 156;refine (HK.out _ hg1).mono ?_;rintro e w2 ⟨rfl,ho2⟩))
  go_end0
  exact ⟨rfl,ho2⟩
end Go.Proofs.YthbcfepbkkbjiaaGreatDoor
namespace Go.Proofs.YthbcfepbkkbjiaaGreatDoor
open Go.RowKit
theorem off_ab {w w':World} {b i m:Nat} {S:Nat→So} {p:Nat→Int} {R:Int} (h:Off w w' b S i p m R) (hR:R=(S i).ab.want p m):∃ s',PNet w' b (updS S i s')∧Apart w w' b S i s'∧s'.ab=(S i).ab.offer p m:=by
 obtain ⟨s',h1,h2,h3,h4,h5⟩:=h
 refine ⟨s',h1,h2,?_⟩
 unfold Ab.offer
 rw [← hR]
 have hl:(S i).ab.ws.length=(S i).ws.length:=by simp [So.ab]
 rw [hl]
 by_cases h0:R=0
 ·rw [if_pos h0,h3 h0]
 ·rw [if_neg h0]
  by_cases h6:4≤(S i).ws.length
  ·rw [if_pos h6,h4 h0 h6]
   rfl
  ·rw [if_neg h6]
   obtain ⟨wo,wc,a,c,e⟩:=h5 h0 (by omega)
   rw [e]
   simp [So.ab,So.wait]
theorem offer_any (b i:Nat) (S:Nat→So) (po:Option Addr) (m pc:Nat) (p:Nat→Int) (w:World) (h:PNet w b S) (hi:i<8) (hm:m≤2000) (hmc:m≤pc) (hz:po=none→m=0) (hp:Oct p) (hq:Src w .u8 po m p) (hd:(S i).d<9223372036854775807) :
  Calls Tryz.prog 121 #[.pointer (some ⟨b,i*3,none⟩),.slice po m pc] w fun e w'=>e=.returned (.tuple #[])∧∃ s',PNet w' b (updS S i s')∧Apart w w' b S i s'∧s'.ab=(S i).ab.offer p m:=by
 rcases (h.s i hi).f with ⟨h0,hv⟩ | ⟨h0,h256,hG,hv⟩
 ·refine (offer_none b i S _ w h hi hv).mono ?_
  rintro e w' ⟨rfl,hg⟩
  exact ⟨rfl,off_ab (off_zero h hg) (by simp [Ab.want,So.ab,h0])⟩
 ·have hR:U32 (runF (S i).q p m 256 F0):=runF_u32 hG hp hm 256 F0 (finv0 hG.pos)
  have hw:runF (S i).q p m 256 F0=(S i).ab.want p m:=by simp [Ab.want,So.ab,h0]
  rcases hv with ⟨hv,hr⟩ | ⟨cap,hv,hc,hr⟩
  ·refine (offer_i b i S po m pc p _ _ _ _ w h hi hv hm hmc hz hp hq hd hR (verdict_list _ _ _ po m pc p w h256 hm hmc hp hr hq hG)).mono ?_
   rintro e w' ⟨rfl,ho⟩
   exact ⟨rfl,off_ab ho hw⟩
  ·refine (offer_c b i S po m pc p _ _ _ _ w h hi hv hm hmc hz hp hq hd hR (verdict_code _ _ _ _ po m pc p w h256 hm hmc hp hc (fun _=>⟨_,_,rfl,hr⟩) hq hG)).mono ?_
   rintro e w' ⟨rfl,ho⟩
   exact ⟨rfl,off_ab ho hw⟩
structure NApart (w w':World) (b:Nat) (S S':Nat→So):Prop where
 os:w'.os=w.os
 tape:w'.tape=w.tape
 output:w'.output=w.output
 size:w.heap.size≤w'.heap.size
 same:∀ k,k<w.heap.size→¬ netUses b S k→w'.heap[k]?=w.heap[k]?
 uses:∀ k,netUses b S' k→netUses b S k∨w.heap.size≤k
theorem napart_refl (w:World) (b:Nat) (S:Nat→So):NApart w w b S S:=⟨rfl,rfl,rfl,Nat.le_refl _,fun _ _ _=>rfl,fun _ h=>Or.inl h⟩
theorem NApart.trans {w w1 w':World} {b:Nat} {S S1 S':Nat→So} (h:NApart w w1 b S S1) (h':NApart w1 w' b S1 S'):NApart w w' b S S' :=
 ⟨h'.os.trans h.os,h'.tape.trans h.tape,h'.output.trans h.output,Nat.le_trans h.size h'.size,fun k hk hu=>(h'.same k (Nat.lt_of_lt_of_le hk h.size) (fun hu1=>by
  rcases h.uses k hu1 with h1 | h1
  ·exact hu h1
  ·omega)).trans (h.same k hk hu),fun k hk=>by
  rcases h'.uses k hk with h1 | h1
  ·exact h.uses k h1
  ·exact Or.inr (Nat.le_trans h.size h1)⟩
theorem Apart.net {w w':World} {b i:Nat} {S:Nat→So} {s:So} (h:Apart w w' b S i s) (hi:i<8):NApart w w' b S (updS S i s) :=
 ⟨h.os,h.tape,h.output,h.size,fun k hk hu=>h.same k hk (fun e=>hu (Or.inl e)) (fun hu'=>hu (Or.inr ⟨i,hi,hu'⟩)),fun k hk=>by
  rcases hk with hk | ⟨j,hj,hk⟩
  ·exact Or.inl (Or.inl hk)
  ·by_cases e:j=i
   ·subst e
    rw [updS_at] at hk
    exact (h.uses k hk).imp (fun h=>Or.inr ⟨j,hj,h⟩) id
   ·rw [updS_ne _ _ _ e] at hk
    exact Or.inl (Or.inr ⟨j,hj,hk⟩)⟩
theorem Src.same {w w':World} {k:IntKind} {ao:Option Addr} {n:Nat} {g:Nat→Int} (h:Src w k ao n g) (hb:∀ x,own? ao=some x→x<w.heap.size→w'.heap[x]?=w.heap[x]?):Src w' k ao n g:=fun hn=>by
 obtain ⟨b,off,rfl,hr⟩:=h hn
 have hl:=World.block_lt_of_cell? w _ (hr 0 hn)
 exact ⟨b,off,rfl,hr.same (hb b rfl hl)⟩
set_option maxHeartbeats 1000000 in
theorem rframe_any (b:Nat) (S:Nat→So) (po:Option Addr) (m pc:Nat) (p:Nat→Int) (w:World) (h:PNet w b S) (hm:m≤2000) (hmc:m≤pc) (hz:po=none→m=0) (hp:Oct p) (hq:Src w .u8 po m p) (hpo:0<m→∀ k,own? po=some k→¬ netUses b S k) (hd:∀ i,i<8→(S i).d<9223372036854775807) :
  Calls Tryz.prog 91 #[.pointer (some ⟨b,0,none⟩),.slice po m pc] w fun e w'=>e=.returned .nilIface∧∃ S',PNet w' b S'∧NApart w w' b S S'∧∀ i,i<8→(S' i).ab=(S i).ab.offer p m:=by
 have HH:Hid (PNet w b S):=h
 have HQ:Hid (Src w .u8 po m p):=hq
 have HP:Hid (0<m→∀ k,own? po=some k→¬ netUses b S k):=hpo
 have HD:Hid (∀ i,i<8→(S i).d<9223372036854775807):=hd
 have t0:¬ ((2000:Int)<(m:Int)):=by omega
 clear h hq hpo hd
 go_enter Tryz.func91,Tryz.ntmps91
 go_wp2
 go_loopw [10] (fun v wr=>∃ (k:Nat) (Sk:Nat→So),k≤8∧v=.int .i64 k∧PNet wr b Sk∧NApart w wr b S Sk∧(∀ j,j<k→(Sk j).ab=(S j).ab.offer p m)∧(∀ j,k≤j→Sk j=S j)) (fun v _=>8-(intOf v).toNat)
 case atStart=>exact ⟨0,S,by omega,rfl,HH.out,napart_refl w b S,fun j hj=>by omega,fun j _=>rfl⟩
 case round =>
  obtain ⟨k,Sk,hk,rfl,hP,hA,hlo,hhi⟩:=hrel
  by_cases hlt:k<8
  ·have HOf:Hid (Calls Tryz.prog 121 #[.pointer (some ⟨b,k*3,none⟩),.slice po m pc] wr fun e w'=>e=.returned (.tuple #[])∧∃ s',PNet w' b (updS Sk k s')∧Apart wr w' b Sk k s'∧s'.ab=(Sk k).ab.offer p m):=offer_any b k Sk po m pc p wr hP hlt hm hmc hz hp (fun h0=>(HQ.out.same fun x hx hxl=>hA.same x hxl (HP.out h0 x hx)) h0) (by rw [hhi k (Nat.le_refl _)];exact HD.out k hlt)
   have t1:(k:Int)<8:=by omega
   have HA:Hid (NApart w wr b S Sk):=hA
   have Hlo:Hid (∀ j,j<k→(Sk j).ab=(S j).ab.offer p m):=hlo
   have Hhi:Hid (∀ j,k≤j→Sk j=S j):=hhi
   clear hP hA hlo hhi
   go_wp2_with (go_at_call 121;refine HOf.out.mono ?_;rintro e w1 ⟨rfl,s',hP1,hA1,hab⟩)
   go_roundw
   case rel =>
    refine ⟨k+1,updS Sk k s',by omega,by go_num,hP1,HA.out.trans (hA1.net hlt),fun j hj=>?_,fun j hj=>?_⟩
    ·by_cases e:j=k
     ·subst e
      rw [updS_at,hab,Hhi.out j (Nat.le_refl _)]
     ·rw [updS_ne _ _ _ e]
      exact Hlo.out j (by omega)
    ·rw [updS_ne _ _ _ (by omega)]
     exact Hhi.out j (by omega)
   case measure=>simp [intOf];omega
  ·obtain rfl:k=8:=by omega
   go_wp2
   go_ret
   exact ⟨rfl,Sk,hP,hA,hlo⟩
theorem rframe_long (b:Nat) (po:Option Addr) (m pc:Nat) (a1 a2 a3 a4:Addr) (w:World) (hs:Sent w a1 a2 a3 a4) (hm:2000<m) (hm2:m≤maxLen) :
  Calls Tryz.prog 91 #[.pointer (some ⟨b,0,none⟩),.slice po m pc] w fun e w'=>e=.returned (.iface 279 (.pointer (some a2)))∧w.grownBy w' none:=by
 obtain ⟨ga,gb,gc,gd,_,_,_,_,_,_,_,_,_,_⟩:=hs
 have t0:(2000:Int)<(m:Int):=by omega
 unfold maxLen at hm2
 go_enter Tryz.func91,Tryz.ntmps91
 go_wp2
 go_ret
 exact ⟨rfl,grown_refl _ _⟩
end Go.Proofs.YthbcfepbkkbjiaaGreatDoor
