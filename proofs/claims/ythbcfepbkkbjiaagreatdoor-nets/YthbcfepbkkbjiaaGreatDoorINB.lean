import Derived.Laws.BytesString
import Derived.Test.YthbcfepbkkbjiaaGreatDoorIWA
import Derived.Test.YthbcfepbkkbjiaaGreatDoorIRA
set_option linter.unusedSimpArgs false
set_option linter.unusedVariables false
set_option maxRecDepth 100000
namespace Go.Proofs.YthbcfepbkkbjiaaGreatDoor
open Go.RowKit
def stOf (l:Nat) (g:Nat→Int):ByteArray:=((List.range l).map g).foldl (fun r n=>r.push (UInt8.ofNat n.toNat)) ByteArray.empty
theorem conv_str {w:World} {ao:Option Addr} {l:Nat} (c:Nat) {g:Nat→Int} (h:Src w .u8 ao l g) (hz:ao=none→l=0):(convert 25 9 (.slice ao l c)).run Tryz.prog w=.ok (.string (stOf l g)) w:=by
 rw [run_convert_bytes_string w _ _ 5 ao l c Tryz.underlying25 Tryz.underlying5 Tryz.underlying9]
 cases ao with
 | none =>
  obtain rfl:=hz rfl
  simp [Conv.bytesToString,stOf]
 | some a =>
  refine run_bytesToString w a l c _ ?_
  have:=run_loadCells_list (P:=Tryz.prog) w a (((List.range l).map g).map (Value.int .u8)) (fun j v hv=>?_)
  ·simpa using this
  ·have hj:j<l:=by have:=(List.getElem?_eq_some_iff.1 hv).1;simpa using this
   obtain ⟨b,off,e,hr⟩:=h (by omega)
   cases e
   have e:(⟨b,off,none⟩:Addr).add j=⟨b,off+j,none⟩:=by unfold Addr.add;split <;> simp_all
   rw [e,hr j hj]
   simp [hj] at hv
   rw [← hv]
def pst (p:Nat × (Nat→Int)):Value:=.string (stOf p.1 p.2)
structure Rs where
 fo:Option Addr
 fl:Nat
 fc:Nat
 q:Nat→Int
 n:Nat
 wo:Option Addr
 wc:Nat
 ws:List (Nat × (Nat→Int))
 d:Nat
def Rs.ab (s:Rs):Ab:=⟨s.n,s.q,s.ws,s.d⟩
def RsF (w:World) (s:Rs):Prop :=
 (s.n=0∧s.fo=none)∨(s.n≠0∧s.n≤256∧Good s.q s.n∧∃ b g,s.fo=some ⟨b,0,none⟩∧s.fl=8*s.n∧Oct g∧s.q=decs g∧Row w .u8 b 0 (8*s.n) g)
def RsW (w:World) (s:Rs):Prop :=
 (s.wo=none∧s.ws=[]∧s.wc=0)∨∃ b off cur,s.wo=some ⟨b,off,none⟩∧w.heap[b]?=some (.cells cur 9 (0,0))∧off+s.wc≤cur.size∧s.ws.length≤s.wc∧∀ j u,(s.ws.map pst)[j]?=some u→cur[off+j]?=some u
theorem RsF.same {w w':World} {s:Rs} (h:RsF w s) (hb:∀ k,own? s.fo=some k→w'.heap[k]?=w.heap[k]?):RsF w' s:=by
 rcases h with h | ⟨h0,h1,h2,b,g,h3,h4,h5,h6,h7⟩
 ·exact Or.inl h
 ·exact Or.inr ⟨h0,h1,h2,b,g,h3,h4,h5,h6,h7.same (hb b (by rw [h3];rfl))⟩
theorem RsW.same {w w':World} {s:Rs} (h:RsW w s) (hb:∀ k,own? s.wo=some k→w'.heap[k]?=w.heap[k]?):RsW w' s:=by
 rcases h with h | ⟨b,off,cur,h1,h2,h3⟩
 ·exact Or.inl h
 ·exact Or.inr ⟨b,off,cur,h1,(hb b (by rw [h1];rfl)).trans h2,h3⟩
theorem RsF.lt {w:World} {s:Rs} (h:RsF w s) {k:Nat} (hk:own? s.fo=some k):k<w.heap.size:=by
 rcases h with ⟨_,h⟩ | ⟨h0,_,_,b,g,h3,_,_,_,h7⟩
 ·rw [h] at hk;cases hk
 ·rw [h3] at hk;cases hk
  exact row_ltb h7 (by omega)
theorem RsW.lt {w:World} {s:Rs} (h:RsW w s) {k:Nat} (hk:own? s.wo=some k):k<w.heap.size:=by
 rcases h with ⟨h,_⟩ | ⟨b,off,cur,h1,h2,_⟩
 ·rw [h] at hk;cases hk
 ·rw [h1] at hk;cases hk
  exact (Array.getElem?_eq_some_iff.1 h2).1
structure Rn where
 f:Nat
 v:Nat
 d:Nat
def rnc (N:Rn):Nat→Value:=fun j=>if j=0 then .slice (some ⟨N.f,0,none⟩) 8 8 else if j=1 then .slice (some ⟨N.v,0,none⟩) 8 8 else .slice (some ⟨N.d,0,none⟩) 8 8
structure RNet (w:World) (b:Nat) (N:Rn) (R:Nat→Rs):Prop where
 m:Blk w b 103 3 3 (rnc N)
 f:Blk w N.f 25 8 8 (fun i=>.slice (R i).fo (R i).fl (R i).fc)
 v:Blk w N.v 158 8 8 (fun i=>.slice (R i).wo (R i).ws.length (R i).wc)
 d:Blk w N.d 3 8 8 (fun i=>.int .i64 (R i).d)
 bf:b≠N.f
 bv:b≠N.v
 bd:b≠N.d
 fv:N.f≠N.v
 fd:N.f≠N.d
 vd:N.v≠N.d
 sf:∀ i,i<8→RsF w (R i)
 sw:∀ i,i<8→RsW w (R i)
 four:∀ i,i<8→(R i).ws.length≤4
 x:∀ i,i<8→∀ k,own? (R i).wo=some k→k≠b∧k≠N.f∧k≠N.v∧k≠N.d∧(∀ j,j<8→own? (R j).fo≠some k)∧(∀ j,j<8→j≠i→own? (R j).wo≠some k)
 y:∀ i,i<8→∀ k,own? (R i).fo=some k→k≠b∧k≠N.f∧k≠N.v∧k≠N.d
def rUses (b:Nat) (N:Rn) (R:Nat→Rs) (k:Nat):Prop:=k=b∨k=N.f∨k=N.v∨k=N.d∨∃ i,i<8∧(own? (R i).fo=some k∨own? (R i).wo=some k)
theorem RNet.same {w w':World} {b:Nat} {N:Rn} {R:Nat→Rs} (h:RNet w b N R) (hb:∀ k,rUses b N R k→w'.heap[k]?=w.heap[k]?):RNet w' b N R :=
 ⟨h.m.same (hb _ (Or.inl rfl)),h.f.same (hb _ (Or.inr (Or.inl rfl))),h.v.same (hb _ (Or.inr (Or.inr (Or.inl rfl)))),h.d.same (hb _ (Or.inr (Or.inr (Or.inr (Or.inl rfl))))),h.bf,h.bv,h.bd,h.fv,h.fd,h.vd,
  fun i hi=>(h.sf i hi).same fun k hk=>hb k (Or.inr (Or.inr (Or.inr (Or.inr ⟨i,hi,Or.inl hk⟩)))),fun i hi=>(h.sw i hi).same fun k hk=>hb k (Or.inr (Or.inr (Or.inr (Or.inr ⟨i,hi,Or.inr hk⟩)))),h.four,h.x,h.y⟩
theorem RNet.lt {w:World} {b:Nat} {N:Rn} {R:Nat→Rs} (h:RNet w b N R) {k:Nat} (hk:rUses b N R k):k<w.heap.size:=by
 rcases hk with rfl | rfl | rfl | rfl | ⟨i,hi,hk | hk⟩
 ·exact h.m.lt
 ·exact h.f.lt
 ·exact h.v.lt
 ·exact h.d.lt
 ·exact (h.sf i hi).lt hk
 ·exact (h.sw i hi).lt hk
theorem RNet.keep {w w':World} {b:Nat} {N:Rn} {R:Nat→Rs} (h:RNet w b N R) (hg:w.grownBy w' none):RNet w' b N R:=h.same fun k hk=>hg.block k (h.lt hk) (by simp)
def updR (R:Nat→Rs) (i:Nat) (s:Rs):Nat→Rs:=fun j=>if j=i then s else R j
theorem updR_at (R:Nat→Rs) (i:Nat) (s:Rs):updR R i s i=s:=if_pos rfl
theorem updR_ne (R:Nat→Rs) (i:Nat) (s:Rs) {j:Nat} (h:j≠i):updR R i s j=R j:=if_neg h
theorem RNet.turn {w w':World} {b i:Nat} {N:Rn} {R:Nat→Rs} {s:Rs} (h:RNet w b N R) (hi:i<8)
  (hf:Blk w' N.f 25 8 8 (fun j=>.slice (updR R i s j).fo (updR R i s j).fl (updR R i s j).fc))
  (hv:Blk w' N.v 158 8 8 (fun j=>.slice (updR R i s j).wo (updR R i s j).ws.length (updR R i s j).wc))
  (hd:Blk w' N.d 3 8 8 (fun j=>.int .i64 (updR R i s j).d))
  (sf:RsF w' s) (sw:RsW w' s) (s4:s.ws.length≤4)
  (hsame:∀ k,k<w.heap.size→k≠N.f→k≠N.v→k≠N.d→own? (R i).wo≠some k→w'.heap[k]?=w.heap[k]?)
  (uf:∀ k,own? s.fo=some k→own? (R i).fo=some k∨w.heap.size≤k) (uw:∀ k,own? s.wo=some k→own? (R i).wo=some k∨w.heap.size≤k)
  (ufw:∀ k,own? s.fo=some k→own? s.wo≠some k):RNet w' b N (updR R i s):=by
 have lm:=h.m.lt
 have lf:=h.f.lt
 have lv:=h.v.lt
 have ld:=h.d.lt
 have mw:∀ {j},j<8→own? (R j).wo≠some b:=fun hj e=>(h.x _ hj b e).1 rfl
 refine ⟨h.m.same (hsame b lm h.bf h.bv h.bd (mw hi)),hf,hv,hd,h.bf,h.bv,h.bd,h.fv,h.fd,h.vd,fun j hj=>?_,fun j hj=>?_,fun j hj=>?_,fun j hj k hk=>?_,fun j hj k hk=>?_⟩
 ·by_cases e:j=i
  ·subst e;rw [updR_at];exact sf
  ·rw [updR_ne _ _ _ e]
   exact (h.sf j hj).same fun k hk=>hsame k ((h.sf j hj).lt hk) (h.y j hj k hk).2.1 (h.y j hj k hk).2.2.1 (h.y j hj k hk).2.2.2 (fun e'=>(h.x i hi k e').2.2.2.2.1 j hj hk)
 ·by_cases e:j=i
  ·subst e;rw [updR_at];exact sw
  ·rw [updR_ne _ _ _ e]
   exact (h.sw j hj).same fun k hk=>hsame k ((h.sw j hj).lt hk) (h.x j hj k hk).2.1 (h.x j hj k hk).2.2.1 (h.x j hj k hk).2.2.2.1 (fun e'=>(h.x i hi k e').2.2.2.2.2 j hj e hk)
 ·by_cases e:j=i
  ·subst e;rw [updR_at];exact s4
  ·rw [updR_ne _ _ _ e];exact h.four j hj
 ·by_cases e:j=i
  ·subst e
   rw [updR_at] at hk
   rcases uw k hk with h1 | h1
   ·obtain ⟨x1,x2,x3,x4,x5,x6⟩:=h.x j hj k h1
    refine ⟨x1,x2,x3,x4,fun j' hj'=>?_,fun j' hj' hne=>by rw [updR_ne _ _ _ hne];exact x6 j' hj' hne⟩
    by_cases e':j'=j
    ·subst e';rw [updR_at];exact fun e''=>ufw k e'' hk
    ·rw [updR_ne _ _ _ e'];exact x5 j' hj'
   ·refine ⟨by omega,by omega,by omega,by omega,fun j' hj'=>?_,fun j' hj' hne e'=>?_⟩
    ·by_cases e':j'=j
     ·subst e';rw [updR_at];exact fun e''=>ufw k e'' hk
     ·rw [updR_ne _ _ _ e'];exact fun e''=>by have:=(h.sf j' hj').lt e'';omega
    ·rw [updR_ne _ _ _ hne] at e'
     have:=(h.sw j' hj').lt e'
     omega
  ·rw [updR_ne _ _ _ e] at hk
   obtain ⟨x1,x2,x3,x4,x5,x6⟩:=h.x j hj k hk
   have hkl:=(h.sw j hj).lt hk
   refine ⟨x1,x2,x3,x4,fun j' hj' e'=>?_,fun j' hj' hne e'=>?_⟩
   ·by_cases e2:j'=i
    ·subst e2
     rw [updR_at] at e'
     rcases uf k e' with h1 | h1
     ·exact x5 j' hj' h1
     ·omega
    ·rw [updR_ne _ _ _ e2] at e'
     exact x5 j' hj' e'
   ·by_cases e2:j'=i
    ·subst e2
     rw [updR_at] at e'
     rcases uw k e' with h1 | h1
     ·exact x6 j' hj' hne h1
     ·omega
    ·rw [updR_ne _ _ _ e2] at e'
     exact x6 j' hj' hne e'
 ·by_cases e:j=i
  ·subst e
   rw [updR_at] at hk
   rcases uf k hk with h1 | h1
   ·exact h.y j hj k h1
   ·exact ⟨by omega,by omega,by omega,by omega⟩
  ·rw [updR_ne _ _ _ e] at hk
   exact h.y j hj k hk
structure RApart (w w':World) (b:Nat) (N:Rn) (R R':Nat→Rs):Prop where
 os:w'.os=w.os
 tape:w'.tape=w.tape
 output:w'.output=w.output
 size:w.heap.size≤w'.heap.size
 same:∀ k,k<w.heap.size→¬ rUses b N R k→w'.heap[k]?=w.heap[k]?
 uses:∀ k,rUses b N R' k→rUses b N R k∨w.heap.size≤k
theorem RApart.trans {w w1 w':World} {b:Nat} {N:Rn} {R R1 R':Nat→Rs} (h:RApart w w1 b N R R1) (h':RApart w1 w' b N R1 R'):RApart w w' b N R R' :=
 ⟨h'.os.trans h.os,h'.tape.trans h.tape,h'.output.trans h.output,Nat.le_trans h.size h'.size,fun k hk hu=>(h'.same k (Nat.lt_of_lt_of_le hk h.size) (fun hu1=>by
  rcases h.uses k hu1 with h1 | h1
  ·exact hu h1
  ·omega)).trans (h.same k hk hu),fun k hk=>by
  rcases h'.uses k hk with h1 | h1
  ·exact h.uses k h1
  ·exact Or.inr (Nat.le_trans h.size h1)⟩
theorem rapart_grown {w w':World} (b:Nat) (N:Rn) (R:Nat→Rs) (g:w.grownBy w' none):RApart w w' b N R R:=⟨g.os,g.tape,g.output,g.size,fun k hk _=>g.block k hk (by simp),fun _ h=>Or.inl h⟩
def RSt (w:World) (b:Nat) (U:Nat→Prop) (T:Nat→Ab):Prop :=
 (∀ k,U k→k<w.heap.size)∧∃ N R,RNet w b N R∧(∀ k,rUses b N R k→U k)∧∀ i,i<8→(R i).ab=T i
theorem RSt.frame {w w':World} {b:Nat} {U V:Nat→Prop} {T:Nat→Ab} (h:RSt w b U T) (hf:Fr V w w') (hd:∀ k,U k→¬ V k):RSt w' b U T:=by
 obtain ⟨hl,N,R,hP,hU,hT⟩:=h
 exact ⟨fun k hk=>Nat.lt_of_lt_of_le (hl k hk) hf.size,N,R,hP.same fun k hk=>hf.same k (hl k (hU k hk)) (hd k (hU k hk)),hU,hT⟩
theorem RSt.keep {w w':World} {b:Nat} {U:Nat→Prop} {T:Nat→Ab} (h:RSt w b U T) (hg:w.grownBy w' none):RSt w' b U T:=h.frame (V:=fun _=>False) (fr_grown hg) (fun _ _ h=>h)
theorem RSt.more {w:World} {b:Nat} {U U':Nat→Prop} {T:Nat→Ab} (h:RSt w b U T) (hU:∀ k,U k→U' k) (hl:∀ k,U' k→k<w.heap.size):RSt w b U' T:=by
 obtain ⟨_,N,R,hP,hU',hT⟩:=h
 exact ⟨hl,N,R,hP,fun k hk=>hU k (hU' k hk),hT⟩
theorem rst_step {w w':World} {b:Nat} {N:Rn} {U:Nat→Prop} {R R':Nat→Rs} {T':Nat→Ab} (hP:RNet w' b N R') (hA:RApart w w' b N R R') (hU:∀ k,rUses b N R k→U k) (hl:∀ k,U k→k<w.heap.size) (hT:∀ i,i<8→(R' i).ab=T' i):RSt w' b (Gr U w w') T'∧Fr U w w' :=
 ⟨⟨fun k hk=>hk.elim (fun h=>Nat.lt_of_lt_of_le (hl k h) hA.size) (fun h=>h.2),N,R',hP,fun k hk=>(hA.uses k hk).elim (fun h=>Or.inl (hU k h)) (fun h=>Or.inr ⟨h,hP.lt hk⟩),hT⟩,
  hA.os,hA.tape,hA.output,hA.size,fun k hk hu=>hA.same k hk fun h=>hu (hU k h)⟩
theorem rst_quiet {w w':World} {b:Nat} {U:Nat→Prop} {T:Nat→Ab} (h:RSt w b U T) (hg:w.grownBy w' none):RSt w' b (Gr U w w') T∧Fr U w w' :=
 ⟨(h.keep hg).more (fun k hk=>Or.inl hk) (fun k hk=>hk.elim (fun h'=>Nat.lt_of_lt_of_le (h.1 k h') hg.size) (fun h'=>h'.2)),fr_grown hg⟩
theorem updR_ab {R:Nat→Rs} {T:Nat→Ab} {i:Nat} {s:Rs} {t:Ab} (hT:∀ j,j<8→(R j).ab=T j) (hs:s.ab=t):∀ j,j<8→(updR R i s j).ab=updT T i t j:=fun j hj=>by
 by_cases e:j=i
 ·subst e;rw [updR_at,updT_at,hs]
 ·rw [updR_ne _ _ _ e,updT_ne _ _ _ e,hT j hj]
end Go.Proofs.YthbcfepbkkbjiaaGreatDoor
namespace Go.Proofs.YthbcfepbkkbjiaaGreatDoor
open Go.RowKit
theorem Tryz.infoStr:(Tryz.prog.info? 9).map (fun i=>(i.zero,i.size,i.bytes))=some (some (.string ByteArray.empty),1,16):=by kernel_rfl
theorem RNet.cells {w:World} {b:Nat} {N:Rn} {R:Nat→Rs} (h:RNet w b N R) {i:Nat} (hi:i<8) :
  w.cell? ⟨b,0,none⟩=some (.slice (some ⟨N.f,0,none⟩) 8 8)∧w.cell? ⟨b,1,none⟩=some (.slice (some ⟨N.v,0,none⟩) 8 8)∧w.cell? ⟨b,2,none⟩=some (.slice (some ⟨N.d,0,none⟩) 8 8) ∧
  w.cell? ⟨N.f,i,none⟩=some (.slice (R i).fo (R i).fl (R i).fc)∧w.cell? ⟨N.v,i,none⟩=some (.slice (R i).wo (R i).ws.length (R i).wc)∧w.cell? ⟨N.d,i,none⟩=some (.int .i64 (R i).d) :=
 ⟨h.m.cell (j:=0) (by omega),h.m.cell (j:=1) (by omega),h.m.cell (j:=2) (by omega),h.f.cell hi,h.v.cell hi,h.d.cell hi⟩
def Rs.fil (s:Rs) (fo:Option Addr) (fl fc:Nat) (q:Nat→Int) (n:Nat):Rs:=⟨fo,fl,fc,q,n,s.wo,s.wc,s.ws,s.d⟩
def Rs.wait (s:Rs) (wo:Option Addr) (wc:Nat) (ws:List (Nat × (Nat→Int))):Rs:=⟨s.fo,s.fl,s.fc,s.q,s.n,wo,wc,ws,s.d⟩
def Rs.drop (s:Rs) (d:Nat):Rs:=⟨s.fo,s.fl,s.fc,s.q,s.n,s.wo,s.wc,s.ws,d⟩
theorem ruses_upd {b i:Nat} {N:Rn} {R:Nat→Rs} {s:Rs} {M:Nat} (hi:i<8) (uf:∀ k,own? s.fo=some k→own? (R i).fo=some k∨M≤k) (uw:∀ k,own? s.wo=some k→own? (R i).wo=some k∨M≤k):∀ k,rUses b N (updR R i s) k→rUses b N R k∨M≤k:=fun k hk=>by
 rcases hk with h | h | h | h | ⟨j,hj,h⟩
 ·exact Or.inl (Or.inl h)
 ·exact Or.inl (Or.inr (Or.inl h))
 ·exact Or.inl (Or.inr (Or.inr (Or.inl h)))
 ·exact Or.inl (Or.inr (Or.inr (Or.inr (Or.inl h))))
 ·by_cases e:j=i
  ·subst e
   rw [updR_at] at h
   rcases h with h | h
   ·exact (uf k h).imp (fun h=>Or.inr (Or.inr (Or.inr (Or.inr ⟨j,hj,Or.inl h⟩)))) id
   ·exact (uw k h).imp (fun h=>Or.inr (Or.inr (Or.inr (Or.inr ⟨j,hj,Or.inr h⟩)))) id
  ·rw [updR_ne _ _ _ e] at h
   exact Or.inl (Or.inr (Or.inr (Or.inr (Or.inr ⟨j,hj,h⟩))))
theorem upd_cell {R:Nat→Rs} {i:Nat} {s:Rs} (c:Rs→Value) {v:Value} (hv:c s=v) (j:Nat):(if j=i then v else c (R j))=c (updR R i s j):=by
 by_cases e:j=i
 ·subst e;rw [if_pos rfl,updR_at,hv]
 ·rw [if_neg e,updR_ne _ _ _ e]
theorem upd_none {R:Nat→Rs} {i:Nat} {s:Rs} (c:Rs→Value) (hv:c s=c (R i)) (j:Nat):c (R j)=c (updR R i s j):=by
 by_cases e:j=i
 ·subst e;rw [updR_at,hv]
 ·rw [updR_ne _ _ _ e]
theorem rfil_turn {w w2:World} {b i:Nat} {N:Rn} {R:Nat→Rs} {fo:Option Addr} {fl fc n:Nat} {q:Nat→Int} (H:RNet w b N R) (hi:i<8) (g2:w.grownBy w2 none) (hf:RsF w2 ((R i).fil fo fl fc q n)) (hn:∀ k,own? fo=some k→w.heap.size≤k) :
  RNet (w2.setCell ⟨N.f,i,none⟩ (.slice fo fl fc)) b N (updR R i ((R i).fil fo fl fc q n))∧RApart w (w2.setCell ⟨N.f,i,none⟩ (.slice fo fl fc)) b N R (updR R i ((R i).fil fo fl fc q n)):=by
 have hz:=g2.size
 have lf:=H.f.lt
 have step:∀ k,k≠N.f→(w2.setCell ⟨N.f,i,none⟩ (.slice fo fl fc)).heap[k]?=w2.heap[k]?:=fun k hk=>Below.heap_setCell _ _ _ _ hk
 have hsame:∀ k,k<w.heap.size→k≠N.f→(w2.setCell ⟨N.f,i,none⟩ (.slice fo fl fc)).heap[k]?=w.heap[k]?:=fun k hk hkf=>(step k hkf).trans (g2.block k hk (by simp))
 have uf:∀ k,own? ((R i).fil fo fl fc q n).fo=some k→own? (R i).fo=some k∨w.heap.size≤k:=fun k hk=>Or.inr (hn k hk)
 have uw:∀ k,own? ((R i).fil fo fl fc q n).wo=some k→own? (R i).wo=some k∨w.heap.size≤k:=fun k hk=>Or.inl hk
 refine ⟨H.turn hi ?_ ?_ ?_ (hf.same fun k hk=>step k (fun e=>by have:=hn k hk;omega)) ((H.sw i hi).same fun k hk=>hsame k ((H.sw i hi).lt hk) (H.x i hi k hk).2.1) (H.four i hi) (fun k hk h1 _ _ _=>hsame k hk h1) uf uw (fun k hk e=>?_),g2.os,g2.tape,g2.output,by simp [World.setCell];omega,fun k hk hu=>hsame k hk (fun e=>hu (Or.inr (Or.inl e))),ruses_upd hi uf uw⟩
 ·exact ((H.f.keep g2 (by simp)).set' hi _).congr fun j _=>upd_cell (R:=R) (i:=i) (s:=(R i).fil fo fl fc q n) (fun s=>.slice s.fo s.fl s.fc) rfl j
 ·exact ((H.v.keep g2 (by simp)).setOther (a:=⟨N.f,i,none⟩) H.fv _).congr fun j _=>upd_none (R:=R) (i:=i) (s:=(R i).fil fo fl fc q n) (fun s=>.slice s.wo s.ws.length s.wc) rfl j
 ·exact ((H.d.keep g2 (by simp)).setOther (a:=⟨N.f,i,none⟩) H.fd _).congr fun j _=>upd_none (R:=R) (i:=i) (s:=(R i).fil fo fl fc q n) (fun s=>.int .i64 s.d) rfl j
 ·have h1:=hn k hk
  have h2:=(H.sw i hi).lt e
  omega
theorem rwait_turn {w w3:World} {b i:Nat} {N:Rn} {R:Nat→Rs} {wo:Option Addr} {wc:Nat} {ws:List (Nat × (Nat→Int))} (H:RNet w b N R) (hi:i<8) (g3:w.grownBy w3 (own? (R i).wo)) (hw:RsW w3 ((R i).wait wo wc ws)) (h4:ws.length≤4) (hn:∀ k,own? wo=some k→own? (R i).wo=some k∨w.heap.size≤k) :
  RNet (w3.setCell ⟨N.v,i,none⟩ (.slice wo ws.length wc)) b N (updR R i ((R i).wait wo wc ws))∧RApart w (w3.setCell ⟨N.v,i,none⟩ (.slice wo ws.length wc)) b N R (updR R i ((R i).wait wo wc ws)):=by
 have hz:=g3.size
 have lv:=H.v.lt
 have wv:∀ k,own? (R i).wo=some k→k≠N.v:=fun k hk=>(H.x i hi k hk).2.2.1
 have step:∀ k,k≠N.v→(w3.setCell ⟨N.v,i,none⟩ (.slice wo ws.length wc)).heap[k]?=w3.heap[k]?:=fun k hk=>Below.heap_setCell _ _ _ _ hk
 have hsame:∀ k,k<w.heap.size→k≠N.v→own? (R i).wo≠some k→(w3.setCell ⟨N.v,i,none⟩ (.slice wo ws.length wc)).heap[k]?=w.heap[k]?:=fun k hk hkf hkw=>(step k hkf).trans (g3.block k hk (fun e=>hkw e.symm))
 have uf:∀ k,own? ((R i).wait wo wc ws).fo=some k→own? (R i).fo=some k∨w.heap.size≤k:=fun k hk=>Or.inl hk
 have nf:some N.f≠own? (R i).wo:=fun e=>(H.x i hi _ e.symm).2.1 rfl
 have nv:some N.v≠own? (R i).wo:=fun e=>(H.x i hi _ e.symm).2.2.1 rfl
 have nd:some N.d≠own? (R i).wo:=fun e=>(H.x i hi _ e.symm).2.2.2.1 rfl
 refine ⟨H.turn hi ?_ ?_ ?_ ((H.sf i hi).same fun k hk=>hsame k ((H.sf i hi).lt hk) (H.y i hi k hk).2.2.1 (fun e=>(H.x i hi k e).2.2.2.2.1 i hi hk)) (hw.same fun k hk=>step k ?_) h4 (fun k hk _ h2 _ h5=>hsame k hk h2 h5) uf hn (fun k hk e=>?_),g3.os,g3.tape,g3.output,by simp [World.setCell];omega,fun k hk hu=>hsame k hk (fun e=>hu (Or.inr (Or.inr (Or.inl e)))) (fun e=>hu (Or.inr (Or.inr (Or.inr (Or.inr ⟨i,hi,Or.inr e⟩))))),ruses_upd hi uf hn⟩
 ·exact ((H.f.keep g3 nf).setOther (a:=⟨N.v,i,none⟩) (fun e=>H.fv e.symm) _).congr fun j _=>upd_none (R:=R) (i:=i) (s:=(R i).wait wo wc ws) (fun s=>.slice s.fo s.fl s.fc) rfl j
 ·exact ((H.v.keep g3 nv).set' hi _).congr fun j _=>upd_cell (R:=R) (i:=i) (s:=(R i).wait wo wc ws) (fun s=>.slice s.wo s.ws.length s.wc) rfl j
 ·exact ((H.d.keep g3 nd).setOther (a:=⟨N.v,i,none⟩) H.vd _).congr fun j _=>upd_none (R:=R) (i:=i) (s:=(R i).wait wo wc ws) (fun s=>.int .i64 s.d) rfl j
 ·rcases hn k hk with h | h
  ·exact wv k h
  ·omega
 ·rcases hn k e with h | h
  ·exact (H.x i hi k h).2.2.2.2.1 i hi hk
  ·have:=(H.sf i hi).lt hk
   omega
theorem rdrop_turn {w:World} {b i:Nat} {N:Rn} {R:Nat→Rs} (H:RNet w b N R) (hi:i<8) (d:Nat) :
  RNet (w.setCell ⟨N.d,i,none⟩ (.int .i64 (d:Int))) b N (updR R i ((R i).drop d))∧RApart w (w.setCell ⟨N.d,i,none⟩ (.int .i64 (d:Int))) b N R (updR R i ((R i).drop d)):=by
 have ld:=H.d.lt
 have hsame:∀ k,k≠N.d→(w.setCell ⟨N.d,i,none⟩ (.int .i64 (d:Int))).heap[k]?=w.heap[k]?:=fun k hk=>Below.heap_setCell _ _ _ _ hk
 have uf:∀ k,own? ((R i).drop d).fo=some k→own? (R i).fo=some k∨w.heap.size≤k:=fun k hk=>Or.inl hk
 have uw:∀ k,own? ((R i).drop d).wo=some k→own? (R i).wo=some k∨w.heap.size≤k:=fun k hk=>Or.inl hk
 refine ⟨H.turn hi ?_ ?_ ?_ ((H.sf i hi).same fun k hk=>hsame k (H.y i hi k hk).2.2.2) ((H.sw i hi).same fun k hk=>hsame k (H.x i hi k hk).2.2.2.1) (H.four i hi) (fun k hk _ _ h3 _=>hsame k h3) uf uw (fun k hk e=>(H.x i hi k e).2.2.2.2.1 i hi hk),rfl,rfl,rfl,by simp [World.setCell],fun k hk hu=>hsame k (fun e=>hu (Or.inr (Or.inr (Or.inr (Or.inl e))))),ruses_upd hi uf uw⟩
 ·exact (H.f.setOther (a:=⟨N.d,i,none⟩) (fun e=>H.fd e.symm) _).congr fun j _=>upd_none (R:=R) (i:=i) (s:=(R i).drop d) (fun s=>.slice s.fo s.fl s.fc) rfl j
 ·exact (H.v.setOther (a:=⟨N.d,i,none⟩) (fun e=>H.vd e.symm) _).congr fun j _=>upd_none (R:=R) (i:=i) (s:=(R i).drop d) (fun s=>.slice s.wo s.ws.length s.wc) rfl j
 ·exact (H.d.set' hi _).congr fun j _=>upd_cell (R:=R) (i:=i) (s:=(R i).drop d) (fun s=>.int .i64 s.d) rfl j
theorem rsocket_no (s:Int) (w:World) (h:s<0∨8≤s):Calls Tryz.prog 89 #[.int .i64 s] w fun e w'=>e=.returned (.bool false)∧w'=w:=by
 rcases h with h | h
 ·have h1:¬ (0≤s):=by omega
  go_enter Tryz.func89,Tryz.ntmps89
  go_wp2
  go_ret
  exact ⟨rfl,rfl⟩
 ·have h1:0≤s:=by omega
  have h2:¬ (s<8):=by omega
  go_enter Tryz.func89,Tryz.ntmps89
  go_wp2
  go_ret
  exact ⟨rfl,rfl⟩
theorem rsocket_ok (i:Nat) (w:World) (h:i<8):Calls Tryz.prog 89 #[.int .i64 (i:Int)] w fun e w'=>e=.returned (.bool true)∧w'=w:=by
 have h1:(0:Int)≤(i:Int):=by omega
 have h2:(i:Int)<8:=by omega
 go_enter Tryz.func89,Tryz.ntmps89
 go_wp2
 go_ret
 exact ⟨rfl,rfl⟩
set_option maxHeartbeats 1000000 in
theorem rattach_out (b:Nat) (s:Int) (fv:Value) (w:World) (h:s<0∨8≤s):Calls Tryz.prog 53 #[.pointer (some ⟨b,0,none⟩),.int .i64 s,fv] w fun e w'=>e=.returned (.int .i64 10)∧w'=w:=by
 go_enter Tryz.func53,Tryz.ntmps53
 go_wp2_with (go_at_call 89;refine (rsocket_no s w h).mono ?_;rintro e w1 ⟨rfl,rfl⟩)
 go_ret
 exact ⟨rfl,rfl⟩
set_option maxHeartbeats 1000000 in
theorem rattach_no (b i:Nat) (ao:Option Addr) (n c:Nat) (g:Nat→Int) (w:World) (hi:i<8) (hn:n≤maxLen) (hg:Oct g) (hs:Src w .u8 ao n g) (hno:¬ Chk g n 0 0) :
  Calls Tryz.prog 53 #[.pointer (some ⟨b,0,none⟩),.int .i64 (i:Int),.slice ao n c] w fun e w'=>(∃ E k,e=.returned (.int .i64 E)∧E≠0∧Chk g n E k)∧w.grownBy w' none:=by
 have HC:Hid (Calls Tryz.prog 17 #[.slice ao n c] w fun e w'=>∃ (E:Int) (k:Nat),e=.returned (.tuple #[.int .i64 E,.int .i64 k])∧(E≠0∧Chk g n E k)∧w.grownBy w' none):=by
  refine (rcheck_any ao n c g w hn hg hs).mono ?_
  rintro e w' ⟨E,k,rfl,hC,hg'⟩
  exact ⟨E,k,rfl,⟨chk_ne hC hno,hC⟩,hg'⟩
 clear hs hno
 go_enter Tryz.func53,Tryz.ntmps53
 go_wp2_with (first | (go_at_call 89;refine (rsocket_ok i w hi).mono ?_;rintro e w1 ⟨rfl,rfl⟩) | (go_at_call 17;refine HC.out.mono ?_;rintro e w2 ⟨E,k,rfl,⟨hE,hK⟩,hg2⟩;have hE':(E != 0)=true:=(by simpa using hE)))
 go_ret
 exact ⟨⟨E,k,rfl,hE,hK⟩,hg2⟩
set_option maxHeartbeats 1000000 in
theorem rattach_ok (b i fb off j c:Nat) (g:Nat→Int) (N:Rn) (R:Nat→Rs) (w:World) (H:RNet w b N R) (hi:i<8) (h1:1≤j) (hj:j≤256) (hg:Oct g) (hR:Row w .u8 fb off (8*j) g) (hok:Chk g (8*j) 0 0) :
  Calls Tryz.prog 53 #[.pointer (some ⟨b,0,none⟩),.int .i64 (i:Int),.slice (some ⟨fb,off,none⟩) (8*j:Nat) c] w fun e w'=>e=.returned (.int .i64 0)∧∃ fo fl fc,RNet w' b N (updR R i ((R i).fil fo fl fc (decs g) j))∧RApart w w' b N R (updR R i ((R i).fil fo fl fc (decs g) j)):=by
 obtain ⟨i0,hi0,hz0,hz1,hz2⟩:=info_parts Tryz.infoByte
 have hG:Good (decs g) j:=by
  have:=(chk_good hg hok).2
  rwa [show 8*j/8=j by omega] at this
 have HC:Hid (Calls Tryz.prog 17 #[.slice (some ⟨fb,off,none⟩) (8*j:Nat) c] w fun e w'=>e=.returned (.tuple #[.int .i64 0,.int .i64 0])∧w.grownBy w' none):=by
  refine (rcheck_any _ (8*j) c g w (by unfold maxLen;omega) hg (fun _=>⟨fb,off,rfl,hR⟩)).mono ?_
  rintro e w' ⟨E,k,rfl,hC,hg'⟩
  obtain ⟨rfl,rfl⟩:=hC.one hok
  exact ⟨rfl,hg'⟩
 have HH:Hid (RNet w b N R):=H
 have HN:Hid (∀ w',w.grownBy w' none→∀ x u,(ilist g (8*j))[x]?=some u→w'.cell? ((⟨fb,off,none⟩:Addr).add x)=some u):=fun w' hg'=>ilist_news fun _=>⟨fb,off,rfl,hR.keep hg' (by simp)⟩
 have t8:(i:Int)<8:=by omega
 clear H hR hok
 go_enter Tryz.func53,Tryz.ntmps53
 go_wp2_with (first | (go_at_call 89;refine (rsocket_ok i w hi).mono ?_;rintro e w1 ⟨rfl,rfl⟩) | (go_at_call 17;refine HC.out.mono ?_;rintro e w2 ⟨rfl,hg2⟩;obtain ⟨c0,c1,c2,c3,c4,c5⟩:=(HH.out.keep hg2).cells hi;have z3:=(HH.out.keep hg2).f.frozen i))
 go_region_law (refine step_app _ rfl _ _ 25 rfl w2.heap.size 5 i0 (.int .u8 0) 1 1 Tryz.underlying25 hi0 hz0 hz1 hz2 rfl (by decide) (.slice none 0 0) 0 [] rfl ⟨rfl,Or.inl ⟨rfl,rfl⟩⟩ ⟨fb,off,none⟩ (8*j) c (ilist g (8*j)) rfl (by simp [ilist]) (HN.out _ (grown_trans hg2 (grown_drew (grown_refl _ _)))) (ilist_one _ _) (by unfold maxLen;omega) (by omega) (Nat.le_refl _) ?_;intro v6 w6 ho6 hg6 _;rw [Nat.zero_add,List.nil_append] at ho6;obtain ⟨fo,fc,rfl,hh6,hf6⟩:=ilist_held ho6;have G6:w1.grownBy w6 none:=grown_trans (grown_trans hg2 (grown_drew (grown_refl _ _))) hg6;obtain ⟨d0,d1,d2,d3,d4,d5⟩:=(HH.out.keep G6).cells hi;have y3:=(HH.out.keep G6).f.frozen i)
 all_goals go_wp2
 all_goals go_ret
 all_goals
  refine ⟨rfl,fo,8*j,fc,rfil_turn HH.out hi G6 (Or.inr ⟨by show j≠0;omega,hj,hG,?_⟩) (fun k hk=>Nat.le_trans hg2.size (hf6 k hk))⟩
  rcases hh6 with ⟨_,h0,_⟩ | ⟨B,rfl,hB,_⟩
  ·omega
  ·exact ⟨B,g,rfl,rfl,hg,rfl,fun x hx=>by rw [Nat.zero_add];exact hB.cell (by rw [Nat.mul_one];exact hx)⟩
theorem rdetach_out (b:Nat) (s:Int) (w:World) (h:s<0∨8≤s):Calls Tryz.prog 56 #[.pointer (some ⟨b,0,none⟩),.int .i64 s] w fun e w'=>e=.returned (.int .i64 10)∧w'=w:=by
 go_enter Tryz.func56,Tryz.ntmps56
 go_wp2_with (go_at_call 89;refine (rsocket_no s w h).mono ?_;rintro e w1 ⟨rfl,rfl⟩)
 go_ret
 exact ⟨rfl,rfl⟩
theorem rdetach_no (b i:Nat) (N:Rn) (R:Nat→Rs) (w:World) (H:RNet w b N R) (hi:i<8) (h0:(R i).n=0):Calls Tryz.prog 56 #[.pointer (some ⟨b,0,none⟩),.int .i64 (i:Int)] w fun e w'=>e=.returned (.int .i64 11)∧w.grownBy w' none:=by
 obtain ⟨c0,c1,c2,c3,c4,c5⟩:=H.cells hi
 have hf:(R i).fo=none:=by
  rcases H.sf i hi with ⟨_,h⟩ | ⟨h,_⟩
  ·exact h
  ·exact absurd h0 h
 rw [hf] at c3
 have e0:=fun w=>eql_nil w none (R i).fl (R i).fc
 have t8:(i:Int)<8:=by omega
 clear H
 go_enter Tryz.func56,Tryz.ntmps56
 go_wp2_with (go_at_call 89;refine (rsocket_ok i w hi).mono ?_;rintro e w1 ⟨rfl,rfl⟩)
 go_ret
 exact ⟨rfl,grown_refl _ _⟩
theorem rdetach_ok (b i:Nat) (N:Rn) (R:Nat→Rs) (w:World) (H:RNet w b N R) (hi:i<8) (h0:(R i).n≠0):Calls Tryz.prog 56 #[.pointer (some ⟨b,0,none⟩),.int .i64 (i:Int)] w fun e w'=>e=.returned (.int .i64 0)∧RNet w' b N (updR R i ((R i).fil none 0 0 (fun _=>0) 0))∧RApart w w' b N R (updR R i ((R i).fil none 0 0 (fun _=>0) 0)):=by
 obtain ⟨c0,c1,c2,c3,c4,c5⟩:=H.cells hi
 have z3:=H.f.frozen i
 obtain ⟨a,hf⟩:∃ a,(R i).fo=some a:=by
  rcases H.sf i hi with ⟨h,_⟩ | ⟨_,_,_,B,_,h,_⟩
  ·exact absurd h h0
  ·exact ⟨_,h⟩
 rw [hf] at c3
 have e0:=fun w=>eql_nil w (some a) (R i).fl (R i).fc
 have t8:(i:Int)<8:=by omega
 have HT:Hid (RNet (w.setCell ⟨N.f,i,none⟩ (.slice none 0 0)) b N (updR R i ((R i).fil none 0 0 (fun _=>0) 0))∧RApart w (w.setCell ⟨N.f,i,none⟩ (.slice none 0 0)) b N R (updR R i ((R i).fil none 0 0 (fun _=>0) 0))):=rfil_turn H hi (grown_refl w none) (Or.inl ⟨rfl,rfl⟩) (fun k hk=>by cases hk)
 clear H
 go_enter Tryz.func56,Tryz.ntmps56
 go_wp2_with (go_at_call 89;refine (rsocket_ok i w hi).mono ?_;rintro e w1 ⟨rfl,rfl⟩)
 go_ret
 exact ⟨rfl,HT.out⟩
theorem rdropped_out (b:Nat) (s:Int) (w:World) (h:s<0∨8≤s):Calls Tryz.prog 62 #[.pointer (some ⟨b,0,none⟩),.int .i64 s] w fun e w'=>e=.returned (.int .i64 0)∧w.grownBy w' none:=by
 go_enter Tryz.func62,Tryz.ntmps62
 go_wp2_with (go_at_call 89;refine (rsocket_no s w h).mono ?_;rintro e w1 ⟨rfl,rfl⟩)
 go_ret
 exact ⟨rfl,grown_refl _ _⟩
theorem rdropped (b i:Nat) (N:Rn) (R:Nat→Rs) (w:World) (H:RNet w b N R) (hi:i<8):Calls Tryz.prog 62 #[.pointer (some ⟨b,0,none⟩),.int .i64 (i:Int)] w fun e w'=>e=.returned (.int .i64 (R i).d)∧w.grownBy w' none:=by
 obtain ⟨c0,c1,c2,c3,c4,c5⟩:=H.cells hi
 have t8:(i:Int)<8:=by omega
 clear H
 go_enter Tryz.func62,Tryz.ntmps62
 go_wp2_with (go_at_call 89;refine (rsocket_ok i w hi).mono ?_;rintro e w1 ⟨rfl,rfl⟩)
 go_ret
 exact ⟨rfl,grown_refl _ _⟩
end Go.Proofs.YthbcfepbkkbjiaaGreatDoor
namespace Go.Proofs.YthbcfepbkkbjiaaGreatDoor
open Go.RowKit
theorem run_append_text {w:World} {s:Rs} {B:Nat} {p:Nat × (Nat→Int)} {te:TypeId} (ty:TypeId) (h:RsW w s) (h4:s.ws.length≤4) (hB:w.heap[B]?=some (.cells #[pst p] te (0,0))) :
  ∃ wo wc w',(Builtin.append_ #[158,158] ty #[.slice s.wo s.ws.length s.wc,.slice (some ⟨B,0,none⟩) 1 1]).run Tryz.prog w=.ok (.slice wo (s.ws.length+1) wc) w'∧RsW w' (s.wait wo wc (s.ws ++ [p]))∧w.grownBy w' (own? s.wo)∧(∀ k,own? wo=some k→own? s.wo=some k∨w.heap.size≤k):=by
 obtain ⟨i0,hi,hz0,hz1,hz2⟩:=info_parts Tryz.infoStr
 have hnews:∀ j u,[pst p][j]?=some u→w.cell? ((⟨B,0,none⟩:Addr).add j)=some u:=World.news_of_block hB
 have fin:∀ (v:Value) (w':World),w'.ownsRow w.heap.size 9 1 v (s.ws.length+1) (s.ws.map pst ++ [pst p])→∃ wo wc,v=.slice wo (s.ws.length+1) wc∧RsW w' (s.wait wo wc (s.ws ++ [p]))∧(∀ k,own? wo=some k→own? s.wo=some k∨w.heap.size≤k):=fun v w' ho=>by
  rcases ho.2 with ⟨_,h0⟩ | ⟨g,cap,cur,rfl,hb,hh,hn,hm,hs,ht⟩
  ·omega
  ·refine ⟨_,cap,rfl,Or.inr ⟨g,0,cur,rfl,hh,by show 0+cap≤_;omega,by show (s.ws ++ [p]).length≤cap;rw [List.length_append];exact hn,fun j u hu=>?_⟩,fun k hk=>by cases hk;exact Or.inr hb⟩
   have hu':(s.ws.map pst ++ [pst p])[j]?=some u:=by
    have:((s.ws ++ [p]).map pst)[j]?=some u:=hu
    rwa [List.map_append] at this
   rw [← ht,List.getElem?_take] at hu'
   split at hu'
   ·rw [Nat.zero_add,← Array.getElem?_toList];exact hu'
   ·cases hu'
 rcases h with ⟨h1,h2,h3⟩ | ⟨b,off,cur,h1,h2,h3,h5,h6⟩
 ·obtain ⟨v,w',hr,ho,hg,_,_⟩:=run_append_own_at (P:=Tryz.prog) w w.heap.size 158 ty 9 i0 _ 1 16 Tryz.underlying158 hi hz0 hz1 hz2 rfl (by decide) (.slice none 0 0) 0 [] (World.ownsRow_nil _ _ _ _) ⟨B,0,none⟩ 1 1 [pst p] rfl hnews (by simp [pst,Value.oneCell']) (by unfold maxLen;omega) (by omega) (Nat.le_refl _)
  rw [h2] at fin
  obtain ⟨wo,wc,rfl,hw,hu⟩:=fin v w' ho
  refine ⟨wo,wc,w',?_,?_,?_,hu⟩
  ·rw [h1,h2,h3];exact hr
  ·rw [h2];exact hw
  ·rw [h1];exact hg
 ·by_cases hroom:s.ws.length+1≤s.wc
  ·have hc:∀ j,j < [pst p].length→(w.cell? ⟨b,off+s.ws.length*i0.size+j,none⟩).isSome=true:=fun j hj=>by
    obtain rfl:j=0:=by simpa using hj
    rw [hz1,cell_of_row w b _ cur _ (0,0) h2]
    simp
    omega
   have hr:=run_append_room_cells (P:=Tryz.prog) w 158 ty 9 i0 Tryz.underlying158 hi b off s.ws.length s.wc ⟨B,0,none⟩ 1 1 [pst p] (by rw [hz1];rfl) hnews (by simp [pst,Value.oneCell']) hroom hc (fun j hj=>by simp [World.frozen?,h2])
   have es:w.setCells b (off+s.ws.length*i0.size) [pst p]=w.setCell ⟨b,off+s.ws.length,none⟩ (pst p):=by rw [hz1,Nat.mul_one,setCells_one]
   rw [es] at hr
   refine ⟨some ⟨b,off,none⟩,s.wc,_,by rw [h1];exact hr,Or.inr ⟨b,off,cur.setIfInBounds (off+s.ws.length) (pst p),rfl,?_,by show off+s.wc≤_;simpa using h3,by show (s.ws ++ [p]).length≤s.wc;rw [List.length_append];exact hroom,fun j u hu=>?_⟩,?_,fun k hk=>Or.inl (by rw [h1];exact hk)⟩
   ·simp only [World.setCell,Array.getElem?_modify]
    simp [h2]
   ·have hu':(s.ws.map pst ++ [pst p])[j]?=some u:=by
     have:((s.ws ++ [p]).map pst)[j]?=some u:=hu
     rwa [List.map_append] at this
    by_cases hj:j<s.ws.length
    ·rw [List.getElem?_append_left (by simpa using hj)] at hu'
     rw [Array.getElem?_setIfInBounds_ne (by omega)]
     exact h6 j u hu'
    ·have hl:=(List.getElem?_eq_some_iff.1 hu').1
     simp at hl
     obtain rfl:j=s.ws.length:=by omega
     rw [List.getElem?_append_right (by simp)] at hu'
     simp at hu'
     subst hu'
     rw [Array.getElem?_setIfInBounds_self_of_lt (by omega)]
   ·rw [h1];exact grown_setCell w ⟨b,off+s.ws.length,none⟩ _
  ·obtain ⟨v,w',hr,ho,hg⟩:=run_append_arg_grows (P:=Tryz.prog) w 158 ty 9 i0 _ 1 16 Tryz.underlying158 hi hz0 hz1 hz2 rfl (by decide) ⟨b,off,none⟩ s.ws.length s.wc (s.ws.map pst) (by simp) (fun j u hu=>by
    have e:(⟨b,off,none⟩:Addr).add j=⟨b,off+j,none⟩:=by unfold Addr.add;split <;> simp_all
    rw [e,cell_of_row w b _ cur _ (0,0) h2]
    exact h6 j u hu) ⟨B,0,none⟩ 1 1 [pst p] rfl hnews (by omega) (by unfold maxLen;omega) (by omega)
   obtain ⟨wo,wc,rfl,hw,hu⟩:=fin v w' ho
   exact ⟨wo,wc,w',by rw [h1];exact hr,hw,grown_weak hg _,hu⟩
theorem step_text {w:World} {ops:Array Oper} {o:Oper} {a:Act} {K:Act→World→Prop} {Q:Exit→Act→World→Prop} {E:Prop} (hgd:o.guard=none) (s x:Operand)
  (ho:o.op=.call { callee:=.builtin .append,args:=#[s,x],argTypes:=#[158,158] })
  (S:Rs) (B:Nat) (p:Nat × (Nat→Int)) (te:TypeId) (L:Nat) (hL:S.ws.length=L) (hs:a.eval s=.slice S.wo L S.wc) (hx:a.eval x=.slice (some ⟨B,0,none⟩) 1 1) (h:RsW w S) (h4:S.ws.length≤4) (hB:w.heap[B]?=some (.cells #[pst p] te (0,0)))
  (hK:∀ wo wc w',RsW w' (S.wait wo wc (S.ws ++ [p]))→w.grownBy w' (own? S.wo)→(∀ k,own? wo=some k→own? S.wo=some k∨w.heap.size≤k)→K (a.put o.dst (.slice wo (L+1) wc)) w') :
  if Region.wanted o (yielded ops a.tmps)=true then Oper.wp Tryz.prog o a w K Q else E:=by
 have hw:Region.wanted o (yielded ops a.tmps)=true:=by simp [Region.wanted,hgd]
 rw [if_pos hw]
 subst hL
 obtain ⟨wo,wc,w',hr,h1,h2,h3⟩:=run_append_text (B:=B) (p:=p) (te:=te) o.type h h4 hB
 unfold Oper.wp execOp
 simp only [ho,resolve,invoke,builtin,Sem.run_bind,Sem.run_pure,Result.andThen_ok,List.map_toArray,List.map_cons,List.map_nil,hs,hx,hr]
 exact hK wo wc w' h1 h2 h3
theorem rreceive_out (b:Nat) (s:Int) (w:World) (h:s<0∨8≤s):Calls Tryz.prog 60 #[.pointer (some ⟨b,0,none⟩),.int .i64 s] w fun e w'=>e=.returned (.tuple #[.string ByteArray.empty,.int .i64 10])∧w.grownBy w' none:=by
 go_enter Tryz.func60,Tryz.ntmps60
 go_wp2_with (go_at_call 89;refine (rsocket_no s w h).mono ?_;rintro e w1 ⟨rfl,rfl⟩)
 go_ret2
 exact ⟨rfl,grown_refl _ _⟩
theorem rreceive_no (b i:Nat) (N:Rn) (R:Nat→Rs) (w:World) (H:RNet w b N R) (hi:i<8) (h0:(R i).ws=[]):Calls Tryz.prog 60 #[.pointer (some ⟨b,0,none⟩),.int .i64 (i:Int)] w fun e w'=>e=.returned (.tuple #[.string ByteArray.empty,.int .i64 12])∧w.grownBy w' none:=by
 obtain ⟨c0,c1,c2,c3,c4,c5⟩:=H.cells hi
 rw [h0] at c4
 have t8:(i:Int)<8:=by omega
 clear H
 go_enter Tryz.func60,Tryz.ntmps60
 go_wp2_with (go_at_call 89;refine (rsocket_ok i w hi).mono ?_;rintro e w1 ⟨rfl,rfl⟩)
 go_ret2
 exact ⟨rfl,grown_refl _ _⟩
theorem rreceive_ok (b i:Nat) (N:Rn) (R:Nat→Rs) (p:Nat × (Nat→Int)) (rest:List (Nat × (Nat→Int))) (w:World) (H:RNet w b N R) (hi:i<8) (h0:(R i).ws=p::rest):Calls Tryz.prog 60 #[.pointer (some ⟨b,0,none⟩),.int .i64 (i:Int)] w fun e w'=>e=.returned (.tuple #[pst p,.int .i64 0])∧∃ wo wc,RNet w' b N (updR R i ((R i).wait wo wc rest))∧RApart w w' b N R (updR R i ((R i).wait wo wc rest)):=by
 obtain ⟨c0,c1,c2,c3,c4,c5⟩:=H.cells hi
 have z4:=H.v.frozen i
 rw [h0] at c4
 have h4:=H.four i hi
 rw [h0] at h4
 have hw:=H.sw i hi
 rcases hw with ⟨_,h1,_⟩ | ⟨B,off,cur,h1,h2,h3,h5,h6⟩
 ·rw [h0] at h1;cases h1
 ·rw [h0] at h5 h6
  simp only [List.length_cons] at h5 h4 c4
  have hp:w.cell? ⟨B,off,none⟩=some (pst p):=by
   rw [cell_of_row w B _ cur _ (0,0) h2]
   exact h6 0 _ rfl
  obtain ⟨C,hC⟩:∃ C,(R i).wc=C+1:=⟨(R i).wc-1,by omega⟩
  rw [h1,hC] at c4
  rw [hC] at h3 h5
  have t8:(i:Int)<8:=by omega
  have HT:Hid (∀ w',w.grownBy w' none→∀ wo,(wo=some ⟨B,off+1,none⟩∨(C=0∧wo=some ⟨B,off,none⟩))→RNet (w'.setCell ⟨N.v,i,none⟩ (.slice wo rest.length C)) b N (updR R i ((R i).wait wo C rest))∧RApart w (w'.setCell ⟨N.v,i,none⟩ (.slice wo rest.length C)) b N R (updR R i ((R i).wait wo C rest))):=fun w' hg' wo hwo=>by
   have h2':w'.heap[B]?=some (.cells cur 9 (0,0)):=(hg'.block B (Array.getElem?_eq_some_iff.1 h2).1 (by simp)).trans h2
   refine rwait_turn H hi (grown_weak hg' _) ?_ (by omega) (fun k hk=>Or.inl ?_)
   ·rcases hwo with rfl | ⟨rfl,rfl⟩
    ·exact Or.inr ⟨B,off+1,cur,rfl,h2',by show off+1+C≤_;omega,by show rest.length≤C;omega,fun j u hu=>by rw [Nat.add_assoc,Nat.add_comm 1 j];exact h6 (j+1) u (by have hu':(rest.map pst)[j]?=some u:=hu;simpa using hu')⟩
    ·have hr:rest=[]:=List.eq_nil_of_length_eq_zero (by omega)
     subst hr
     exact Or.inr ⟨B,off,cur,rfl,h2',by show off+0≤_;omega,Nat.le_refl _,fun j u hu=>by have:([]:List Value)[j]?=some u:=hu;simp at this⟩
   ·rw [h1]
    rcases hwo with rfl | ⟨_,rfl⟩ <;> exact hk
  obtain ⟨L,hL⟩:∃ L,rest.length=L:=⟨_,rfl⟩
  have HL:Hid (rest.length=L):=hL
  rw [hL] at c4 h5 h4
  clear H hL h6
  have hps:∃ st,pst p=.string st:=⟨_,rfl⟩
  obtain ⟨st,hst⟩:=hps
  rw [hst] at hp
  have HST:Hid (pst p=.string st):=hst
  clear hst
  have t1:(1:Int)≤(L:Int)+1:=by omega
  by_cases hc0:C=0
  ·subst hc0
   obtain rfl:L=0:=by omega
   go_enter Tryz.func60,Tryz.ntmps60
   go_wp2_with (go_at_call 89;refine (rsocket_ok i w hi).mono ?_;rintro e w1 ⟨rfl,rfl⟩)
   refine wp_region_tl 14 (by kernel_rfl) (by kernel_rfl) ?_
   simp only [List.take_succ_cons,List.take_zero,List.drop_succ_cons,List.drop_zero]
   repeat still_step
   refine wpStill_nil ?_
   go_wp2
   go_ret2
   rw [HST.out]
   have hT:=HT.out _ (grown_drew (grown_refl w1 none)) (some ⟨B,off,none⟩) (by simp)
   rw [HL.out] at hT
   exact ⟨rfl,_,_,hT⟩
  ·go_enter Tryz.func60,Tryz.ntmps60
   go_wp2_with (go_at_call 89;refine (rsocket_ok i w hi).mono ?_;rintro e w1 ⟨rfl,rfl⟩)
   refine wp_region_tl 14 (by kernel_rfl) (by kernel_rfl) ?_
   simp only [List.take_succ_cons,List.take_zero,List.drop_succ_cons,List.drop_zero]
   repeat still_step
   refine wpStill_nil ?_
   go_wp2
   go_ret2
   rw [HST.out]
   have hT:=HT.out _ (grown_drew (grown_refl w1 none)) _ (Or.inl rfl)
   rw [HL.out] at hT
   exact ⟨rfl,_,_,hT⟩
end Go.Proofs.YthbcfepbkkbjiaaGreatDoor
