import Derived.Test.YthbcfepbkkbjiaaGreatDoorISI
set_option linter.unusedSimpArgs false
set_option linter.unusedVariables false
namespace Go.Proofs.YthbcfepbkkbjiaaGreatDoor
open Go.RowKit
def Young (w0:World) (b:Nat) (S:Nat→So):Prop:=∀ k,netUses b S k→w0.heap.size≤k
theorem Young.free {w0:World} {b:Nat} {S:Nat→So} {a1 a2 a3 a4:Addr} (h:Young w0 b S) (hs:Sent w0 a1 a2 a3 a4):Free b S a1 a2 a3 a4:=fun k hk=>by
 have:=h k hk
 have l1:=World.block_lt_of_cell? w0 _ hs.ga
 have l2:=World.block_lt_of_cell? w0 _ hs.gb
 have l3:=World.block_lt_of_cell? w0 _ hs.gc
 have l4:=World.block_lt_of_cell? w0 _ hs.gd
 have m1:=hs.fa.lt
 have m2:=hs.fb.lt
 have m3:=hs.fc.lt
 have m4:=hs.fd.lt
 dsimp only at l1 l2 l3 l4
 exact ⟨by omega,by omega,by omega,by omega,by omega,by omega,by omega,by omega⟩
theorem young_new {w0 w:World} (g:w0.grownBy w none):Young w0 w.heap.size (fun _=>so0):=fun k hk=>by
 rcases hk with rfl | ⟨i,_,hk⟩
 ·exact g.size
 ·exact absurd hk (so0_uses k)
end Go.Proofs.YthbcfepbkkbjiaaGreatDoor
namespace Go.Proofs.YthbcfepbkkbjiaaGreatDoor
open Go.RowKit
def Gr (U:Nat→Prop) (w w':World):Nat→Prop:=fun k=>U k∨(w.heap.size≤k∧k<w'.heap.size)
structure Fr (U:Nat→Prop) (w w':World):Prop where
 os:w'.os=w.os
 tape:w'.tape=w.tape
 output:w'.output=w.output
 size:w.heap.size≤w'.heap.size
 same:∀ k,k<w.heap.size→¬ U k→w'.heap[k]?=w.heap[k]?
theorem fr_grown {U:Nat→Prop} {w w':World} (g:w.grownBy w' none):Fr U w w':=⟨g.os,g.tape,g.output,g.size,fun k hk _=>g.block k hk (by simp)⟩
theorem Fr.trans {U V:Nat→Prop} {w w1 w':World} (h:Fr U w w1) (h':Fr V w1 w') (hV:∀ k,V k→k<w.heap.size→U k):Fr U w w' :=
 ⟨h'.os.trans h.os,h'.tape.trans h.tape,h'.output.trans h.output,Nat.le_trans h.size h'.size,fun k hk hu=>(h'.same k (Nat.lt_of_lt_of_le hk h.size) fun hv=>hu (hV k hv hk)).trans (h.same k hk hu)⟩
theorem Fr.grown {U:Nat→Prop} {w0 w w':World} (h:Fr U w w') (g:w0.grownBy w none) (hy:∀ k,U k→w0.heap.size≤k):w0.grownBy w' none :=
 ⟨h.os.trans g.os,h.tape.trans g.tape,h.output.trans g.output,Nat.le_trans g.size h.size,fun k hk _=>by
  rw [h.same k (Nat.lt_of_lt_of_le hk g.size) (fun hu=>by have:=hy k hu;omega),g.block k hk (by simp)]⟩
def NSt (w:World) (b:Nat) (U:Nat→Prop) (T:Nat→Ab):Prop :=
 (∀ k,U k→k<w.heap.size)∧∃ S,PNet w b S∧(∀ k,netUses b S k→U k)∧∀ i,i<8→(S i).ab=T i
theorem NSt.frame {w w':World} {b:Nat} {U V:Nat→Prop} {T:Nat→Ab} (h:NSt w b U T) (hf:Fr V w w') (hd:∀ k,U k→¬ V k):NSt w' b U T:=by
 obtain ⟨hl,S,hP,hU,hT⟩:=h
 exact ⟨fun k hk=>Nat.lt_of_lt_of_le (hl k hk) hf.size,S,hP.same fun k hk=>hf.same k (hl k (hU k hk)) (hd k (hU k hk)),hU,hT⟩
theorem NSt.keep {w w':World} {b:Nat} {U:Nat→Prop} {T:Nat→Ab} (h:NSt w b U T) (hg:w.grownBy w' none):NSt w' b U T:=h.frame (V:=fun _=>False) (fr_grown hg) (fun _ _ h=>h)
theorem NSt.more {w:World} {b:Nat} {U U':Nat→Prop} {T:Nat→Ab} (h:NSt w b U T) (hU:∀ k,U k→U' k) (hl:∀ k,U' k→k<w.heap.size):NSt w b U' T:=by
 obtain ⟨_,S,hP,hU',hT⟩:=h
 exact ⟨hl,S,hP,fun k hk=>hU k (hU' k hk),hT⟩
theorem nst_step {w w':World} {b:Nat} {U:Nat→Prop} {S S':Nat→So} {T':Nat→Ab} (hP:PNet w' b S') (hA:NApart w w' b S S') (hU:∀ k,netUses b S k→U k) (hl:∀ k,U k→k<w.heap.size) (hT:∀ i,i<8→(S' i).ab=T' i):NSt w' b (Gr U w w') T'∧Fr U w w' :=
 ⟨⟨fun k hk=>hk.elim (fun h=>Nat.lt_of_lt_of_le (hl k h) hA.size) (fun h=>h.2),S',hP,fun k hk=>(hA.uses k hk).elim (fun h=>Or.inl (hU k h)) (fun h=>Or.inr ⟨h,hP.lt hk⟩),hT⟩,
  hA.os,hA.tape,hA.output,hA.size,fun k hk hu=>hA.same k hk fun h=>hu (hU k h)⟩
theorem nst_quiet {w w':World} {b:Nat} {U:Nat→Prop} {T:Nat→Ab} (h:NSt w b U T) (hg:w.grownBy w' none):NSt w' b (Gr U w w') T∧Fr U w w' :=
 ⟨(h.keep hg).more (fun k hk=>Or.inl hk) (fun k hk=>hk.elim (fun h'=>Nat.lt_of_lt_of_le (h.1 k h') hg.size) (fun h'=>h'.2)),fr_grown hg⟩
structure Bs (w0 w:World) (U:Nat→Prop) (a1 a2 a3 a4:Addr) (tb:TypeId) (pb:Value):Prop where
 s:Sent w0 a1 a2 a3 a4
 l:Laid w0 tb pb
 g:w0.grownBy w none
 y:∀ k,U k→w0.heap.size≤k
theorem Bs.free {w0 w:World} {U:Nat→Prop} {a1 a2 a3 a4:Addr} {tb:TypeId} {pb:Value} (h:Bs w0 w U a1 a2 a3 a4 tb pb) {b:Nat} {S:Nat→So} (hU:∀ k,netUses b S k→U k):Free b S a1 a2 a3 a4 :=
 Young.free (fun k hk=>h.y k (hU k hk)) h.s
theorem Bs.keep {w0 w w':World} {U:Nat→Prop} {a1 a2 a3 a4:Addr} {tb:TypeId} {pb:Value} (h:Bs w0 w U a1 a2 a3 a4 tb pb) (hg:w.grownBy w' none):Bs w0 w' U a1 a2 a3 a4 tb pb:=⟨h.s,h.l,grown_trans h.g hg,h.y⟩
def updT (T:Nat→Ab) (i:Nat) (t:Ab):Nat→Ab:=fun j=>if j=i then t else T j
theorem updT_at (T:Nat→Ab) (i:Nat) (t:Ab):updT T i t i=t:=if_pos rfl
theorem updT_ne (T:Nat→Ab) (i:Nat) (t:Ab) {j:Nat} (h:j≠i):updT T i t j=T j:=if_neg h
theorem updS_ab {S:Nat→So} {T:Nat→Ab} {i:Nat} {s:So} {t:Ab} (hT:∀ j,j<8→(S j).ab=T j) (hs:s.ab=t):∀ j,j<8→(updS S i s j).ab=updT T i t j:=fun j hj=>by
 by_cases e:j=i
 ·subst e;rw [updS_at,updT_at,hs]
 ·rw [updS_ne _ _ _ e,updT_ne _ _ _ e,hT j hj]
def AttR (s:Int) (g:Nat→Int) (n:Nat) (T:Nat→Ab) (E:Int) (T':Nat→Ab):Prop :=
 ((s<0∨8≤s)∧E=10∧T'=T)∨(0≤s∧s<8∧((E≠0∧(∃ k,Chk g n E k)∧T'=T)∨(E=0∧Chk g n 0 0∧T'=updT T s.toNat ⟨n/8,decs g,(T s.toNat).ws,(T s.toNat).d⟩)))
theorem AttR.one {s:Int} {g:Nat→Int} {n:Nat} {T:Nat→Ab} {E E':Int} {T' T'':Nat→Ab} (h:AttR s g n T E T') (h':AttR s g n T E' T''):E=E'∧T'=T'':=by
 rcases h with ⟨h1,h2,h3⟩ | ⟨h1,h2,h3⟩
 ·rcases h' with ⟨_,k2,k3⟩ | ⟨k1,k2,_⟩
  ·exact ⟨h2.trans k2.symm,h3.trans k3.symm⟩
  ·omega
 ·rcases h' with ⟨k1,_,_⟩ | ⟨_,_,k3⟩
  ·omega
  ·rcases h3 with ⟨n1,⟨p,n2⟩,n3⟩ | ⟨n1,n2,n3⟩
   ·rcases k3 with ⟨m1,⟨p',m2⟩,m3⟩ | ⟨m1,m2,m3⟩
    ·exact ⟨(n2.one m2).1,n3.trans m3.symm⟩
    ·exact absurd (n2.one m2).1 n1
   ·rcases k3 with ⟨m1,⟨p',m2⟩,m3⟩ | ⟨m1,m2,m3⟩
    ·exact absurd (m2.one n2).1 m1
    ·exact ⟨n1.trans m1.symm,n3.trans m3.symm⟩
theorem nnew (w:World):Calls Tryz.prog 22 #[] w fun e w'=>e=.returned (.pointer (some ⟨w.heap.size,0,none⟩))∧NSt w' w.heap.size (fun k=>w.heap.size≤k∧k<w'.heap.size) (fun _=>so0.ab)∧w.grownBy w' none:=by
 refine (gnew_any w).mono ?_
 rintro e w' ⟨rfl,hP,hg⟩
 exact ⟨rfl,⟨fun k hk=>hk.2,_,hP,fun k hk=>⟨young_new (grown_refl w none) k hk,hP.lt hk⟩,fun _ _=>rfl⟩,hg⟩
theorem nattach {w0 w:World} {b:Nat} {U:Nat→Prop} {T:Nat→Ab} {a1 a2 a3 a4:Addr} {tb:TypeId} {pb:Value} (h:NSt w b U T) (hb:Bs w0 w U a1 a2 a3 a4 tb pb) (s:Int) (ao:Option Addr) (n c:Nat) (g:Nat→Int) (comp:Bool) (hn:n≤maxLen) (hc:n≤c) (hg:Oct g) (hs:Src w .u8 ao n g) :
  Calls Tryz.prog 52 #[.pointer (some ⟨b,0,none⟩),.int .i64 s,.slice ao n c,.bool comp] w fun e w'=>∃ E T',AttR s g n T E T'∧e=.returned (.int .i64 E)∧NSt w' b (Gr U w w') T'∧Fr U w w':=by
 by_cases ho:s<0∨8≤s
 ·refine (gattach_out b s _ _ a1 a2 a3 a4 w (hb.s.keep hb.g) ho).mono ?_
  rintro e w' ⟨rfl,g'⟩
  exact ⟨10,T,Or.inl ⟨ho,rfl,rfl⟩,rfl,nst_quiet h g'⟩
 ·obtain ⟨i,rfl⟩:∃ i:Nat,s=(i:Int):=⟨s.toNat,by omega⟩
  have hi:i<8:=by omega
  by_cases hok:Chk g n 0 0
  ·obtain ⟨j,j1,j2,rfl⟩:=hok.len
   obtain ⟨fb,off,rfl,hR⟩:=hs (by omega)
   obtain ⟨hl,S,hP,hU,hT⟩:=h
   refine (gattach_ok b i fb off j c g comp S tb pb w hP hi j1 j2 hc hg hR (hb.l.keep hb.g) hok).mono ?_
   rintro e w' ⟨rfl,fv,fb',hP',hA⟩
   refine ⟨0,_,Or.inr ⟨by omega,by omega,Or.inr ⟨rfl,hok,rfl⟩⟩,rfl,nst_step hP' hA hU hl (updS_ab hT ?_)⟩
   rw [Int.toNat_natCast,← hT i hi]
   simp [So.ab,So.fil]
  ·refine (gattach_no b i ao n c g _ tb pb w hi hn hc hg hs (hb.l.keep hb.g) hok).mono ?_
   rintro e w' ⟨⟨E,k,rfl,hE,hC⟩,g'⟩
   exact ⟨E,T,Or.inr ⟨by omega,by omega,Or.inl ⟨hE,⟨k,hC⟩,rfl⟩⟩,rfl,nst_quiet h g'⟩
def DetR (s:Int) (T:Nat→Ab) (E:Int) (T':Nat→Ab):Prop :=
 ((s<0∨8≤s)∧E=10∧T'=T)∨(0≤s∧s<8∧(((T s.toNat).n=0∧E=11∧T'=T)∨((T s.toNat).n≠0∧E=0∧T'=updT T s.toNat ⟨0,fun _=>0,(T s.toNat).ws,(T s.toNat).d⟩)))
theorem DetR.one {s:Int} {T:Nat→Ab} {E E':Int} {T' T'':Nat→Ab} (h:DetR s T E T') (h':DetR s T E' T''):E=E'∧T'=T'':=by
 rcases h with ⟨h1,h2,h3⟩ | ⟨h1,h2,h3⟩
 ·rcases h' with ⟨_,k2,k3⟩ | ⟨k1,k2,_⟩
  ·exact ⟨h2.trans k2.symm,h3.trans k3.symm⟩
  ·omega
 ·rcases h' with ⟨k1,_,_⟩ | ⟨_,_,k3⟩
  ·omega
  ·rcases h3 with ⟨n1,n2,n3⟩ | ⟨n1,n2,n3⟩
   ·rcases k3 with ⟨m1,m2,m3⟩ | ⟨m1,m2,m3⟩
    ·exact ⟨n2.trans m2.symm,n3.trans m3.symm⟩
    ·exact absurd n1 m1
   ·rcases k3 with ⟨m1,m2,m3⟩ | ⟨m1,m2,m3⟩
    ·exact absurd m1 n1
    ·exact ⟨n2.trans m2.symm,n3.trans m3.symm⟩
theorem ndetach {w0 w:World} {b:Nat} {U:Nat→Prop} {T:Nat→Ab} {a1 a2 a3 a4:Addr} {tb:TypeId} {pb:Value} (h:NSt w b U T) (hb:Bs w0 w U a1 a2 a3 a4 tb pb) (s:Int) :
  Calls Tryz.prog 55 #[.pointer (some ⟨b,0,none⟩),.int .i64 s] w fun e w'=>∃ E T',DetR s T E T'∧e=.returned (.int .i64 E)∧NSt w' b (Gr U w w') T'∧Fr U w w':=by
 by_cases ho:s<0∨8≤s
 ·refine (gdetach_out b s a1 a2 a3 a4 w (hb.s.keep hb.g) ho).mono ?_
  rintro e w' ⟨rfl,g'⟩
  exact ⟨10,T,Or.inl ⟨ho,rfl,rfl⟩,rfl,nst_quiet h g'⟩
 ·obtain ⟨i,rfl⟩:∃ i:Nat,s=(i:Int):=⟨s.toNat,by omega⟩
  have hi:i<8:=by omega
  have h0:=h
  obtain ⟨hl,S,hP,hU,hT⟩:=h
  have hTn:(S i).n=(T i).n:=by rw [← hT i hi];rfl
  by_cases hn:(S i).n=0
  ·refine (gdetach_no b i S a1 a2 a3 a4 w hP (hb.s.keep hb.g) hi hn).mono ?_
   rintro e w' ⟨rfl,g'⟩
   exact ⟨11,T,Or.inr ⟨by omega,by omega,Or.inl ⟨by rw [Int.toNat_natCast,← hTn];exact hn,rfl,rfl⟩⟩,rfl,nst_quiet h0 g'⟩
  ·refine (gdetach_ok b i S a1 a2 a3 a4 w hP (hb.s.keep hb.g) (hb.free hU) hi hn).mono ?_
   rintro e w' ⟨rfl,hP',hA⟩
   refine ⟨0,_,Or.inr ⟨by omega,by omega,Or.inr ⟨by rw [Int.toNat_natCast,← hTn];exact hn,rfl,rfl⟩⟩,rfl,nst_step hP' hA hU hl (updS_ab hT ?_)⟩
   rw [Int.toNat_natCast,← hT i hi]
   simp [So.ab,So.fil]
def frmE (m:Nat):Int:=if m≤2000 then 0 else 10
def frmT (T:Nat→Ab) (p:Nat→Int) (m:Nat):Nat→Ab:=fun i=>if m≤2000 then (T i).offer p m else T i
theorem nframe {w0 w:World} {b:Nat} {U:Nat→Prop} {T:Nat→Ab} {a1 a2 a3 a4:Addr} {tb:TypeId} {pb:Value} (h:NSt w b U T) (hb:Bs w0 w U a1 a2 a3 a4 tb pb) (po:Option Addr) (m pc:Nat) (p:Nat→Int) (hm:m≤maxLen) (hmc:m≤pc) (hp:Oct p) (hq:Src w .u8 po m p) (hpo:0<m→∀ k,own? po=some k→¬ U k) (hd:∀ i,i<8→(T i).d<9223372036854775807) :
  Calls Tryz.prog 57 #[.pointer (some ⟨b,0,none⟩),.slice po m pc] w fun e w'=>e=.returned (.int .i64 (frmE m))∧NSt w' b (Gr U w w') (frmT T p m)∧Fr U w w':=by
 by_cases h2:m≤2000
 ·obtain ⟨hl,S,hP,hU,hT⟩:=h
  refine (gframe_ok b S po m pc p a1 a2 a3 a4 w hP (hb.s.keep hb.g) (hb.free hU) h2 hmc (fun e=>?_) hp hq (fun h0 k hk hu=>hpo h0 k hk (hU k hu)) (fun i hi=>by have:=hd i hi;rw [← hT i hi] at this;exact this)).mono ?_
  ·by_cases h0:0<m
   ·obtain ⟨b',off,e',_⟩:=hq h0
    rw [e] at e'
    cases e'
   ·omega
  ·rintro e w' ⟨rfl,S',hP',hA,hab⟩
   refine ⟨by rw [show frmE m=0 from if_pos h2],nst_step hP' hA hU hl fun i hi=>?_⟩
   rw [hab i hi,hT i hi]
   exact (if_pos h2).symm
 ·refine (gframe_long b po m pc a1 a2 a3 a4 w (hb.s.keep hb.g) (by omega) hm).mono ?_
  rintro e w' ⟨rfl,g'⟩
  refine ⟨by rw [show frmE m=10 from if_neg h2],?_⟩
  rw [show frmT T p m=T from funext fun i=>if_neg h2]
  exact nst_quiet h g'
def drpV (s:Int) (T:Nat→Ab):Int:=if s<0∨8≤s then 0 else ((T s.toNat).d:Int)
theorem ndropped {w0 w:World} {b:Nat} {U:Nat→Prop} {T:Nat→Ab} {a1 a2 a3 a4:Addr} {tb:TypeId} {pb:Value} (h:NSt w b U T) (hb:Bs w0 w U a1 a2 a3 a4 tb pb) (s:Int) :
  Calls Tryz.prog 61 #[.pointer (some ⟨b,0,none⟩),.int .i64 s] w fun e w'=>e=.returned (.int .i64 (drpV s T))∧w.grownBy w' none:=by
 by_cases ho:s<0∨8≤s
 ·refine (gdropped_out b s a1 a2 a3 a4 w (hb.s.keep hb.g) ho).mono ?_
  rintro e w' ⟨rfl,g'⟩
  exact ⟨by rw [show drpV s T=0 from if_pos ho],g'⟩
 ·obtain ⟨i,rfl⟩:∃ i:Nat,s=(i:Int):=⟨s.toNat,by omega⟩
  have hi:i<8:=by omega
  obtain ⟨hl,S,hP,hU,hT⟩:=h
  refine (gdropped b i S w hP hi).mono ?_
  rintro e w' ⟨rfl,rfl⟩
  refine ⟨?_,grown_refl _ _⟩
  have e1:drpV (i:Int) T=((T i).d:Int):=by unfold drpV;rw [if_neg ho,Int.toNat_natCast]
  rw [e1,← hT i hi]
  rfl
def RecR (s:Int) (T:Nat→Ab) (E:Int) (l:Nat) (g:Nat→Int) (T':Nat→Ab):Prop :=
 ((s<0∨8≤s)∧E=10∧l=0∧g=(fun _=>0)∧T'=T)∨(0≤s∧s<8∧(((T s.toNat).ws=[]∧E=12∧l=0∧g=(fun _=>0)∧T'=T)∨(∃ rest,(T s.toNat).ws=(l,g)::rest∧E=0∧T'=updT T s.toNat ⟨(T s.toNat).n,(T s.toNat).q,rest,(T s.toNat).d⟩)))
theorem RecR.one {s:Int} {T:Nat→Ab} {E E':Int} {l l':Nat} {g g':Nat→Int} {T' T'':Nat→Ab} (h:RecR s T E l g T') (h':RecR s T E' l' g' T''):E=E'∧l=l'∧g=g'∧T'=T'':=by
 rcases h with ⟨h1,h2,h3,h4,h5⟩ | ⟨h1,h2,h3⟩
 ·rcases h' with ⟨_,k2,k3,k4,k5⟩ | ⟨k1,k2,_⟩
  ·exact ⟨h2.trans k2.symm,h3.trans k3.symm,h4.trans k4.symm,h5.trans k5.symm⟩
  ·omega
 ·rcases h' with ⟨k1,_,_⟩ | ⟨_,_,k3⟩
  ·omega
  ·rcases h3 with ⟨n1,n2,n3,n4,n5⟩ | ⟨r,n1,n2,n3⟩
   ·rcases k3 with ⟨m1,m2,m3,m4,m5⟩ | ⟨r',m1,m2,m3⟩
    ·exact ⟨n2.trans m2.symm,n3.trans m3.symm,n4.trans m4.symm,n5.trans m5.symm⟩
    ·rw [n1] at m1;cases m1
   ·rcases k3 with ⟨m1,m2,m3,m4,m5⟩ | ⟨r',m1,m2,m3⟩
    ·rw [n1] at m1;cases m1
    ·rw [n1] at m1
     cases m1
     exact ⟨n2.trans m2.symm,rfl,rfl,n3.trans m3.symm⟩
theorem nreceive {w0 w:World} {b:Nat} {U:Nat→Prop} {T:Nat→Ab} {a1 a2 a3 a4:Addr} {tb:TypeId} {pb:Value} (h:NSt w b U T) (hb:Bs w0 w U a1 a2 a3 a4 tb pb) (s:Int) :
  Calls Tryz.prog 59 #[.pointer (some ⟨b,0,none⟩),.int .i64 s] w fun e w'=>∃ E l g T' a c,RecR s T E l g T'∧e=.returned (.tuple #[.slice a l c,.int .i64 E])∧Held w' 5 1 a l c (ints .u8 g)∧Oct g∧l≤2000∧(∀ k,own? a=some k→U k)∧NSt w' b (fun k=>Gr U w w' k∧own? a≠some k) T'∧Fr U w w':=by
 have q0:∀ {w'},w.grownBy w' none→NSt w' b (fun k=>Gr U w w' k∧own? (none:Option Addr)≠some k) T∧Fr U w w':=fun {w'} g'=>by
  obtain ⟨x,y⟩:=nst_quiet h g'
  exact ⟨x.more (fun k hk=>⟨hk,by simp [own?]⟩) (fun k hk=>x.1 k hk.1),y⟩
 have z0:Oct (fun _=>(0:Int)):=fun _=>by show (0:Int)≤0∧(0:Int)≤255;decide
 by_cases ho:s<0∨8≤s
 ·refine (greceive_out b s a1 a2 a3 a4 w (hb.s.keep hb.g) ho).mono ?_
  rintro e w' ⟨rfl,g'⟩
  exact ⟨10,0,fun _=>0,T,none,0,Or.inl ⟨ho,rfl,rfl,rfl,rfl⟩,rfl,Or.inl ⟨rfl,rfl,rfl⟩,z0,by omega,(fun k hk=>by cases hk),q0 g'⟩
 ·obtain ⟨i,rfl⟩:∃ i:Nat,s=(i:Int):=⟨s.toNat,by omega⟩
  have hi:i<8:=by omega
  obtain ⟨hl,S,hP,hU,hT⟩:=h
  have hTw:(T i).ws=(S i).ws.map fun p=>(p.l,p.g):=by rw [← hT i hi];rfl
  cases hw:(S i).ws with
  | nil =>
   refine (greceive_no b i S a1 a2 a3 a4 w hP (hb.s.keep hb.g) hi hw).mono ?_
   rintro e w' ⟨rfl,g'⟩
   exact ⟨12,0,fun _=>0,T,none,0,Or.inr ⟨by omega,by omega,Or.inl ⟨by rw [Int.toNat_natCast,hTw,hw];rfl,rfl,rfl,rfl,rfl⟩⟩,rfl,Or.inl ⟨rfl,rfl,rfl⟩,z0,by omega,(fun k hk=>by cases hk),q0 g'⟩
  | cons p0 rest =>
   have hm:p0 ∈ (S i).ws:=by rw [hw];simp
   obtain ⟨_,o1,o2⟩:=(hP.s i hi).p p0 hm
   refine (greceive_ok b i S p0 rest a1 a2 a3 a4 w hP (hb.s.keep hb.g) (hb.free hU) hi hw).mono ?_
   rintro e w' ⟨rfl,wo,wc,hP',hA,hH,hN⟩
   have hab:=updS_ab (i:=i) (s:=(S i).wait wo wc rest) (t:=⟨(T i).n,(T i).q,rest.map fun p=>(p.l,p.g),(T i).d⟩) hT (by rw [← hT i hi];rfl)
   obtain ⟨x,y⟩:=nst_step hP' hA hU hl hab
   refine ⟨0,p0.l,p0.g,_,p0.a,p0.c,Or.inr ⟨by omega,by omega,Or.inr ⟨rest.map fun p=>(p.l,p.g),by rw [Int.toNat_natCast,hTw,hw];rfl,rfl,by rw [Int.toNat_natCast]⟩⟩,rfl,hH,o1,o2,fun k hk=>hU k (Or.inr ⟨i,hi,Or.inr (Or.inr ⟨p0,hm,hk⟩)⟩),⟨fun k hk=>x.1 k hk.1,_,hP',fun k hk=>⟨(hA.uses k hk).elim (fun h=>Or.inl (hU k h)) (fun h=>Or.inr ⟨h,hP'.lt hk⟩),fun e=>hN k e hk⟩,hab⟩,y⟩
end Go.Proofs.YthbcfepbkkbjiaaGreatDoor
