import Derived.Test.YthbcfepbkkbjiaaGreatDoorIND
import Derived.Test.YthbcfepbkkbjiaaGreatDoorINE
set_option linter.unusedSimpArgs false
set_option linter.unusedVariables false
set_option maxRecDepth 100000
namespace Go.Proofs.YthbcfepbkkbjiaaGreatDoor
open Go.RowKit
def rs0:Rs:=⟨none,0,0,fun _=>0,0,none,0,[],0⟩
theorem heap_a4 (w:World) (o1 o2 o3 o4:Obj):((((w.alloc o1).alloc o2).alloc o3).alloc o4).heap[w.heap.size]?=some o1∧((((w.alloc o1).alloc o2).alloc o3).alloc o4).heap[w.heap.size+1]?=some o2∧((((w.alloc o1).alloc o2).alloc o3).alloc o4).heap[w.heap.size+1+1]?=some o3∧((((w.alloc o1).alloc o2).alloc o3).alloc o4).heap[w.heap.size+1+1+1]?=some o4:=by
 have e1:=heap_alloc_new w o1
 have e2:=heap_alloc_new (w.alloc o1) o2
 have e3:=heap_alloc_new ((w.alloc o1).alloc o2) o3
 have e4:=heap_alloc_new (((w.alloc o1).alloc o2).alloc o3) o4
 simp only [World.size_alloc] at e2 e3 e4
 have g2:=World.grownBy_alloc (w.alloc o1) o2 none
 have g3:=World.grownBy_alloc ((w.alloc o1).alloc o2) o3 none
 have g4:=World.grownBy_alloc (((w.alloc o1).alloc o2).alloc o3) o4 none
 refine ⟨?_,?_,?_,e4⟩
 ·rw [g4.block _ (by simp only [World.size_alloc];omega) (by simp),g3.block _ (by simp only [World.size_alloc];omega) (by simp),g2.block _ (by simp only [World.size_alloc];omega) (by simp)];exact e1
 ·rw [g4.block _ (by simp only [World.size_alloc];omega) (by simp),g3.block _ (by simp only [World.size_alloc];omega) (by simp)];exact e2
 ·rw [g4.block _ (by simp only [World.size_alloc];omega) (by simp)];exact e3
theorem rnew_of {w W:World} {b f v d:Nat} (g:w.grownBy W none) (hf:W.heap[f]?=some (.cells #[.slice none 0 0,.slice none 0 0,.slice none 0 0,.slice none 0 0,.slice none 0 0,.slice none 0 0,.slice none 0 0,.slice none 0 0] 25))
  (hv:W.heap[v]?=some (.cells #[.slice none 0 0,.slice none 0 0,.slice none 0 0,.slice none 0 0,.slice none 0 0,.slice none 0 0,.slice none 0 0,.slice none 0 0] 158))
  (hd:W.heap[d]?=some (.cells #[.int .i64 0,.int .i64 0,.int .i64 0,.int .i64 0,.int .i64 0,.int .i64 0,.int .i64 0,.int .i64 0] 3))
  (hb:W.heap[b]?=some (.cells #[.slice (some ⟨f,0,none⟩) 8 8,.slice (some ⟨v,0,none⟩) 8 8,.slice (some ⟨d,0,none⟩) 8 8] 103))
  (h1:b≠f∧b≠v∧b≠d∧f≠v∧f≠d∧v≠d) (h2:w.heap.size≤f∧w.heap.size≤v∧w.heap.size≤d∧w.heap.size≤b) :
  RSt W b (fun k=>w.heap.size≤k∧k<W.heap.size) (fun _=>so0.ab)∧w.grownBy W none:=by
 have hN:RNet W b ⟨f,v,d⟩ (fun _=>rs0):=by
  refine ⟨⟨_,hb,rfl,Nat.le_refl _,fun j hj=>?_⟩,⟨_,hf,rfl,Nat.le_refl _,fun j hj=>?_⟩,⟨_,hv,rfl,Nat.le_refl _,fun j hj=>?_⟩,⟨_,hd,rfl,Nat.le_refl _,fun j hj=>?_⟩,h1.1,h1.2.1,h1.2.2.1,h1.2.2.2.1,h1.2.2.2.2.1,h1.2.2.2.2.2,fun _ _=>Or.inl ⟨rfl,rfl⟩,fun _ _=>Or.inl ⟨rfl,rfl,rfl⟩,fun _ _=>Nat.zero_le _,(fun _ _ k h=>by cases h),(fun _ _ k h=>by cases h)⟩
  ·match j,hj with
   | 0,_=>rfl
   | 1,_=>rfl
   | 2,_=>rfl
  all_goals
   match j,hj with
   | 0,_=>rfl
   | 1,_=>rfl
   | 2,_=>rfl
   | 3,_=>rfl
   | 4,_=>rfl
   | 5,_=>rfl
   | 6,_=>rfl
   | 7,_=>rfl
 refine ⟨⟨fun k hk=>hk.2,_,_,hN,fun k hk=>⟨?_,hN.lt hk⟩,fun _ _=>rfl⟩,g⟩
 rcases hk with h | h | h | h | ⟨i,_,h | h⟩
 ·omega
 ·have:k=f:=h
  omega
 ·have:k=v:=h
  omega
 ·have:k=d:=h
  omega
 ·cases h
 ·cases h
theorem mkF (w:World):(Instr.makeSlice 33 (.int .i64 8) (.int .i64 8)).run Tryz.prog w=.ok (.slice (some ⟨w.heap.size,0,none⟩) 8 8) (w.alloc (.cells #[.slice none 0 0,.slice none 0 0,.slice none 0 0,.slice none 0 0,.slice none 0 0,.slice none 0 0,.slice none 0 0,.slice none 0 0] 25)):=by kernel_rfl
theorem mkV (w:World):(Instr.makeSlice 101 (.int .i64 8) (.int .i64 8)).run Tryz.prog w=.ok (.slice (some ⟨w.heap.size,0,none⟩) 8 8) (w.alloc (.cells #[.slice none 0 0,.slice none 0 0,.slice none 0 0,.slice none 0 0,.slice none 0 0,.slice none 0 0,.slice none 0 0,.slice none 0 0] 158)):=by kernel_rfl
theorem mkD (w:World):(Instr.makeSlice 66 (.int .i64 8) (.int .i64 8)).run Tryz.prog w=.ok (.slice (some ⟨w.heap.size,0,none⟩) 8 8) (w.alloc (.cells #[.int .i64 0,.int .i64 0,.int .i64 0,.int .i64 0,.int .i64 0,.int .i64 0,.int .i64 0,.int .i64 0] 3)):=by kernel_rfl
set_option maxHeartbeats 1000000 in
theorem rrnew (w:World):Calls Tryz.prog 23 #[] w fun e w'=>∃ b,e=.returned (.pointer (some ⟨b,0,none⟩))∧RSt w' b (fun k=>w.heap.size≤k∧k<w'.heap.size) (fun _=>so0.ab)∧w.grownBy w' none:=by
 go_enter Tryz.func23,Tryz.ntmps23
 have m1:=mkF
 have m2:=mkV
 have m3:=mkD
 go_wp2
 go_region
 all_goals go_wp2
 all_goals go_ret
 all_goals
  refine ⟨_,rfl,?_⟩
  first | exact rnew_of (grown_drew (grown_trans (grown_trans (grown_trans (World.grownBy_alloc w _ none) (World.grownBy_alloc _ _ none)) (World.grownBy_alloc _ _ none)) (World.grownBy_alloc _ _ none))) (heap_a4 w _ _ _ _).1 (heap_a4 w _ _ _ _).2.1 (heap_a4 w _ _ _ _).2.2.1 (heap_a4 w _ _ _ _).2.2.2 (by omega) (by omega) | exact rnew_of (grown_drew (grown_trans (grown_trans (grown_trans (World.grownBy_alloc w _ none) (World.grownBy_alloc _ _ none)) (World.grownBy_alloc _ _ none)) (World.grownBy_alloc _ _ none))) (heap_a4 w _ _ _ _).1 (heap_a4 w _ _ _ _).2.2.1 (heap_a4 w _ _ _ _).2.1 (heap_a4 w _ _ _ _).2.2.2 (by omega) (by omega) | exact rnew_of (grown_drew (grown_trans (grown_trans (grown_trans (World.grownBy_alloc w _ none) (World.grownBy_alloc _ _ none)) (World.grownBy_alloc _ _ none)) (World.grownBy_alloc _ _ none))) (heap_a4 w _ _ _ _).2.1 (heap_a4 w _ _ _ _).1 (heap_a4 w _ _ _ _).2.2.1 (heap_a4 w _ _ _ _).2.2.2 (by omega) (by omega) | exact rnew_of (grown_drew (grown_trans (grown_trans (grown_trans (World.grownBy_alloc w _ none) (World.grownBy_alloc _ _ none)) (World.grownBy_alloc _ _ none)) (World.grownBy_alloc _ _ none))) (heap_a4 w _ _ _ _).2.1 (heap_a4 w _ _ _ _).2.2.1 (heap_a4 w _ _ _ _).1 (heap_a4 w _ _ _ _).2.2.2 (by omega) (by omega) | exact rnew_of (grown_drew (grown_trans (grown_trans (grown_trans (World.grownBy_alloc w _ none) (World.grownBy_alloc _ _ none)) (World.grownBy_alloc _ _ none)) (World.grownBy_alloc _ _ none))) (heap_a4 w _ _ _ _).2.2.1 (heap_a4 w _ _ _ _).1 (heap_a4 w _ _ _ _).2.1 (heap_a4 w _ _ _ _).2.2.2 (by omega) (by omega) | exact rnew_of (grown_drew (grown_trans (grown_trans (grown_trans (World.grownBy_alloc w _ none) (World.grownBy_alloc _ _ none)) (World.grownBy_alloc _ _ none)) (World.grownBy_alloc _ _ none))) (heap_a4 w _ _ _ _).2.2.1 (heap_a4 w _ _ _ _).2.1 (heap_a4 w _ _ _ _).1 (heap_a4 w _ _ _ _).2.2.2 (by omega) (by omega)
theorem rrattach {w:World} {b:Nat} {U:Nat→Prop} {T:Nat→Ab} (h:RSt w b U T) (s:Int) (ao:Option Addr) (n c:Nat) (g:Nat→Int) (hn:n≤maxLen) (hg:Oct g) (hs:Src w .u8 ao n g) :
  Calls Tryz.prog 53 #[.pointer (some ⟨b,0,none⟩),.int .i64 s,.slice ao n c] w fun e w'=>∃ E T',AttR s g n T E T'∧e=.returned (.int .i64 E)∧RSt w' b (Gr U w w') T'∧Fr U w w':=by
 by_cases ho:s<0∨8≤s
 ·refine (rattach_out b s _ w ho).mono ?_
  rintro e w' ⟨rfl,rfl⟩
  exact ⟨10,T,Or.inl ⟨ho,rfl,rfl⟩,rfl,rst_quiet h (grown_refl _ _)⟩
 ·obtain ⟨i,rfl⟩:∃ i:Nat,s=(i:Int):=⟨s.toNat,by omega⟩
  have hi:i<8:=by omega
  by_cases hok:Chk g n 0 0
  ·obtain ⟨j,j1,j2,rfl⟩:=hok.len
   obtain ⟨fb,off,rfl,hR⟩:=hs (by omega)
   obtain ⟨hl,N,R,hP,hU,hT⟩:=h
   refine (rattach_ok b i fb off j c g N R w hP hi j1 j2 hg hR hok).mono ?_
   rintro e w' ⟨rfl,fo,fl,fc,hP',hA⟩
   refine ⟨0,_,Or.inr ⟨by omega,by omega,Or.inr ⟨rfl,hok,rfl⟩⟩,rfl,rst_step hP' hA hU hl (updR_ab hT ?_)⟩
   rw [Int.toNat_natCast,← hT i hi]
   simp [Rs.ab,Rs.fil]
  ·refine (rattach_no b i ao n c g w hi hn hg hs hok).mono ?_
   rintro e w' ⟨⟨E,k,rfl,hE,hC⟩,g'⟩
   exact ⟨E,T,Or.inr ⟨by omega,by omega,Or.inl ⟨hE,⟨k,hC⟩,rfl⟩⟩,rfl,rst_quiet h g'⟩
theorem rrdetach {w:World} {b:Nat} {U:Nat→Prop} {T:Nat→Ab} (h:RSt w b U T) (s:Int) :
  Calls Tryz.prog 56 #[.pointer (some ⟨b,0,none⟩),.int .i64 s] w fun e w'=>∃ E T',DetR s T E T'∧e=.returned (.int .i64 E)∧RSt w' b (Gr U w w') T'∧Fr U w w':=by
 by_cases ho:s<0∨8≤s
 ·refine (rdetach_out b s w ho).mono ?_
  rintro e w' ⟨rfl,rfl⟩
  exact ⟨10,T,Or.inl ⟨ho,rfl,rfl⟩,rfl,rst_quiet h (grown_refl _ _)⟩
 ·obtain ⟨i,rfl⟩:∃ i:Nat,s=(i:Int):=⟨s.toNat,by omega⟩
  have hi:i<8:=by omega
  have h0:=h
  obtain ⟨hl,N,R,hP,hU,hT⟩:=h
  have hTn:(R i).n=(T i).n:=by rw [← hT i hi];rfl
  by_cases hn:(R i).n=0
  ·refine (rdetach_no b i N R w hP hi hn).mono ?_
   rintro e w' ⟨rfl,g'⟩
   exact ⟨11,T,Or.inr ⟨by omega,by omega,Or.inl ⟨by rw [Int.toNat_natCast,← hTn];exact hn,rfl,rfl⟩⟩,rfl,rst_quiet h0 g'⟩
  ·refine (rdetach_ok b i N R w hP hi hn).mono ?_
   rintro e w' ⟨rfl,hP',hA⟩
   refine ⟨0,_,Or.inr ⟨by omega,by omega,Or.inr ⟨by rw [Int.toNat_natCast,← hTn];exact hn,rfl,rfl⟩⟩,rfl,rst_step hP' hA hU hl (updR_ab hT ?_)⟩
   rw [Int.toNat_natCast,← hT i hi]
   simp [Rs.ab,Rs.fil]
theorem rrframe {w:World} {b:Nat} {U:Nat→Prop} {T:Nat→Ab} (h:RSt w b U T) (po:Option Addr) (m pc:Nat) (p:Nat→Int) (hm:m≤maxLen) (hmc:m≤pc) (hp:Oct p) (hq:Src w .u8 po m p) (hpo:0<m→∀ k,own? po=some k→¬ U k) (hd:∀ i,i<8→(T i).d<9223372036854775807) :
  Calls Tryz.prog 58 #[.pointer (some ⟨b,0,none⟩),.slice po m pc] w fun e w'=>e=.returned (.int .i64 (frmE m))∧RSt w' b (Gr U w w') (frmT T p m)∧Fr U w w':=by
 by_cases h2:m≤2000
 ·obtain ⟨hl,N,R,hP,hU,hT⟩:=h
  refine (rnframe_ok b N R po m pc p w hP h2 hmc (fun e=>?_) hp hq (fun h0 k hk hu=>hpo h0 k hk (hU k hu)) (fun i hi=>by have:=hd i hi;rw [← hT i hi] at this;exact this)).mono ?_
  ·by_cases h0:0<m
   ·obtain ⟨b',off,e',_⟩:=hq h0
    rw [e] at e'
    cases e'
   ·omega
  ·rintro e w' ⟨rfl,R',hP',hA,hab⟩
   refine ⟨by rw [show frmE m=0 from if_pos h2],rst_step hP' hA hU hl fun i hi=>?_⟩
   rw [hab i hi,hT i hi]
   exact (if_pos h2).symm
 ·refine (rnframe_long b po m pc w (by omega) hm).mono ?_
  rintro e w' ⟨rfl,g'⟩
  refine ⟨by rw [show frmE m=10 from if_neg h2],?_⟩
  rw [show frmT T p m=T from funext fun i=>if_neg h2]
  exact rst_quiet h g'
theorem rrdropped {w:World} {b:Nat} {U:Nat→Prop} {T:Nat→Ab} (h:RSt w b U T) (s:Int) :
  Calls Tryz.prog 62 #[.pointer (some ⟨b,0,none⟩),.int .i64 s] w fun e w'=>e=.returned (.int .i64 (drpV s T))∧w.grownBy w' none:=by
 by_cases ho:s<0∨8≤s
 ·refine (rdropped_out b s w ho).mono ?_
  rintro e w' ⟨rfl,g'⟩
  exact ⟨by rw [show drpV s T=0 from if_pos ho],g'⟩
 ·obtain ⟨i,rfl⟩:∃ i:Nat,s=(i:Int):=⟨s.toNat,by omega⟩
  have hi:i<8:=by omega
  obtain ⟨hl,N,R,hP,hU,hT⟩:=h
  refine (rdropped b i N R w hP hi).mono ?_
  rintro e w' ⟨rfl,g'⟩
  refine ⟨?_,g'⟩
  have e1:drpV (i:Int) T=((T i).d:Int):=by unfold drpV;rw [if_neg ho,Int.toNat_natCast]
  rw [e1,← hT i hi]
  rfl
theorem rrreceive {w:World} {b:Nat} {U:Nat→Prop} {T:Nat→Ab} (h:RSt w b U T) (s:Int) :
  Calls Tryz.prog 60 #[.pointer (some ⟨b,0,none⟩),.int .i64 s] w fun e w'=>∃ E l g T',RecR s T E l g T'∧e=.returned (.tuple #[.string (stOf l g),.int .i64 E])∧RSt w' b (Gr U w w') T'∧Fr U w w':=by
 by_cases ho:s<0∨8≤s
 ·refine (rreceive_out b s w ho).mono ?_
  rintro e w' ⟨rfl,g'⟩
  exact ⟨10,0,fun _=>0,T,Or.inl ⟨ho,rfl,rfl,rfl,rfl⟩,rfl,rst_quiet h g'⟩
 ·obtain ⟨i,rfl⟩:∃ i:Nat,s=(i:Int):=⟨s.toNat,by omega⟩
  have hi:i<8:=by omega
  have h0:=h
  obtain ⟨hl,N,R,hP,hU,hT⟩:=h
  have hTw:(T i).ws=(R i).ws:=by rw [← hT i hi];rfl
  cases hw:(R i).ws with
  | nil =>
   refine (rreceive_no b i N R w hP hi hw).mono ?_
   rintro e w' ⟨rfl,g'⟩
   exact ⟨12,0,fun _=>0,T,Or.inr ⟨by omega,by omega,Or.inl ⟨by rw [Int.toNat_natCast,hTw,hw],rfl,rfl,rfl,rfl⟩⟩,rfl,rst_quiet h0 g'⟩
  | cons p0 rest =>
   obtain ⟨l,g⟩:=p0
   refine (rreceive_ok b i N R (l,g) rest w hP hi hw).mono ?_
   rintro e w' ⟨rfl,wo,wc,hP',hA⟩
   refine ⟨0,l,g,_,Or.inr ⟨by omega,by omega,Or.inr ⟨rest,by rw [Int.toNat_natCast,hTw,hw],rfl,by rw [Int.toNat_natCast]⟩⟩,rfl,rst_step hP' hA hU hl (updR_ab hT ?_)⟩
   rw [← hT i hi]
   rfl
end Go.Proofs.YthbcfepbkkbjiaaGreatDoor
namespace Go.Proofs.YthbcfepbkkbjiaaGreatDoor
open Go.RowKit
def lab (own:Nat→Nat) (w w':World) (a:Nat):Nat→Nat:=fun k=>if w.heap.size≤k∧k<w'.heap.size then a else own k
theorem lab_old {own:Nat→Nat} {w w':World} {a k:Nat} (h:k<w.heap.size):lab own w w' a k=own k:=if_neg (by omega)
theorem lab_new {own:Nat→Nat} {w w':World} {a k:Nat} (h:w.heap.size≤k∧k<w'.heap.size):lab own w w' a k=a:=if_pos h
structure Ow (w0 w:World) (own:Nat→Nat):Prop where
 g:w0.grownBy w none
 lo:∀ k,own k≠0→w0.heap.size≤k
 hi:∀ k,own k≠0→k<w.heap.size
structure Lb (a b:Nat):Prop where
 a0:a≠0
 b0:b≠0
 ab:a≠b
 a5:a≠5
 b5:b≠5
 a6:a≠6
 b6:b≠6
structure PSt (w0 w:World) (own:Nat→Nat) (a b p r O:Nat) (T S:Nat→Ab) (t:Nat):Prop where
 ow:Ow w0 w own
 n:NSt w p (fun k=>own k=a) T
 r:RSt w r (fun k=>own k=b) S
 o:BSt w O (fun k=>own k=5) t
structure PStep (w w':World) (own own':Nat→Nat) (a b:Nat):Prop where
 size:w.heap.size≤w'.heap.size
 same:∀ k,k<w.heap.size→own k≠a→own k≠b→own k≠5→w'.heap[k]?=w.heap[k]?
 lab:∀ k,k<w.heap.size→own k≠a→own' k=own k
 mv:∀ k,k<w.heap.size→own k=a→own' k=a∨own' k=5∨own' k=0
 new:∀ k,w.heap.size≤k→own' k=0∨own' k=a∨own' k=b∨own' k=5
theorem pstep_refl {w0 w:World} {own:Nat→Nat} (h:Ow w0 w own) (a b:Nat):PStep w w own own a b :=
 ⟨Nat.le_refl _,fun _ _ _ _ _=>rfl,fun _ _ _=>rfl,fun _ _ h=>Or.inl h,fun k hk=>Or.inl (Classical.byContradiction fun hn=>by have:=h.hi k hn;omega)⟩
theorem PStep.trans {w w1 w':World} {own own1 own':Nat→Nat} {a b:Nat} (h:PStep w w1 own own1 a b) (h':PStep w1 w' own1 own' a b) (L:Lb a b):PStep w w' own own' a b:=by
 have key:∀ k,k<w.heap.size→own k≠a→own1 k=own k:=h.lab
 refine ⟨Nat.le_trans h.size h'.size,fun k hk h1 h2 h3=>?_,fun k hk h1=>?_,fun k hk h1=>?_,fun k hk=>?_⟩
 ·have e:=key k hk h1
  rw [h'.same k (Nat.lt_of_lt_of_le hk h.size) (by rw [e];exact h1) (by rw [e];exact h2) (by rw [e];exact h3),h.same k hk h1 h2 h3]
 ·have e:=key k hk h1
  rw [h'.lab k (Nat.lt_of_lt_of_le hk h.size) (by rw [e];exact h1),e]
 ·have hl:=Nat.lt_of_lt_of_le hk h.size
  rcases h.mv k hk h1 with e | e | e
  ·exact h'.mv k hl e
  ·rw [h'.lab k hl (by rw [e];exact fun x=>L.a5 x.symm)];exact Or.inr (Or.inl e)
  ·rw [h'.lab k hl (by rw [e];exact fun x=>L.a0 x.symm)];exact Or.inr (Or.inr e)
 ·by_cases hl:k<w1.heap.size
  ·by_cases ha:own1 k=a
   ·rcases h'.mv k hl ha with e | e | e
    ·exact Or.inr (Or.inl e)
    ·exact Or.inr (Or.inr (Or.inr e))
    ·exact Or.inl e
   ·rw [h'.lab k hl ha];exact h.new k hk
  ·exact h'.new k (by omega)
section
variable {w0 w w' ws:World} {own own0:Nat→Nat} {a b p r O t:Nat} {T S T':Nat→Ab}
theorem Ow.keep (h:Ow w0 w own) (g:w.grownBy w' none):Ow w0 w' own:=⟨grown_trans h.g g,h.lo,fun k hk=>Nat.lt_of_lt_of_le (h.hi k hk) g.size⟩
theorem PSt.keep (h:PSt w0 w own a b p r O T S t) (g:w.grownBy w' none):PSt w0 w' own a b p r O T S t:=⟨h.ow.keep g,h.n.keep g,h.r.keep g,h.o.keep g⟩
theorem PStep.keep (h:PStep ws w own0 own a b) (g:w.grownBy w' none):PStep ws w' own0 own a b :=
 ⟨Nat.le_trans h.size g.size,fun k hk h1 h2 h3=>(g.block k (Nat.lt_of_lt_of_le hk h.size) (by simp)).trans (h.same k hk h1 h2 h3),h.lab,h.mv,h.new⟩
theorem PSt.spoil (L:Lb a b) (h:PSt w0 w own a b p r O T S t) {H:Nat} (g:w.grownBy w' (some H)) (hH:w0.heap.size≤H) (h0:own H=0):PSt w0 w' own a b p r O T S t:=by
 have f:Fr (fun k=>k=H) w w':=⟨g.os,g.tape,g.output,g.size,fun k hk hu=>g.block k hk (fun e=>hu (Option.some.inj e))⟩
 have ne:∀ {c:Nat},c≠0→∀ k,own k=c→¬ k=H:=fun hc k hk e=>hc (by rw [← hk,e,h0])
 exact ⟨⟨grown_new none h.ow.g g hH,h.ow.lo,fun k hk=>Nat.lt_of_lt_of_le (h.ow.hi k hk) g.size⟩,h.n.frame f (ne L.a0),h.r.frame f (ne L.b0),h.o.frame f (ne (by decide))⟩
theorem PStep.spoil (h:PStep ws w own0 own a b) {H:Nat} (g:w.grownBy w' (some H)) (hH:ws.heap.size≤H):PStep ws w' own0 own a b :=
 ⟨Nat.le_trans h.size g.size,fun k hk h1 h2 h3=>(g.block k (Nat.lt_of_lt_of_le hk h.size) (fun e=>by have:=Option.some.inj e;omega)).trans (h.same k hk h1 h2 h3),h.lab,h.mv,h.new⟩
theorem Ow.op (h:Ow w0 w own) {c:Nat} (hF:Fr (fun k=>own k=c) w w') (hc:c≠0):Ow w0 w' (lab own w w' c):=by
 refine ⟨hF.grown h.g (fun k hk=>h.lo k (by rw [hk];exact hc)),fun k hk=>?_,fun k hk=>?_⟩
 ·by_cases hn:w.heap.size≤k∧k<w'.heap.size
  ·exact Nat.le_trans h.g.size hn.1
  ·exact h.lo k (by rwa [lab,if_neg hn] at hk)
 ·by_cases hn:w.heap.size≤k∧k<w'.heap.size
  ·exact hn.2
  ·exact Nat.lt_of_lt_of_le (h.hi k (by rwa [lab,if_neg hn] at hk)) hF.size
theorem lab_of (h:Ow w0 w own) {c c' k:Nat} (hc':c'≠0) (hk:own k=c'):lab own w w' c k=c':=by
 rw [lab_old (h.hi k (by rw [hk];exact hc'))];exact hk
theorem lab_gr (h:Ow w0 w own) {c k:Nat} (hc:c≠0) (hk:Gr (fun k=>own k=c) w w' k):lab own w w' c k=c:=by
 rcases hk with hk | hk
 ·exact lab_of h hc hk
 ·exact lab_new hk
theorem PSt.opN (L:Lb a b) (h:PSt w0 w own a b p r O T S t) (hN:NSt w' p (Gr (fun k=>own k=a) w w') T') (hF:Fr (fun k=>own k=a) w w'):PSt w0 w' (lab own w w' a) a b p r O T' S t:=by
 have ow:=h.ow.op hF L.a0
 exact ⟨ow,hN.more (fun k hk=>lab_gr h.ow L.a0 hk) (fun k hk=>ow.hi k (by rw [hk];exact L.a0)),
  (h.r.frame hF (fun k hk e=>L.ab (e.symm.trans hk))).more (fun k hk=>lab_of h.ow L.b0 hk) (fun k hk=>ow.hi k (by rw [hk];exact L.b0)),
  (h.o.frame hF (fun k hk e=>L.a5 (e.symm.trans hk))).more (fun k hk=>lab_of h.ow (by decide) hk) (fun k hk=>ow.hi k (by rw [hk];decide))⟩
theorem PSt.opR (L:Lb a b) (h:PSt w0 w own a b p r O T S t) (hN:RSt w' r (Gr (fun k=>own k=b) w w') T') (hF:Fr (fun k=>own k=b) w w'):PSt w0 w' (lab own w w' b) a b p r O T T' t:=by
 have ow:=h.ow.op hF L.b0
 exact ⟨ow,(h.n.frame hF (fun k hk e=>L.ab (hk.symm.trans e))).more (fun k hk=>lab_of h.ow L.a0 hk) (fun k hk=>ow.hi k (by rw [hk];exact L.a0)),
  hN.more (fun k hk=>lab_gr h.ow L.b0 hk) (fun k hk=>ow.hi k (by rw [hk];exact L.b0)),
  (h.o.frame hF (fun k hk e=>L.b5 (e.symm.trans hk))).more (fun k hk=>lab_of h.ow (by decide) hk) (fun k hk=>ow.hi k (by rw [hk];decide))⟩
theorem PStep.op (h:PStep ws w own0 own a b) {c:Nat} (hc:c=a∨c=b∨c=5) (hF:Fr (fun k=>own k=c) w w'):PStep ws w' own0 (Go.Proofs.YthbcfepbkkbjiaaGreatDoor.lab own w w' c) a b:=by
 have ol:∀ k,k<ws.heap.size→Go.Proofs.YthbcfepbkkbjiaaGreatDoor.lab own w w' c k=own k:=fun k hk=>lab_old (Nat.lt_of_lt_of_le hk h.size)
 refine ⟨Nat.le_trans h.size hF.size,fun k hk h1 h2 h3=>?_,fun k hk h1=>by rw [ol k hk];exact h.lab k hk h1,fun k hk h1=>by rw [ol k hk];exact h.mv k hk h1,fun k hk=>?_⟩
 ·have e:=h.lab k hk h1
  rw [hF.same k (Nat.lt_of_lt_of_le hk h.size) (fun hkc=>?_),h.same k hk h1 h2 h3]
  rw [e] at hkc
  rcases hc with rfl | rfl | rfl
  ·exact h1 hkc
  ·exact h2 hkc
  ·exact h3 hkc
 ·unfold Go.Proofs.YthbcfepbkkbjiaaGreatDoor.lab
  split
  ·rcases hc with rfl | rfl | rfl
   ·exact Or.inr (Or.inl rfl)
   ·exact Or.inr (Or.inr (Or.inl rfl))
   ·exact Or.inr (Or.inr (Or.inr rfl))
  ·exact h.new k hk
def give (own:Nat→Nat) (ao:Option Addr) (c:Nat):Nat→Nat:=fun k=>if own? ao=some k then c else own k
theorem give_ne {ao:Option Addr} {c k:Nat} (h:own? ao≠some k):give own ao c k=own k:=if_neg h
theorem give_at {ao:Option Addr} {c k:Nat} (h:own? ao=some k):give own ao c k=c:=if_pos h
theorem PSt.opRec (L:Lb a b) (h:PSt w0 w own a b p r O T S t) {ao:Option Addr} (hN:NSt w' p (fun k=>Gr (fun k=>own k=a) w w' k∧own? ao≠some k) T') (hU:∀ k,own? ao=some k→own k=a) (hF:Fr (fun k=>own k=a) w w'):PSt w0 w' (give (lab own w w' a) ao 0) a b p r O T' S t:=by
 have ow:=h.ow.op hF L.a0
 have gz:∀ {c k},c≠0→give (lab own w w' a) ao 0 k=c→lab own w w' a k=c∧own? ao≠some k:=fun {c k} hc hk=>by
  by_cases e:own? ao=some k
  ·rw [give_at e] at hk;exact absurd hk.symm hc
  ·exact ⟨by rwa [give_ne e] at hk,e⟩
 have ow':Ow w0 w' (give (lab own w w' a) ao 0):=⟨ow.g,fun k hk=>ow.lo k (fun e=>hk (by unfold give;split <;> first | rfl | exact e)),fun k hk=>ow.hi k (fun e=>hk (by unfold give;split <;> first | rfl | exact e))⟩
 have oth:∀ {c},c≠0→c≠a→∀ k,own k=c→give (lab own w w' a) ao 0 k=c:=fun {c} hc hca k hk=>by
  rw [give_ne (fun e=>hca (hk.symm.trans (hU k e)))]
  exact lab_of h.ow hc hk
 exact ⟨ow',hN.more (fun k hk=>by rw [give_ne hk.2];exact lab_gr h.ow L.a0 hk.1) (fun k hk=>ow'.hi k (by rw [hk];exact L.a0)),
  (h.r.frame hF (fun k hk e=>L.ab (e.symm.trans hk))).more (oth L.b0 (fun e=>L.ab e.symm)) (fun k hk=>ow'.hi k (by rw [hk];exact L.b0)),
  (h.o.frame hF (fun k hk e=>L.a5 (e.symm.trans hk))).more (oth (by decide) (fun e=>L.a5 e.symm)) (fun k hk=>ow'.hi k (by rw [hk];decide))⟩
theorem PStep.recv (h:PStep ws w own0 own a b) {ao:Option Addr} (hU:∀ k,own? ao=some k→own k=a) (hL:Lb a b) (hF:Fr (fun k=>own k=a) w w'):PStep ws w' own0 (give (Go.Proofs.YthbcfepbkkbjiaaGreatDoor.lab own w w' a) ao 0) a b:=by
 have h':=h.op (Or.inl rfl) hF
 refine ⟨h'.size,h'.same,fun k hk h1=>?_,fun k hk h1=>?_,fun k hk=>?_⟩
 ·rw [give_ne (fun e=>h1 ?_)]
  ·exact h'.lab k hk h1
  ·have e1:=hU k e
   have e2:=h.lab k hk h1
   rw [← e2];exact e1
 ·by_cases e:own? ao=some k
  ·rw [give_at e];exact Or.inr (Or.inr rfl)
  ·rw [give_ne e];exact h'.mv k hk h1
 ·by_cases e:own? ao=some k
  ·rw [give_at e];exact Or.inl rfl
  ·rw [give_ne e];exact h'.new k hk
theorem PSt.opTake (L:Lb a b) (h:PSt w0 w own a b p r O T S t) {ao:Option Addr} (hB:BSt w' O (fun k=>Gr (fun k=>own k=5) w w' k∨own? ao=some k) (t+1)) (h0:∀ k,own? ao=some k→own k=0∧k<w.heap.size∧w0.heap.size≤k) (hF:Fr (fun k=>own k=5∨own? ao=some k) w w'):PSt w0 w' (give (lab own w w' 5) ao 5) a b p r O T S (t+1):=by
 have ow':Ow w0 w' (give (lab own w w' 5) ao 5):=by
  refine ⟨hF.grown h.ow.g (fun k hk=>hk.elim (fun e=>h.ow.lo k (by rw [e];decide)) (fun e=>(h0 k e).2.2)),fun k hk=>?_,fun k hk=>?_⟩
  ·by_cases e:own? ao=some k
   ·exact (h0 k e).2.2
   ·rw [give_ne e] at hk
    by_cases hn:w.heap.size≤k∧k<w'.heap.size
    ·exact Nat.le_trans h.ow.g.size hn.1
    ·exact h.ow.lo k (by rwa [lab,if_neg hn] at hk)
  ·by_cases e:own? ao=some k
   ·exact Nat.lt_of_lt_of_le (h0 k e).2.1 hF.size
   ·rw [give_ne e] at hk
    by_cases hn:w.heap.size≤k∧k<w'.heap.size
    ·exact hn.2
    ·exact Nat.lt_of_lt_of_le (h.ow.hi k (by rwa [lab,if_neg hn] at hk)) hF.size
 have oth:∀ {c},c≠0→∀ k,own k=c→give (lab own w w' 5) ao 5 k=c:=fun {c} hc k hk=>by
  rw [give_ne (fun e=>hc (hk.symm.trans (h0 k e).1))]
  exact lab_of h.ow hc hk
 exact ⟨ow',(h.n.frame hF (fun k hk e=>e.elim (fun e=>L.a5 (hk.symm.trans e)) (fun e=>L.a0 (hk.symm.trans (h0 k e).1)))).more (oth L.a0) (fun k hk=>ow'.hi k (by rw [hk];exact L.a0)),
  (h.r.frame hF (fun k hk e=>e.elim (fun e=>L.b5 (hk.symm.trans e)) (fun e=>L.b0 (hk.symm.trans (h0 k e).1)))).more (oth L.b0) (fun k hk=>ow'.hi k (by rw [hk];exact L.b0)),
  hB.more (fun k hk=>by
   by_cases e:own? ao=some k
   ·exact give_at e
   ·rw [give_ne e];exact lab_gr h.ow (by decide) (hk.resolve_right e)) (fun k hk=>ow'.hi k (by rw [hk];decide))⟩
theorem PStep.take (h:PStep ws w own0 own a b) {ao:Option Addr} (hm:∀ k,own? ao=some k→k<ws.heap.size→own0 k=a) (hF:Fr (fun k=>own k=5∨own? ao=some k) w w'):PStep ws w' own0 (give (Go.Proofs.YthbcfepbkkbjiaaGreatDoor.lab own w w' 5) ao 5) a b:=by
 have ol:∀ k,k<ws.heap.size→Go.Proofs.YthbcfepbkkbjiaaGreatDoor.lab own w w' 5 k=own k:=fun k hk=>lab_old (Nat.lt_of_lt_of_le hk h.size)
 refine ⟨Nat.le_trans h.size hF.size,fun k hk h1 h2 h3=>?_,fun k hk h1=>?_,fun k hk h1=>?_,fun k hk=>?_⟩
 ·have e:=h.lab k hk h1
  rw [hF.same k (Nat.lt_of_lt_of_le hk h.size) (fun hkc=>?_),h.same k hk h1 h2 h3]
  rcases hkc with hkc | hkc
  ·rw [e] at hkc;exact h3 hkc
  ·exact h1 (hm k hkc hk)
 ·rw [give_ne (fun e=>h1 (hm k e hk)),ol k hk];exact h.lab k hk h1
 ·by_cases e:own? ao=some k
  ·rw [give_at e];exact Or.inr (Or.inl rfl)
  ·rw [give_ne e,ol k hk];exact h.mv k hk h1
 ·by_cases e:own? ao=some k
  ·rw [give_at e];exact Or.inr (Or.inr (Or.inr rfl))
  ·rw [give_ne e]
   unfold Go.Proofs.YthbcfepbkkbjiaaGreatDoor.lab
   split
   ·exact Or.inr (Or.inr (Or.inr rfl))
   ·exact h.new k hk
end
end Go.Proofs.YthbcfepbkkbjiaaGreatDoor
