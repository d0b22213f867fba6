import Derived.Test.YthbcfepbkkbjiaaGreatDoorISF
set_option linter.unusedSimpArgs false
set_option linter.unusedVariables false
set_option maxRecDepth 100000
namespace Go.Proofs.YthbcfepbkkbjiaaGreatDoor
open Go.RowKit
theorem neq_err0 (w:World):(binOp .neq 117 .nilIface .nilIface).run Tryz.prog w=.ok (.bool false) w:=by
 have h:∀ d:Nat,(Op.equalIn (d+1) 117 .nilIface .nilIface).run Tryz.prog w=.ok true w:=fun d=>by simp [Op.equalIn,run_underlying Tryz.underlying117]
 simp only [binOp]
 simp [Op.equal,Op.maxDepth,h 9999]
theorem neq_err1 (w:World) (tp:TypeId) (v:Value):(binOp .neq 117 (.iface tp v) .nilIface).run Tryz.prog w=.ok (.bool true) w:=by
 have h:∀ d:Nat,(Op.equalIn (d+1) 117 (.iface tp v) .nilIface).run Tryz.prog w=.ok false w:=fun d=>by simp [Op.equalIn,run_underlying Tryz.underlying117]
 simp only [binOp]
 simp [Op.equal,Op.maxDepth,h 9999]
def so0:So:=⟨.nilIface,0,fun _=>0,0,none,0,[],0⟩
theorem so0_ok (w:World):SoOk w so0 :=
 ⟨Or.inl ⟨rfl,rfl⟩,⟨rfl,Or.inl ⟨rfl,rfl⟩⟩,by decide,fun p hp=>(by cases hp),fun h=>absurd rfl h,fun h=>absurd rfl h,fun p hp=>(by cases hp),List.Pairwise.nil⟩
theorem so0_uses (k:Nat):¬ so0.uses k:=fun h=>by
 rcases h with ⟨h,_⟩ | h | ⟨p,hp,_⟩
 ·exact h rfl
 ·cases h
 ·cases hp
def net0:Array Value:=#[.nilIface,.slice none 0 0,.int .i64 0,.nilIface,.slice none 0 0,.int .i64 0,.nilIface,.slice none 0 0,.int .i64 0,.nilIface,.slice none 0 0,.int .i64 0,.nilIface,.slice none 0 0,.int .i64 0,.nilIface,.slice none 0 0,.int .i64 0,.nilIface,.slice none 0 0,.int .i64 0,.nilIface,.slice none 0 0,.int .i64 0]
theorem net0_at (j:Nat) (hj:j<24):net0.getD j .nilFunc=so0.cell (j%3):=by
 match j,hj with
 | 0,_=>rfl
 | 1,_=>rfl
 | 2,_=>rfl
 | 3,_=>rfl
 | 4,_=>rfl
 | 5,_=>rfl
 | 6,_=>rfl
 | 7,_=>rfl
 | 8,_=>rfl
 | 9,_=>rfl
 | 10,_=>rfl
 | 11,_=>rfl
 | 12,_=>rfl
 | 13,_=>rfl
 | 14,_=>rfl
 | 15,_=>rfl
 | 16,_=>rfl
 | 17,_=>rfl
 | 18,_=>rfl
 | 19,_=>rfl
 | 20,_=>rfl
 | 21,_=>rfl
 | 22,_=>rfl
 | 23,_=>rfl
 | n+24,h=>exact absurd h (by omega)
theorem net_new (w:World):PNet (w.alloc (.cells net0 100)) w.heap.size (fun _=>so0) :=
 ⟨(blk_new w net0 100).congr fun j hj=>net0_at j hj,fun _ _=>so0_ok _,fun _ _=>so0_uses _,fun _ _ _ _ _ _ h=>absurd h (so0_uses _)⟩
set_option maxHeartbeats 1000000 in
theorem gnew_any (w:World):Calls Tryz.prog 22 #[] w fun e w'=>e=.returned (.pointer (some ⟨w.heap.size,0,none⟩))∧PNet w' w.heap.size (fun _=>so0)∧w.grownBy w' none:=by
 go_enter Tryz.func22,Tryz.ntmps22
 go_wp2
 go_ret
 exact ⟨rfl,net_new w,World.grownBy_alloc w _ none⟩
def So.fil (s:So) (fv:Value) (fb:Nat) (q:Nat→Int) (n:Nat):So:=⟨fv,fb,q,n,s.wo,s.wc,s.ws,s.d⟩
theorem fil_turn {w w2:World} {b i fb n:Nat} {S:Nat→So} {fv:Value} {q:Nat→Int} (H:PNet w b S) (hi:i<8) (g2:w.grownBy w2 none) (hf:FilOk w2 ((S i).fil fv fb q n)) (hn:n≠0→w.heap.size≤fb∧fb<w2.heap.size) :
  PNet (w2.setCell ⟨b,i*3,none⟩ fv) b (updS S i ((S i).fil fv fb q n))∧Apart w (w2.setCell ⟨b,i*3,none⟩ fv) b S i ((S i).fil fv fb q n):=by
 have hS:=H.s i hi
 have hb:=H.m.lt
 have hz:=g2.size
 have step:∀ (v:Value) k,k≠b→(w2.setCell ⟨b,i*3,none⟩ v).heap[k]?=w2.heap[k]?:=fun v k hkb=>Below.heap_setCell _ _ _ _ hkb
 have hB:=blk_turn (s:=(S i).fil fv fb q n) (v:=fv) (H.m.keep g2 (by simp)) hi (j:=0) (by omega) (by simp [So.cell,So.fil]) (fun j' h1 h2=>by
  match j',h1,h2 with
  | 0,h1,_=>exact absurd rfl h1
  | 1,_,_=>rfl
  | 2,_,_=>rfl)
 rw [Nat.add_zero] at hB
 have hu:∀ k,((S i).fil fv fb q n).uses k→(S i).uses k∨w.heap.size≤k:=fun k hk=>by
  rcases hk with ⟨h0,hk⟩ | hk | hk
  ·have:=hn h0
   have e:fb=k:=hk
   exact Or.inr (by omega)
  ·exact Or.inl (Or.inr (Or.inl hk))
  ·exact Or.inl (Or.inr (Or.inr hk))
 have hsame:∀ k,k<w.heap.size→k≠b→(w2.setCell ⟨b,i*3,none⟩ fv).heap[k]?=w.heap[k]?:=fun k hk hkb=>(step _ k hkb).trans (g2.block k hk (by simp))
 refine ⟨H.turn hi hB ?_ (fun k hk hkb _=>hsame k hk hkb) hu,g2.os,g2.tape,g2.output,by simp [World.setCell];omega,fun k hk hkb _=>hsame k hk hkb,hu⟩
 have hS2:∀ k,(S i).uses k→(w2.setCell ⟨b,i*3,none⟩ fv).heap[k]?=w.heap[k]?:=fun k hk=>hsame k (hS.lt hk) (fun e=>H.nb i hi (e ▸ hk))
 refine ⟨?_,owns_same hS.o fun k hk=>hS2 k (Or.inr (Or.inl hk)),hS.four,fun p hp=>⟨(hS.p p hp).1.same fun k hk=>hS2 k (Or.inr (Or.inr ⟨p,hp,hk⟩)),(hS.p p hp).2⟩,fun h0 e=>?_,fun h0 p hp e=>?_,hS.op,hS.pp⟩
 ·rcases hf with h1 | ⟨h0,h1,h2,h3⟩
  ·exact Or.inl h1
  ·have hfb:=hn h0
   have e:=step fv fb (by omega)
   refine Or.inr ⟨h0,h1,h2,?_⟩
   rcases h3 with ⟨h3,h4⟩ | ⟨cap,h3,h4,h5⟩
   ·exact Or.inl ⟨h3,h4.same e⟩
   ·exact Or.inr ⟨cap,h3,h4,h5.same e⟩
 ·have h1:=hS.lt (Or.inr (Or.inl e):(S i).uses fb)
  have:=hn h0
  omega
 ·have h1:=hS.lt (Or.inr (Or.inr ⟨p,hp,e⟩):(S i).uses fb)
  have:=hn h0
  omega
set_option maxHeartbeats 1000000 in
theorem checked_new (b off j c:Nat) (g:Nat→Int) (tb:TypeId) (pb:Value) (w:World) (h1:1≤j) (hj:j≤256) (hc:8*j≤c) (hg:Oct g) (hR:Row w .u8 b off (8*j) g) (hl:Laid w tb pb) (hok:Chk g (8*j) 0 0) :
  Calls Tryz.prog 42 #[.slice (some ⟨b,off,none⟩) (8*j:Nat) c] w fun e w'=>∃ B,e=.returned (.tuple #[.slice (some ⟨B,0,none⟩) j j,.int .i64 0])∧w.heap.size≤B∧Row w' .i64 B 0 (4*j) (decs g)∧w.grownBy w' none:=by
 have HO:Hid (Chk g (8*j) 0 0):=hok
 have HS:Src w .u8 (some ⟨b,off,none⟩) (8*j) g:=fun _=>⟨b,off,rfl,hR⟩
 clear hok
 go_enter Tryz.func42,Tryz.ntmps42
 go_wp2_with (first | (go_at_call 35;refine (check_any _ (8*j) c g tb pb w (by unfold maxLen;omega) hc hg HS hl).mono ?_;rintro e w1 ⟨⟨E,k,rfl,hC⟩,hg1⟩;obtain ⟨rfl,rfl⟩:=hC.one HO.out) | (go_at_call 63;refine (decode_good b off j c g w1 h1 hj hc hg (hR.keep hg1 (by simp))).mono ?_;rintro e w2 ⟨B,rfl,hB,hg2,hb⟩))
 go_ret2
 exact ⟨B,rfl,Nat.le_trans hg1.size hB,fun j hj=>(by rw [Nat.zero_add];exact hb.cell (by omega)),grown_trans hg1 hg2⟩
set_option maxHeartbeats 1000000 in
theorem sattach (b i B j:Nat) (S:Nat→So) (q:Nat→Int) (comp:Bool) (w w1:World) (h:PNet w b S) (hi:i<8) (h1:1≤j) (hj:j≤256) (hG:Good q j) (g1:w.grownBy w1 none) (hB:w.heap.size≤B) (hR:Row w1 .i64 B 0 (4*j) q) :
  Calls Tryz.prog 88 #[.pointer (some ⟨b,i*3,none⟩),.slice (some ⟨B,0,none⟩) j j,.bool comp] w1 fun e w'=>e=.returned (.tuple #[])∧∃ fv fb,PNet w' b (updS S i ((S i).fil fv fb q j))∧Apart w w' b S i ((S i).fil fv fb q j):=by
 have h':=h.keep g1
 obtain ⟨c0,c1,c2⟩:=h'.cells hi
 have z0:=h'.m.frozen (i*3)
 have hBl:=row_ltb hR (by omega)
 cases comp with
 | false =>
  have HT:Hid (PNet (w1.setCell ⟨b,i*3,none⟩ (.iface 238 (.slice (some ⟨B,0,none⟩) j j))) b (updS S i ((S i).fil (.iface 238 (.slice (some ⟨B,0,none⟩) j j)) B q j))∧Apart w (w1.setCell ⟨b,i*3,none⟩ (.iface 238 (.slice (some ⟨B,0,none⟩) j j))) b S i ((S i).fil (.iface 238 (.slice (some ⟨B,0,none⟩) j j)) B q j)):=fil_turn h hi g1 (Or.inr ⟨by show j≠0;omega,hj,hG,Or.inl ⟨rfl,hR⟩⟩) (fun _=>⟨hB,hBl⟩)
  clear h h' hR hG
  go_enter Tryz.func88,Tryz.ntmps88
  go_wp2_with (go_at_call 120;refine (newJudge_list B j _).mono ?_;rintro e w2 ⟨rfl,rfl⟩)
  go_end0
  exact ⟨rfl,_,_,HT.out⟩
 | true =>
  have HN:Hid (Calls Tryz.prog 120 #[.slice (some ⟨B,0,none⟩) j j,.bool true] w1 fun e w'=>∃ C cap,e=.returned (.iface 237 (.slice (some ⟨C,0,none⟩) (start q j) cap))∧start q j≤cap∧w1.heap.size≤C∧Blk w' C 5 cap (start q j) (ints .u8 (codeF q j))∧w1.grownBy w' none):=newJudge_code B j q w1 hj hR hG
  have HT:Hid (∀ C cap w2,start q j≤cap→w1.heap.size≤C→Blk w2 C 5 cap (start q j) (ints .u8 (codeF q j))→w1.grownBy w2 none→PNet (w2.setCell ⟨b,i*3,none⟩ (.iface 237 (.slice (some ⟨C,0,none⟩) (start q j) cap))) b (updS S i ((S i).fil (.iface 237 (.slice (some ⟨C,0,none⟩) (start q j) cap)) C q j))∧Apart w (w2.setCell ⟨b,i*3,none⟩ (.iface 237 (.slice (some ⟨C,0,none⟩) (start q j) cap))) b S i ((S i).fil (.iface 237 (.slice (some ⟨C,0,none⟩) (start q j) cap)) C q j)):=fun C cap w2 hc hC hb g2 =>
   fil_turn h hi (grown_trans g1 g2) (Or.inr ⟨by show j≠0;omega,hj,hG,Or.inr ⟨cap,rfl,hc,fun x hx=>by rw [Nat.zero_add];exact hb.cell hx⟩⟩) (fun _=>⟨Nat.le_trans g1.size hC,hb.lt⟩)
  have HP:Hid (PNet w1 b S):=h'
  clear h h' hR hG
  generalize start q j=N at *
  generalize codeF q j=K at *
  go_enter Tryz.func88,Tryz.ntmps88
  go_wp2_with (go_at_call 120;refine HN.out.mono ?_;rintro e w2 ⟨C,cap,rfl,hc,hC,hb,g2⟩;have y0:=(HP.out.keep g2).m.frozen (i*3);obtain ⟨d0,d1,d2⟩:=(HP.out.keep g2).cells hi)
  go_end0
  exact ⟨rfl,_,_,HT.out C cap w2 hc hC hb g2⟩
end Go.Proofs.YthbcfepbkkbjiaaGreatDoor
namespace Go.Proofs.YthbcfepbkkbjiaaGreatDoor
open Go.RowKit
set_option maxHeartbeats 1000000 in
theorem gattach_out (b:Nat) (s:Int) (fv cv:Value) (a1 a2 a3 a4:Addr) (w:World) (hs:Sent w a1 a2 a3 a4) (h:s<0∨8≤s) :
  Calls Tryz.prog 52 #[.pointer (some ⟨b,0,none⟩),.int .i64 s,fv,cv] w fun e w'=>e=.returned (.int .i64 10)∧w.grownBy w' none:=by
 have HF:Hid (Calls Tryz.prog 86 #[.pointer (some ⟨b,0,none⟩),.int .i64 s] w fun e w'=>e=.returned (.tuple #[.pointer none,.iface 279 (.pointer (some a1))])∧w.grownBy w' none):=find_no b s a1 a2 a3 a4 w hs h
 have HS:Hid (Sent w a1 a2 a3 a4):=hs
 have n1:=neq_err1
 clear hs
 go_enter Tryz.func52,Tryz.ntmps52
 go_wp2_with (first | (go_at_call 86;refine HF.out.mono ?_;rintro e w1 ⟨rfl,hg1⟩) | (go_at_call 87;refine (errno_a a1 a2 a3 a4 _ (HS.out.keep hg1)).mono ?_;rintro e w2 ⟨rfl,rfl⟩))
 go_ret
 exact ⟨rfl,hg1⟩
set_option maxHeartbeats 1000000 in
theorem gattach_no (b i:Nat) (ao:Option Addr) (n c:Nat) (g:Nat→Int) (cv:Value) (tb:TypeId) (pb:Value) (w:World) (hi:i<8) (hn:n≤maxLen) (hc:n≤c) (hg:Oct g) (hs:Src w .u8 ao n g) (hl:Laid w tb pb) (hno:¬ Chk g n 0 0) :
  Calls Tryz.prog 52 #[.pointer (some ⟨b,0,none⟩),.int .i64 i,.slice ao n c,cv] w fun e w'=>(∃ E k,e=.returned (.int .i64 E)∧E≠0∧Chk g n E k)∧w.grownBy w' none:=by
 have HF:Hid (Calls Tryz.prog 86 #[.pointer (some ⟨b,0,none⟩),.int .i64 i] w fun e w'=>e=.returned (.tuple #[.pointer (some ⟨b,i*3,none⟩),.nilIface])∧w'=w):=find_ok b i w hi
 have HC:Hid (Calls Tryz.prog 42 #[.slice ao n c] w fun e w'=>∃ E k,e=.returned (.tuple #[.slice none 0 0,.int .i64 E])∧E≠0∧Chk g n E k∧w.grownBy w' none):=checked_no ao n c g tb pb w hn hc hg hs hl hno
 have n0:=neq_err0
 clear hs hl hno
 go_enter Tryz.func52,Tryz.ntmps52
 go_wp2_with (first | (go_at_call 86;refine HF.out.mono ?_;rintro e w1 ⟨rfl,rfl⟩) | (go_at_call 42;refine HC.out.mono ?_;rintro e w2 ⟨E,k,rfl,hE,hK,hg2⟩;have hE':(E != 0)=true:=(by simpa using hE)))
 go_ret
 exact ⟨⟨E,k,rfl,hE,hK⟩,hg2⟩
set_option maxHeartbeats 1000000 in
theorem gattach_ok (b i fb off j c:Nat) (g:Nat→Int) (comp:Bool) (S:Nat→So) (tb:TypeId) (pb:Value) (w:World) (h:PNet w b S) (hi:i<8) (h1:1≤j) (hj:j≤256) (hc:8*j≤c) (hg:Oct g) (hR:Row w .u8 fb off (8*j) g) (hl:Laid w tb pb) (hok:Chk g (8*j) 0 0) :
  Calls Tryz.prog 52 #[.pointer (some ⟨b,0,none⟩),.int .i64 i,.slice (some ⟨fb,off,none⟩) (8*j:Nat) c,.bool comp] w fun e w'=>e=.returned (.int .i64 0)∧∃ fv fb',PNet w' b (updS S i ((S i).fil fv fb' (decs g) j))∧NApart w w' b S (updS S i ((S i).fil fv fb' (decs g) j)):=by
 have hG:Good (decs g) j:=by
  have:=(chk_good hg hok).2
  rwa [show 8*j/8=j by omega] at this
 have HF:Hid (Calls Tryz.prog 86 #[.pointer (some ⟨b,0,none⟩),.int .i64 i] w fun e w'=>e=.returned (.tuple #[.pointer (some ⟨b,i*3,none⟩),.nilIface])∧w'=w):=find_ok b i w hi
 have HC:Hid (Calls Tryz.prog 42 #[.slice (some ⟨fb,off,none⟩) (8*j:Nat) c] w fun e w'=>∃ B,e=.returned (.tuple #[.slice (some ⟨B,0,none⟩) j j,.int .i64 0])∧w.heap.size≤B∧Row w' .i64 B 0 (4*j) (decs g)∧w.grownBy w' none):=checked_new fb off j c g tb pb w h1 hj hc hg hR hl hok
 have HA:Hid (∀ B w1,w.heap.size≤B→Row w1 .i64 B 0 (4*j) (decs g)→w.grownBy w1 none→Calls Tryz.prog 88 #[.pointer (some ⟨b,i*3,none⟩),.slice (some ⟨B,0,none⟩) j j,.bool comp] w1 fun e w'=>e=.returned (.tuple #[])∧∃ fv fb',PNet w' b (updS S i ((S i).fil fv fb' (decs g) j))∧Apart w w' b S i ((S i).fil fv fb' (decs g) j)):=fun B w1 hB hR1 g1=>sattach b i B j S (decs g) comp w w1 h hi h1 hj hG g1 hB hR1
 have n0:=neq_err0
 clear h hR hl hok hG
 go_enter Tryz.func52,Tryz.ntmps52
 go_wp2_with (first | (go_at_call 86;refine HF.out.mono ?_;rintro e w1 ⟨rfl,rfl⟩) | (go_at_call 42;refine HC.out.mono ?_;rintro e w2 ⟨B,rfl,hB,hR2,hg2⟩) | (go_at_call 88;refine (HA.out B w2 hB hR2 hg2).mono ?_;rintro e w3 ⟨rfl,fv,fb',hP,hA⟩))
 go_ret
 exact ⟨rfl,fv,fb',hP,hA.net hi⟩
theorem sdetach_no (b i:Nat) (S:Nat→So) (a1 a2 a3 a4:Addr) (w:World) (h:PNet w b S) (hs:Sent w a1 a2 a3 a4) (hi:i<8) (h0:(S i).n=0) :
  Calls Tryz.prog 90 #[.pointer (some ⟨b,i*3,none⟩)] w fun e w'=>e=.returned (.iface 279 (.pointer (some a3)))∧w.grownBy w' none:=by
 obtain ⟨c0,c1,c2⟩:=h.cells hi
 have hv:(S i).fv=.nilIface:=by
  rcases (h.s i hi).f with ⟨_,h1⟩ | ⟨h1,_⟩
  ·exact h1
  ·exact absurd h0 h1
 rw [hv] at c0
 obtain ⟨ga,gb,gc,gd,_,_,_,_,_,_,_,_,_,_⟩:=hs
 have e0:=eql_judge0
 clear h
 go_enter Tryz.func90,Tryz.ntmps90
 go_wp2
 go_ret
 exact ⟨rfl,grown_refl _ _⟩
theorem sdetach_ok (b i:Nat) (S:Nat→So) (w:World) (h:PNet w b S) (hi:i<8) (h0:(S i).n≠0) :
  Calls Tryz.prog 90 #[.pointer (some ⟨b,i*3,none⟩)] w fun e w'=>e=.returned .nilIface∧PNet w' b (updS S i ((S i).fil .nilIface 0 (fun _=>0) 0))∧Apart w w' b S i ((S i).fil .nilIface 0 (fun _=>0) 0):=by
 obtain ⟨c0,c1,c2⟩:=h.cells hi
 have z0:=h.m.frozen (i*3)
 obtain ⟨T,v,hv⟩:∃ T v,(S i).fv=.iface T v:=by
  rcases (h.s i hi).f with ⟨h1,_⟩ | ⟨_,_,_,⟨h1,_⟩ | ⟨_,h1,_⟩⟩
  ·exact absurd h1 h0
  ·exact ⟨_,_,h1⟩
  ·exact ⟨_,_,h1⟩
 rw [hv] at c0
 have e0:=eql_judge
 have HT:Hid (PNet (w.setCell ⟨b,i*3,none⟩ .nilIface) b (updS S i ((S i).fil .nilIface 0 (fun _=>0) 0))∧Apart w (w.setCell ⟨b,i*3,none⟩ .nilIface) b S i ((S i).fil .nilIface 0 (fun _=>0) 0)):=fil_turn h hi (grown_refl w none) (Or.inl ⟨rfl,rfl⟩) (fun h=>absurd rfl h)
 clear h
 go_enter Tryz.func90,Tryz.ntmps90
 go_wp2
 go_ret
 exact ⟨rfl,HT.out⟩
theorem sdropped (b i:Nat) (S:Nat→So) (w:World) (h:PNet w b S) (hi:i<8) :
  Calls Tryz.prog 93 #[.pointer (some ⟨b,i*3,none⟩)] w fun e w'=>e=.returned (.int .i64 (S i).d)∧w'=w:=by
 obtain ⟨c0,c1,c2⟩:=h.cells hi
 clear h
 go_enter Tryz.func93,Tryz.ntmps93
 go_wp2
 go_ret
 exact ⟨rfl,rfl⟩
end Go.Proofs.YthbcfepbkkbjiaaGreatDoor
namespace Go.Proofs.YthbcfepbkkbjiaaGreatDoor
open Go.RowKit
theorem pkv_one (l:List Pk):∀ u ∈ l.map Pk.v,u.oneCell'=true:=fun u hu=>by
 obtain ⟨p,_,rfl⟩:=List.mem_map.1 hu;rfl
theorem del_turn {w w1:World} {b i W:Nat} {S:Nat→So} {p0:Pk} {rest:List Pk} (H:PNet w b S) (hi:i<8) (hws:(S i).ws=p0::rest) (hwo:(S i).wo=some ⟨W,0,none⟩)
  (ho:w1.ownsRow 0 25 1 (.slice (some ⟨W,0,none⟩) rest.length (S i).wc) rest.length (rest.map Pk.v)) (hg:w.grownBy w1 (some W)) :
  PNet (w1.setCell ⟨b,i*3+1,none⟩ (.slice (some ⟨W,0,none⟩) rest.length (S i).wc)) b (updS S i ((S i).wait (some ⟨W,0,none⟩) (S i).wc rest))∧Apart w (w1.setCell ⟨b,i*3+1,none⟩ (.slice (some ⟨W,0,none⟩) rest.length (S i).wc)) b S i ((S i).wait (some ⟨W,0,none⟩) (S i).wc rest) ∧
  Held (w1.setCell ⟨b,i*3+1,none⟩ (.slice (some ⟨W,0,none⟩) rest.length (S i).wc)) 5 1 p0.a p0.l p0.c (ints .u8 p0.g)∧(∀ k,own? p0.a=some k→¬ netUses b (updS S i ((S i).wait (some ⟨W,0,none⟩) (S i).wc rest)) k):=by
 have hS:=H.s i hi
 have hb:=H.m.lt
 have hz:=hg.size
 have hW:own? (S i).wo=some W:=by rw [hwo];rfl
 have hWb:W≠b:=fun e=>H.nb i hi (Or.inr (Or.inl (e ▸ hW)))
 have mem0:p0 ∈ (S i).ws:=by rw [hws];simp
 have memr:∀ p,p ∈ rest→p ∈ (S i).ws:=fun p hp=>by rw [hws];simp [hp]
 have hpp:=hS.pp
 rw [hws] at hpp
 obtain ⟨hp0,hpr⟩:=List.pairwise_cons.1 hpp
 have step:∀ (v:Value) k,k<w.heap.size→k≠b→k≠W→(w1.setCell ⟨b,i*3+1,none⟩ v).heap[k]?=w.heap[k]?:=fun v k hk hkb hkw=>by
  rw [Below.heap_setCell _ _ _ _ hkb,hg.block k hk (fun e=>hkw (Option.some.inj e))]
 have hB:=blk_turn (s:=(S i).wait (some ⟨W,0,none⟩) (S i).wc rest) (v:=.slice (some ⟨W,0,none⟩) rest.length (S i).wc) (H.m.keep hg (fun e=>hWb (Option.some.inj e).symm)) hi (j:=1) (by omega) (by simp [So.cell,So.wait]) (fun j' h1 h2=>by
  match j',h1,h2 with
  | 0,_,_=>rfl
  | 1,h1,_=>exact absurd rfl h1
  | 2,_,_=>rfl)
 have hu:∀ k,((S i).wait (some ⟨W,0,none⟩) (S i).wc rest).uses k→(S i).uses k:=fun k hk=>by
  rcases hk with hk | hk | ⟨p,hp,hk⟩
  ·exact Or.inl hk
  ·exact Or.inr (Or.inl (hW.trans hk))
  ·exact Or.inr (Or.inr ⟨p,memr p hp,hk⟩)
 have hsame:∀ k,k<w.heap.size→k≠b→¬ (S i).uses k→(w1.setCell ⟨b,i*3+1,none⟩ (.slice (some ⟨W,0,none⟩) rest.length (S i).wc)).heap[k]?=w.heap[k]?:=fun k hk hkb hku=>step _ k hk hkb (fun e=>hku (Or.inr (Or.inl (e ▸ hW))))
 have hl:=hS.four
 rw [hws] at hl
 refine ⟨H.turn hi hB ?_ hsame (fun k hk=>Or.inl (hu k hk)),⟨hg.os,hg.tape,hg.output,by simp [World.setCell];omega,hsame,fun k hk=>Or.inl (hu k hk)⟩,?_,?_⟩
 ·refine ⟨?_,?_,by simp at hl;show rest.length≤4;omega,?_,hwo ▸ hS.fo,fun h0 p hp=>hS.fp h0 p (memr p hp),fun p hp k hk=>hwo ▸ hS.op p (memr p hp) k hk,hpr⟩
  ·have:FilOk w (S i)→FilOk (w1.setCell ⟨b,i*3+1,none⟩ (.slice (some ⟨W,0,none⟩) rest.length (S i).wc)) (S i):=fun hf'=>by
    rcases hf' with h1 | ⟨h0,h1,h2,h3⟩
    ·exact Or.inl h1
    ·have e:=step (.slice (some ⟨W,0,none⟩) rest.length (S i).wc) (S i).fb (hS.lt (Or.inl ⟨h0,rfl⟩)) (fun e=>H.nb i hi (Or.inl ⟨h0,e⟩)) (fun e=>hS.fo h0 (e ▸ hW))
     refine Or.inr ⟨h0,h1,h2,?_⟩
     rcases h3 with ⟨h3,h4⟩ | ⟨cap,h3,h4,h5⟩
     ·exact Or.inl ⟨h3,h4.same e⟩
     ·exact Or.inr ⟨cap,h3,h4,h5.same e⟩
   exact this hS.f
  ·exact owns_same ho fun k hk=>by cases hk;exact Below.heap_setCell _ _ _ _ hWb
  ·intro p hp
   have hp':=memr p hp
   exact ⟨(hS.p p hp').1.same fun k hk=>step _ k (hS.lt (Or.inr (Or.inr ⟨p,hp',hk⟩))) (fun e=>H.nb i hi (Or.inr (Or.inr ⟨p,hp',e ▸ hk⟩))) (fun e=>hS.op p hp' k hk (e ▸ hW)),(hS.p p hp').2⟩
 ·exact (hS.p p0 mem0).1.same fun k hk=>step _ k (hS.lt (Or.inr (Or.inr ⟨p0,mem0,hk⟩))) (fun e=>H.nb i hi (Or.inr (Or.inr ⟨p0,mem0,e ▸ hk⟩))) (fun e=>hS.op p0 mem0 k hk (e ▸ hW))
 ·intro k hk hu'
  have huse:(S i).uses k:=Or.inr (Or.inr ⟨p0,mem0,hk⟩)
  rcases hu' with e | ⟨j,hj,hjk⟩
  ·exact H.nb i hi (e ▸ huse)
  ·by_cases e:j=i
   ·subst e
    rw [updS_at] at hjk
    rcases hjk with ⟨h0,hf⟩ | hw | ⟨p,hp,hpk⟩
    ·exact hS.fp h0 p0 mem0 (hk.trans (congrArg some hf.symm))
    ·exact hS.op p0 mem0 k hk (hW.trans hw)
    ·exact hp0 p hp k hk hpk
   ·rw [updS_ne _ _ _ e] at hjk
    exact H.ij i j hi hj (fun e'=>e e'.symm) k huse hjk
theorem sreceive_no (b i:Nat) (S:Nat→So) (a1 a2 a3 a4:Addr) (w:World) (h:PNet w b S) (hs:Sent w a1 a2 a3 a4) (hi:i<8) (h0:(S i).ws=[]) :
  Calls Tryz.prog 92 #[.pointer (some ⟨b,i*3,none⟩)] w fun e w'=>e=.returned (.tuple #[.slice none 0 0,.iface 279 (.pointer (some a4))])∧w.grownBy w' none:=by
 obtain ⟨c0,c1,c2⟩:=h.cells hi
 rw [h0] at c1
 obtain ⟨ga,gb,gc,gd,_,_,_,_,_,_,_,_,_,_⟩:=hs
 clear h
 go_enter Tryz.func92,Tryz.ntmps92
 go_wp2
 go_quiet (fail)
 go_wp2
 go_ret2
 exact ⟨rfl,grown_drewN _ _ _⟩
set_option maxHeartbeats 1000000 in
theorem sreceive_ok (b i:Nat) (S:Nat→So) (p0:Pk) (rest:List Pk) (w:World) (h:PNet w b S) (hi:i<8) (h0:(S i).ws=p0::rest) :
  Calls Tryz.prog 92 #[.pointer (some ⟨b,i*3,none⟩)] w fun e w'=>e=.returned (.tuple #[.slice p0.a p0.l p0.c,.nilIface])∧∃ wo wc,PNet w' b (updS S i ((S i).wait wo wc rest))∧Apart w w' b S i ((S i).wait wo wc rest) ∧
   Held w' 5 1 p0.a p0.l p0.c (ints .u8 p0.g)∧(∀ k,own? p0.a=some k→¬ netUses b (updS S i ((S i).wait wo wc rest)) k):=by
 obtain ⟨c0,c1,c2⟩:=h.cells hi
 have z1:=h.m.frozen (i*3+1)
 have ho:=(h.s i hi).o
 have hl:=(h.s i hi).four
 obtain ⟨W,cap,hv,_,_⟩:=owns_form ho (by rw [h0];simp)
 have hwo:(S i).wo=some ⟨W,0,none⟩:=by injection hv
 rw [h0,List.map_cons,hwo] at ho
 rw [h0] at hl
 rw [h0,hwo] at c1
 have cW:w.cell? ⟨W,0,none⟩=some (.slice p0.a p0.l p0.c):=by
  have:=ho.cellAt 0 (by simp)
  simpa [Pk.v] using this
 have ho':w.ownsRow 0 25 1 (.slice (some ⟨W,0,none⟩) (rest.length+1) (S i).wc) (rest.length+1) (p0.v::rest.map Pk.v):=ho
 have HD:Hid (Calls Tryz.prog 122 #[.slice (some ⟨W,0,none⟩) (rest.length+1) (S i).wc,.int .i64 0,.int .i64 1] w fun e w'=>e=.returned (.slice (some ⟨W,0,none⟩) rest.length (S i).wc)∧w'.ownsRow 0 25 1 (.slice (some ⟨W,0,none⟩) rest.length (S i).wc) rest.length (rest.map Pk.v)∧w.grownBy w' (some W)):=delete_first 0 W rest.length (S i).wc p0.v (rest.map Pk.v) w ho' (pkv_one _) (by simp at hl;omega)
 have HH:Hid (PNet w b S):=h
 have hWb:W≠b:=fun e=>h.nb i hi (Or.inr (Or.inl (by rw [hwo,e];rfl)))
 clear h ho ho' hv
 simp only [List.length_cons] at c1 hl
 generalize hwc:(S i).wc=wc at *
 obtain ⟨L,hL⟩:∃ L,rest.length=L:=⟨_,rfl⟩
 have HL:Hid (rest.length=L):=hL
 rw [hL] at c1 HD hl
 clear hL
 go_enter Tryz.func92,Tryz.ntmps92
 go_wp2_with (go_at_call 122;refine HD.out.mono ?_;rintro e w1 ⟨rfl,ho1,hg1⟩;have y1:=(HH.out.m.keep hg1 (fun e=>hWb (Option.some.inj e).symm)).frozen (i*3+1);have d1:=(HH.out.m.keep hg1 (fun e=>hWb (Option.some.inj e).symm)).cell (j:=i*3+1) (by omega))
 go_ret2
 have eL:=HL.out
 subst eL
 subst hwc
 exact ⟨rfl,_,_,del_turn HH.out hi h0 hwo ho1 hg1⟩
theorem gdetach_out (b:Nat) (s:Int) (a1 a2 a3 a4:Addr) (w:World) (hs:Sent w a1 a2 a3 a4) (h:s<0∨8≤s) :
  Calls Tryz.prog 55 #[.pointer (some ⟨b,0,none⟩),.int .i64 s] w fun e w'=>e=.returned (.int .i64 10)∧w.grownBy w' none:=by
 have HF:Hid (Calls Tryz.prog 86 #[.pointer (some ⟨b,0,none⟩),.int .i64 s] w fun e w'=>e=.returned (.tuple #[.pointer none,.iface 279 (.pointer (some a1))])∧w.grownBy w' none):=find_no b s a1 a2 a3 a4 w hs h
 have HS:Hid (Sent w a1 a2 a3 a4):=hs
 have n1:=neq_err1
 clear hs
 go_enter Tryz.func55,Tryz.ntmps55
 go_wp2_with (first | (go_at_call 86;refine HF.out.mono ?_;rintro e w1 ⟨rfl,hg1⟩) | (go_at_call 87;refine (errno_a a1 a2 a3 a4 _ (HS.out.keep hg1)).mono ?_;rintro e w2 ⟨rfl,rfl⟩))
 go_ret
 exact ⟨rfl,hg1⟩
theorem gdetach_no (b i:Nat) (S:Nat→So) (a1 a2 a3 a4:Addr) (w:World) (h:PNet w b S) (hs:Sent w a1 a2 a3 a4) (hi:i<8) (h0:(S i).n=0) :
  Calls Tryz.prog 55 #[.pointer (some ⟨b,0,none⟩),.int .i64 i] w fun e w'=>e=.returned (.int .i64 11)∧w.grownBy w' none:=by
 have HF:Hid (Calls Tryz.prog 86 #[.pointer (some ⟨b,0,none⟩),.int .i64 i] w fun e w'=>e=.returned (.tuple #[.pointer (some ⟨b,i*3,none⟩),.nilIface])∧w'=w):=find_ok b i w hi
 have HD:Hid (Calls Tryz.prog 90 #[.pointer (some ⟨b,i*3,none⟩)] w fun e w'=>e=.returned (.iface 279 (.pointer (some a3)))∧w.grownBy w' none):=sdetach_no b i S a1 a2 a3 a4 w h hs hi h0
 have HS:Hid (Sent w a1 a2 a3 a4):=hs
 have n0:=neq_err0
 clear hs h
 go_enter Tryz.func55,Tryz.ntmps55
 go_wp2_with (first | (go_at_call 86;refine HF.out.mono ?_;rintro e w1 ⟨rfl,rfl⟩) | (go_at_call 90;refine HD.out.mono ?_;rintro e w2 ⟨rfl,hg2⟩) | (go_at_call 87;refine (errno_c a1 a2 a3 a4 _ (HS.out.keep hg2)).mono ?_;rintro e w3 ⟨rfl,rfl⟩))
 go_ret
 exact ⟨rfl,hg2⟩
def Free (b:Nat) (S:Nat→So) (a1 a2 a3 a4:Addr):Prop:=∀ k,netUses b S k→k≠2∧k≠3∧k≠4∧k≠5∧k≠a1.block∧k≠a2.block∧k≠a3.block∧k≠a4.block
theorem Firm.same {w w':World} {a:Addr} (h:Firm w a) (hb:w'.heap[a.block]?=w.heap[a.block]?):Firm w' a:=by
 obtain ⟨c,t,h⟩:=h
 exact ⟨c,t,hb.trans h⟩
theorem Firm.lt {w:World} {a:Addr} (h:Firm w a):a.block<w.heap.size:=by
 obtain ⟨c,t,h⟩:=h
 exact (Array.getElem?_eq_some_iff.1 h).1
theorem Sent.apart {w w':World} {b:Nat} {S S':Nat→So} {a1 a2 a3 a4:Addr} (h:Sent w a1 a2 a3 a4) (hA:NApart w w' b S S') (hf:Free b S a1 a2 a3 a4):Sent w' a1 a2 a3 a4:=by
 have c:∀ g v,w.cell? ⟨g,0,none⟩=some v→(¬ netUses b S g)→w'.cell? ⟨g,0,none⟩=some v:=fun g v hv hu=>by
  rw [cell_same (hA.same g (World.block_lt_of_cell? w _ hv) hu)];exact hv
 exact ⟨c _ _ h.ga (fun u=>(hf _ u).1 rfl),c _ _ h.gb (fun u=>(hf _ u).2.1 rfl),c _ _ h.gc (fun u=>(hf _ u).2.2.1 rfl),c _ _ h.gd (fun u=>(hf _ u).2.2.2.1 rfl),
  h.fa.same (hA.same _ h.fa.lt fun u=>(hf _ u).2.2.2.2.1 rfl),h.fb.same (hA.same _ h.fb.lt fun u=>(hf _ u).2.2.2.2.2.1 rfl),h.fc.same (hA.same _ h.fc.lt fun u=>(hf _ u).2.2.2.2.2.2.1 rfl),h.fd.same (hA.same _ h.fd.lt fun u=>(hf _ u).2.2.2.2.2.2.2 rfl),h.ab,h.ac,h.ad,h.bc,h.bd,h.cd⟩
theorem gdetach_ok (b i:Nat) (S:Nat→So) (a1 a2 a3 a4:Addr) (w:World) (h:PNet w b S) (hs:Sent w a1 a2 a3 a4) (hf:Free b S a1 a2 a3 a4) (hi:i<8) (h0:(S i).n≠0) :
  Calls Tryz.prog 55 #[.pointer (some ⟨b,0,none⟩),.int .i64 i] w fun e w'=>e=.returned (.int .i64 0)∧PNet w' b (updS S i ((S i).fil .nilIface 0 (fun _=>0) 0))∧NApart w w' b S (updS S i ((S i).fil .nilIface 0 (fun _=>0) 0)):=by
 have HF:Hid (Calls Tryz.prog 86 #[.pointer (some ⟨b,0,none⟩),.int .i64 i] w fun e w'=>e=.returned (.tuple #[.pointer (some ⟨b,i*3,none⟩),.nilIface])∧w'=w):=find_ok b i w hi
 have HD:Hid (Calls Tryz.prog 90 #[.pointer (some ⟨b,i*3,none⟩)] w fun e w'=>e=.returned .nilIface∧PNet w' b (updS S i ((S i).fil .nilIface 0 (fun _=>0) 0))∧Apart w w' b S i ((S i).fil .nilIface 0 (fun _=>0) 0)):=sdetach_ok b i S w h hi h0
 have HS:Hid (∀ w',NApart w w' b S (updS S i ((S i).fil .nilIface 0 (fun _=>0) 0))→Sent w' a1 a2 a3 a4):=fun w' hA=>hs.apart hA hf
 have n0:=neq_err0
 clear hs h hf
 go_enter Tryz.func55,Tryz.ntmps55
 go_wp2_with (first | (go_at_call 86;refine HF.out.mono ?_;rintro e w1 ⟨rfl,rfl⟩) | (go_at_call 90;refine HD.out.mono ?_;rintro e w2 ⟨rfl,hP,hA⟩) | (go_at_call 87;refine (errno_nil a1 a2 a3 a4 _ (HS.out _ (hA.net hi))).mono ?_;rintro e w3 ⟨rfl,rfl⟩))
 go_ret
 exact ⟨rfl,hP,hA.net hi⟩
theorem gdropped (b i:Nat) (S:Nat→So) (w:World) (h:PNet w b S) (hi:i<8) :
  Calls Tryz.prog 61 #[.pointer (some ⟨b,0,none⟩),.int .i64 i] w fun e w'=>e=.returned (.int .i64 (S i).d)∧w'=w:=by
 have HF:Hid (Calls Tryz.prog 86 #[.pointer (some ⟨b,0,none⟩),.int .i64 i] w fun e w'=>e=.returned (.tuple #[.pointer (some ⟨b,i*3,none⟩),.nilIface])∧w'=w):=find_ok b i w hi
 have HD:Hid (Calls Tryz.prog 93 #[.pointer (some ⟨b,i*3,none⟩)] w fun e w'=>e=.returned (.int .i64 (S i).d)∧w'=w):=sdropped b i S w h hi
 have n0:=neq_err0
 clear h
 go_enter Tryz.func61,Tryz.ntmps61
 go_wp2_with (first | (go_at_call 86;refine HF.out.mono ?_;rintro e w1 ⟨rfl,rfl⟩) | (go_at_call 93;refine HD.out.mono ?_;rintro e w2 ⟨rfl,rfl⟩))
 go_ret
 exact ⟨rfl,rfl⟩
theorem gdropped_out (b:Nat) (s:Int) (a1 a2 a3 a4:Addr) (w:World) (hs:Sent w a1 a2 a3 a4) (h:s<0∨8≤s) :
  Calls Tryz.prog 61 #[.pointer (some ⟨b,0,none⟩),.int .i64 s] w fun e w'=>e=.returned (.int .i64 0)∧w.grownBy w' none:=by
 have HF:Hid (Calls Tryz.prog 86 #[.pointer (some ⟨b,0,none⟩),.int .i64 s] w fun e w'=>e=.returned (.tuple #[.pointer none,.iface 279 (.pointer (some a1))])∧w.grownBy w' none):=find_no b s a1 a2 a3 a4 w hs h
 have n1:=neq_err1
 clear hs
 go_enter Tryz.func61,Tryz.ntmps61
 go_wp2_with (go_at_call 86;refine HF.out.mono ?_;rintro e w1 ⟨rfl,hg1⟩)
 go_ret
 exact ⟨rfl,hg1⟩
end Go.Proofs.YthbcfepbkkbjiaaGreatDoor
namespace Go.Proofs.YthbcfepbkkbjiaaGreatDoor
open Go.RowKit
theorem gframe_ok (b:Nat) (S:Nat→So) (po:Option Addr) (m pc:Nat) (p:Nat→Int) (a1 a2 a3 a4:Addr) (w:World) (h:PNet w b S) (hs:Sent w a1 a2 a3 a4) (hf:Free b S a1 a2 a3 a4) (hm:m≤2000) (hmc:m≤pc) (hz:po=none→m=0) (hp:Oct p) (hq:Src w .u8 po m p) (hpo:0<m→∀ k,own? po=some k→¬ netUses b S k) (hd:∀ i,i<8→(S i).d<9223372036854775807) :
  Calls Tryz.prog 57 #[.pointer (some ⟨b,0,none⟩),.slice po m pc] w fun e w'=>e=.returned (.int .i64 0)∧∃ S',PNet w' b S'∧NApart w w' b S S'∧∀ i,i<8→(S' i).ab=(S i).ab.offer p m:=by
 have HF:Hid (Calls Tryz.prog 91 #[.pointer (some ⟨b,0,none⟩),.slice po m pc] w fun e w'=>e=.returned .nilIface∧∃ S',PNet w' b S'∧NApart w w' b S S'∧∀ i,i<8→(S' i).ab=(S i).ab.offer p m):=rframe_any b S po m pc p w h hm hmc hz hp hq hpo hd
 have HS:Hid (∀ w' S',NApart w w' b S S'→Sent w' a1 a2 a3 a4):=fun w' S' hA=>hs.apart hA hf
 clear hs h hf hq hpo hd hz hp
 go_enter Tryz.func57,Tryz.ntmps57
 go_wp2_with (first | (go_at_call 91;refine HF.out.mono ?_;rintro e w1 ⟨rfl,S',hP,hA,hab⟩) | (go_at_call 87;refine (errno_nil a1 a2 a3 a4 _ (HS.out _ _ hA)).mono ?_;rintro e w3 ⟨rfl,rfl⟩))
 go_ret
 exact ⟨rfl,S',hP,hA,hab⟩
theorem gframe_long (b:Nat) (po:Option Addr) (m pc:Nat) (a1 a2 a3 a4:Addr) (w:World) (hs:Sent w a1 a2 a3 a4) (hm:2000<m) (hm2:m≤maxLen) :
  Calls Tryz.prog 57 #[.pointer (some ⟨b,0,none⟩),.slice po m pc] w fun e w'=>e=.returned (.int .i64 10)∧w.grownBy w' none:=by
 have HF:Hid (Calls Tryz.prog 91 #[.pointer (some ⟨b,0,none⟩),.slice po m pc] w fun e w'=>e=.returned (.iface 279 (.pointer (some a2)))∧w.grownBy w' none):=rframe_long b po m pc a1 a2 a3 a4 w hs hm hm2
 have HS:Hid (Sent w a1 a2 a3 a4):=hs
 clear hs
 go_enter Tryz.func57,Tryz.ntmps57
 go_wp2_with (first | (go_at_call 91;refine HF.out.mono ?_;rintro e w1 ⟨rfl,hg1⟩) | (go_at_call 87;refine (errno_b a1 a2 a3 a4 _ (HS.out.keep hg1)).mono ?_;rintro e w3 ⟨rfl,rfl⟩))
 go_ret
 exact ⟨rfl,hg1⟩
theorem greceive_out (b:Nat) (s:Int) (a1 a2 a3 a4:Addr) (w:World) (hs:Sent w a1 a2 a3 a4) (h:s<0∨8≤s) :
  Calls Tryz.prog 59 #[.pointer (some ⟨b,0,none⟩),.int .i64 s] w fun e w'=>e=.returned (.tuple #[.slice none 0 0,.int .i64 10])∧w.grownBy w' none:=by
 have HF:Hid (Calls Tryz.prog 86 #[.pointer (some ⟨b,0,none⟩),.int .i64 s] w fun e w'=>e=.returned (.tuple #[.pointer none,.iface 279 (.pointer (some a1))])∧w.grownBy w' none):=find_no b s a1 a2 a3 a4 w hs h
 have HS:Hid (Sent w a1 a2 a3 a4):=hs
 have n1:=neq_err1
 clear hs
 go_enter Tryz.func59,Tryz.ntmps59
 go_wp2_with (first | (go_at_call 86;refine HF.out.mono ?_;rintro e w1 ⟨rfl,hg1⟩) | (go_at_call 87;refine (errno_a a1 a2 a3 a4 _ (HS.out.keep hg1)).mono ?_;rintro e w2 ⟨rfl,rfl⟩))
 go_ret2
 exact ⟨rfl,hg1⟩
theorem greceive_no (b i:Nat) (S:Nat→So) (a1 a2 a3 a4:Addr) (w:World) (h:PNet w b S) (hs:Sent w a1 a2 a3 a4) (hi:i<8) (h0:(S i).ws=[]) :
  Calls Tryz.prog 59 #[.pointer (some ⟨b,0,none⟩),.int .i64 i] w fun e w'=>e=.returned (.tuple #[.slice none 0 0,.int .i64 12])∧w.grownBy w' none:=by
 have HF:Hid (Calls Tryz.prog 86 #[.pointer (some ⟨b,0,none⟩),.int .i64 i] w fun e w'=>e=.returned (.tuple #[.pointer (some ⟨b,i*3,none⟩),.nilIface])∧w'=w):=find_ok b i w hi
 have HD:Hid (Calls Tryz.prog 92 #[.pointer (some ⟨b,i*3,none⟩)] w fun e w'=>e=.returned (.tuple #[.slice none 0 0,.iface 279 (.pointer (some a4))])∧w.grownBy w' none):=sreceive_no b i S a1 a2 a3 a4 w h hs hi h0
 have HS:Hid (Sent w a1 a2 a3 a4):=hs
 have n0:=neq_err0
 clear hs h
 go_enter Tryz.func59,Tryz.ntmps59
 go_wp2_with (first | (go_at_call 86;refine HF.out.mono ?_;rintro e w1 ⟨rfl,rfl⟩) | (go_at_call 92;refine HD.out.mono ?_;rintro e w2 ⟨rfl,hg2⟩) | (go_at_call 87;refine (errno_d a1 a2 a3 a4 _ (HS.out.keep hg2)).mono ?_;rintro e w3 ⟨rfl,rfl⟩))
 go_ret2
 exact ⟨rfl,hg2⟩
set_option maxHeartbeats 1000000 in
theorem greceive_ok (b i:Nat) (S:Nat→So) (p0:Pk) (rest:List Pk) (a1 a2 a3 a4:Addr) (w:World) (h:PNet w b S) (hs:Sent w a1 a2 a3 a4) (hf:Free b S a1 a2 a3 a4) (hi:i<8) (h0:(S i).ws=p0::rest) :
  Calls Tryz.prog 59 #[.pointer (some ⟨b,0,none⟩),.int .i64 i] w fun e w'=>e=.returned (.tuple #[.slice p0.a p0.l p0.c,.int .i64 0])∧∃ wo wc,PNet w' b (updS S i ((S i).wait wo wc rest))∧NApart w w' b S (updS S i ((S i).wait wo wc rest)) ∧
   Held w' 5 1 p0.a p0.l p0.c (ints .u8 p0.g)∧(∀ k,own? p0.a=some k→¬ netUses b (updS S i ((S i).wait wo wc rest)) k):=by
 have HF:Hid (Calls Tryz.prog 86 #[.pointer (some ⟨b,0,none⟩),.int .i64 i] w fun e w'=>e=.returned (.tuple #[.pointer (some ⟨b,i*3,none⟩),.nilIface])∧w'=w):=find_ok b i w hi
 have HD:Hid (Calls Tryz.prog 92 #[.pointer (some ⟨b,i*3,none⟩)] w fun e w'=>e=.returned (.tuple #[.slice p0.a p0.l p0.c,.nilIface])∧∃ wo wc,PNet w' b (updS S i ((S i).wait wo wc rest))∧Apart w w' b S i ((S i).wait wo wc rest) ∧
   Held w' 5 1 p0.a p0.l p0.c (ints .u8 p0.g)∧(∀ k,own? p0.a=some k→¬ netUses b (updS S i ((S i).wait wo wc rest)) k)):=sreceive_ok b i S p0 rest w h hi h0
 have HS:Hid (∀ w' S',NApart w w' b S S'→Sent w' a1 a2 a3 a4):=fun w' S' hA=>hs.apart hA hf
 have n0:=neq_err0
 clear hs h hf
 go_enter Tryz.func59,Tryz.ntmps59
 go_wp2_with (first | (go_at_call 86;refine HF.out.mono ?_;rintro e w1 ⟨rfl,rfl⟩) | (go_at_call 92;refine HD.out.mono ?_;rintro e w2 ⟨rfl,wo,wc,hP,hA,hH,hU⟩) | (go_at_call 87;refine (errno_nil a1 a2 a3 a4 _ (HS.out _ _ (hA.net hi))).mono ?_;rintro e w3 ⟨rfl,rfl⟩))
 go_ret2
 exact ⟨rfl,wo,wc,hP,hA.net hi,hH,hU⟩
end Go.Proofs.YthbcfepbkkbjiaaGreatDoor
