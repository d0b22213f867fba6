import Derived.Maps.AppendAt
import Derived.Lib.AppendZeros
import Derived.Test.YthbcfepbkkbjiaaGreatDoorIC
import Derived.Test.YthbcfepbkkbjiaaGreatDoorI2
import Derived.Test.YthbcfepbkkbjiaaGreatDoorI9
set_option linter.unusedSimpArgs false
set_option linter.unusedVariables false
set_option maxRecDepth 100000
namespace Go.Proofs.YthbcfepbkkbjiaaGreatDoor
open Go.RowKit
theorem Tryz.infoByte1:(Tryz.prog.info? 5).map (fun i=>(i.zero,i.size,i.bytes))=some (some (.int .u8 0),1,1):=by kernel_rfl
theorem zeroB (j:Nat):(Value.int IntKind.u8 0).cells[j%(Value.int IntKind.u8 0).cells.size]! = Value.int .u8 0:=by simp [Value.cells,Nat.mod_one]
set_option maxHeartbeats 400000 in
theorem cnumber (v:Int) (s:Nat) (w:World) (h1:1≤s) (h4:s≤4) :
  Calls Tryz.prog 118 #[.int .i64 v,.int .i64 s] w fun e w'=>e=.returned (.slice (some ⟨w.heap.size,0,none⟩) s s)∧w.grownBy w' none∧Blk w' w.heap.size 5 s s (ints .u8 (fun j=>byt v (s-1-j))):=by
 obtain ⟨i0,hi,hz0,hz1,hz2⟩:=info_parts Tryz.infoByte1
 go_enter Tryz.func118,Tryz.ntmps118
 go_wp2_with (at_make;refine wpList_make_blk _ rfl _ _ 25 rfl 5 i0 (.int .u8 0) 1 Tryz.underlying25 hi hz0 hz1 _ _ _ _ s rfl rfl (by omega) (by omega) (by rw [hz2];omega) (by unfold maxLen;omega) (.int .u8 0) zeroB ?_;intro w1 hb1 hg1)
 go_loopw [6,11] (fun _ i wr=>∃ k:Nat,k≤s∧i=.int .i64 k∧w.grownBy wr none∧Blk wr w.heap.size 5 s s (patch (fun _=>.int .u8 0) 0 k (fun i=>.int .u8 (byt v (s-1-i))))) (fun _ i _=>s-(intOf i).toNat)
 case atStart=>exact ⟨0,Nat.zero_le _,rfl,hg1,by rw [Nat.mul_one] at hb1;exact hb1.congr fun j _=>by rw [patch_zero]⟩
 case round =>
  obtain ⟨k,hk,rfl,hgr,hbk⟩:=hrel
  clear hb1 hg1
  by_cases hlt:k<s
  ·have hc:=hbk.cell (j:=k) (by omega)
   have hfz:=hbk.frozen k
   have R:=hbk.set' (j:=k) (by omega) (.int .u8 (byt v (s-1-k)))
   have G:=grown_set hgr (p:=⟨w.heap.size,k,none⟩) (Nat.le_refl _) (.int .u8 (byt v (s-1-k)))
   have e8:(8*((s:Int)-1-k)).toNat=8*(s-1-k):=by omega
   have q0:(0:Int)≤8*((s:Int)-1-k):=by omega
   have q1:(8:Int)*((s:Int)-1-k)≤24:=by omega
   go_wp2
   go_roundw
   case rel=>exact ⟨k+1,by omega,by go_num,G,R.congr fun j _=>by have:=patch_succ (fun _=>Value.int .u8 0) 0 k (fun i=>.int .u8 (byt v (s-1-i))) j;rwa [Nat.zero_add] at this⟩
   case measure=>simp [intOf];omega
  ·have:k=s:=by omega
   subst this
   go_wp2
   go_ret
   exact ⟨rfl,hgr,hbk.congr fun j hj=>by show patch _ 0 k _ j=.int .u8 (byt v (k-1-j));unfold patch;rw [if_pos (by omega),Nat.sub_zero]⟩
def Pv (w:World) (v:Value) (l:List Int):Prop:=∃ g cap,v=.slice (some ⟨g,0,none⟩) l.length cap∧Row w .u8 g 0 l.length (fun j=>l.getD j 0)∧1≤l.length∧l.length≤cap
theorem Pv.keep {w w':World} {v:Value} {l:List Int} (h:Pv w v l) (hg:w.grownBy w' none):Pv w' v l:=by
 obtain ⟨g,cap,h1,h2,h3,h4⟩:=h
 exact ⟨g,cap,h1,h2.keep hg (by simp),h3,h4⟩
def Pce (w:World) (l:List Int) (e:Ending) (w':World):Prop:=∃ v,e=.returned v∧Pv w' v l∧w.grownBy w' none
theorem pv_new1 (w:World) (a:Int) (e:TypeId) (t:Addr) (ht:t=⟨w.heap.size,0,none⟩):Pv (w.alloc (.cells #[.int .u8 a] e)) (.slice (some t) 1 1) [a]:=by
 subst ht
 refine ⟨w.heap.size,1,rfl,fun j hj=>?_,by simp,by simp⟩
 rw [Nat.zero_add,World.cell?_alloc_new]
 match j,hj with
 | 0,_=>rfl
theorem pv_new2 (w:World) (a b:Int) (e:TypeId) (t:Addr) (ht:t=⟨w.heap.size,0,none⟩):Pv (w.alloc (.cells #[.int .u8 a,.int .u8 b] e)) (.slice (some t) 2 2) [a,b]:=by
 subst ht
 refine ⟨w.heap.size,2,rfl,fun j hj=>?_,by simp,by simp⟩
 rw [Nat.zero_add,World.cell?_alloc_new]
 match j,hj with
 | 0,_=>rfl
 | 1,_=>rfl
theorem step_app {P:Program} (w:World) {ops:Array Oper} {o:Oper} {a:Act} {K:Act→World→Prop} {Q:Exit→Act→World→Prop} {E:Prop} (hgd:o.guard=none) (s x:Operand) (t:TypeId)
  (ho:o.op=.call { callee:=.builtin .append,args:=#[s,x],argTypes:=#[t,t] })
  (base:Nat) (e:TypeId) (i:TypeInfo) (z:Value) (size bytes:Nat) (ht:P.underlying t=some (.slice e)) (hi:P.info? e=some i) (hz:i.zero=some z)
  (hsize:i.size=size) (hby:i.bytes=bytes) (hzs:z.cells.size=size) (hsz:0<size)
  (v:Value) (n:Nat) (xs:List Value) (hs:a.eval s=v) (hown:w.ownsRow base e size v n xs)
  (ad:Addr) (m c:Nat) (news:List Value) (hx:a.eval x=.slice (some ad) m c) (hl:news.length=m*size) (hnews:∀ j u,news[j]?=some u→w.cell? (ad.add j)=some u) (h1:∀ u ∈ news,u.oneCell'=true)
  (h63:n+m≤maxLen) (hbytes:(n+m)*bytes≤140737488355328) (hbase:base≤w.heap.size)
  (h:∀ v' w',w'.ownsRow base e size v' (n+m) (xs++news)→w.grownBy w' v.ownBlock→(v'.ownBlock=v.ownBlock∨v'.ownBlock=some w.heap.size)→K (a.put o.dst v') w') :
  if Region.wanted o (yielded ops a.tmps)=true then Oper.wp P o a w K Q else E:=by
 have hw:Region.wanted o (yielded ops a.tmps)=true:=by simp [Region.wanted,hgd]
 rw [if_pos hw]
 obtain ⟨v',w',hr,h2,h3,h4,h5⟩:=run_append_own_at (P:=P) w base t o.type e i z size bytes ht hi hz hsize hby hzs hsz v n xs hown ad m c news hl hnews h1 h63 hbytes hbase
 unfold Oper.wp execOp
 simp only [ho,resolve,invoke,builtin,Sem.run_bind,Sem.run_pure,Result.andThen_ok,List.map_toArray,List.map_cons,List.map_nil,hs,hx,hr]
 exact h v' w' h2 h3 h5
def vals (l:List Int):List Value:=l.map (Value.int .u8)
theorem vals_one (l:List Int):∀ u ∈ vals l,u.oneCell'=true:=fun u hu=>by
 obtain ⟨x,_,rfl⟩:=List.mem_map.1 hu;rfl
theorem vals_len (l:List Int):(vals l).length=l.length:=by simp [vals]
theorem vals_app (l l':List Int):vals (l++l')=vals l++vals l':=by simp [vals]
theorem addr_add (g j:Nat):(⟨g,0,none⟩:Addr).add j=⟨g,j,none⟩:=by unfold Addr.add;split <;> simp_all
theorem row_news {w:World} {g:Nat} {l:List Int} (h:Row w .u8 g 0 l.length (fun j=>l.getD j 0)):∀ j u,(vals l)[j]?=some u→w.cell? ((⟨g,0,none⟩:Addr).add j)=some u:=fun j u hu=>by
 have hj:j<l.length:=by have:=(List.getElem?_eq_some_iff.1 hu).1;simpa [vals] using this
 rw [addr_add]
 have:=h j hj
 rw [Nat.zero_add] at this
 rw [this]
 simp [vals,hj] at hu
 rw [← hu]
 simp [hj]
theorem owns_form {w:World} {base:Nat} {e:TypeId} {size n:Nat} {v:Value} {xs:List Value} (h:w.ownsRow base e size v n xs) (hn:0<n):∃ g cap,v=.slice (some ⟨g,0,none⟩) n cap∧base≤g∧n≤cap:=by
 rcases h.2 with ⟨h2,h0⟩ | ⟨g',cap',cur,hv,hb,hh,hn',_⟩
 ·omega
 ·exact ⟨g',cap',hv,hb,hn'⟩
theorem pv_of_owns {w:World} {base n:Nat} {e:TypeId} {v:Value} {l:List Int} (h:w.ownsRow base e 1 v n (vals l)) (hn:n=l.length) (h1:1≤l.length):Pv w v l:=by
 subst hn
 obtain ⟨g,cap,rfl,_,hc⟩:=owns_form h h1
 refine ⟨g,cap,rfl,fun j hj=>?_,h1,hc⟩
 rw [Nat.zero_add,h.cellAt j (by omega)]
 simp [vals,hj]
theorem byt4 (k:Int) (hk:0≤k) (j:Nat) (hj:j<4):byt k (4-1-j)=(b4 k).getD j 0:=by
 match j,hj with
 | 0,_=>rfl
 | 1,_=>rfl
 | 2,_=>rfl
 | 3,_=>show k/2 ^ 0%256=k%256;simp
theorem b4_row {w:World} {g g':Nat} {e:TypeId} {k:Int} (hk:0≤k) (hb:Blk w g e 4 4 (ints .u8 fun j=>byt k (4-1-j))) (hg:g'=g):Row w .u8 g' 0 (b4 k).length (fun j=>(b4 k).getD j 0):=by
 subst hg
 intro j hj
 rw [Nat.zero_add,hb.cell (j:=j) hj]
 show some (Value.int .u8 (byt k (4-1-j)))=some (Value.int .u8 ((b4 k).getD j 0))
 rw [byt4 k hk j hj]
set_option maxHeartbeats 400000 in
theorem cpushWord (k:Int) (w:World) (hk:0≤k):Calls Tryz.prog 144 #[.int .i64 k] w (Pce w (pW k)):=by
 obtain ⟨i0,hi,hz0,hz1,hz2⟩:=info_parts Tryz.infoByte1
 go_enter Tryz.func144,Tryz.ntmps144
 have O0:Hid ((w.alloc (.cells #[.int .u8 1] 5)).ownsRow w.heap.size 5 1 (.slice (some ⟨w.heap.size,0,none⟩) 1 1) 1 [.int .u8 1]):=World.ownsRow_lit w #[.int .u8 1] 1 (Nat.le_refl _) (by unfold maxLen;omega) rfl
 go_wp2_with (first | (go_at_call 118;refine (cnumber k 4 _ (by omega) (by omega)).mono ?_;rintro e w1 ⟨rfl,hg1,hb1⟩;have hz:=hg1.size;simp at hz;have O1:=O0.out.kept hg1 (Or.inr (by simp [Value.ownBlock]));have R1:=b4_row (g':=w.heap.size+1) hk hb1 (by simp)) | (at_builtin;refine wpList_append_own_at _ rfl _ _ 25 rfl w.heap.size 5 i0 (.int .u8 0) 1 1 Tryz.underlying25 hi hz0 hz1 hz2 rfl (by decide) (.slice (some ⟨w.heap.size,0,none⟩) 1 1) 1 [.int .u8 1] rfl O1 ⟨w.heap.size+1,0,none⟩ 4 4 (vals (b4 k)) rfl rfl (row_news R1) (vals_one _) (by unfold maxLen;omega) (by omega) (by omega) ?_;intro v' w2 ho hg2 _ _))
 go_ret
 exact ⟨v',rfl,pv_of_owns (l:=pW k) ho rfl (by simp [pW]),grown_new none (grown_none (World.grownBy_alloc w _ none) hg1) hg2 (Nat.le_refl _)⟩
theorem cpushCell (n:Int) (w:World) (hn:0≤n∧n≤255):Calls Tryz.prog 146 #[.int .i64 n] w (Pce w (pC n)):=by
 go_enter Tryz.func146,Tryz.ntmps146
 go_wp2
 go_ret
 exact ⟨_,rfl,pv_new2 w 2 n _ _ rfl,World.grownBy_alloc _ _ none⟩
theorem cpopCell (n:Int) (w:World) (hn:0≤n∧n≤255):Calls Tryz.prog 148 #[.int .i64 n] w (Pce w (oC n)):=by
 go_enter Tryz.func148,Tryz.ntmps148
 go_wp2
 go_ret
 exact ⟨_,rfl,pv_new2 w 3 n _ _ rfl,World.grownBy_alloc _ _ none⟩
theorem creckon (n:Int) (w:World) (hn:0≤n∧n≤255):Calls Tryz.prog 149 #[.int .i64 n] w (Pce w [4,n]):=by
 go_enter Tryz.func149,Tryz.ntmps149
 go_wp2
 go_ret
 exact ⟨_,rfl,pv_new2 w 4 n _ _ rfl,World.grownBy_alloc _ _ none⟩
theorem cload (n:Int) (w:World) (hn:0≤n∧n≤255):Calls Tryz.prog 145 #[.int .i64 n] w (Pce w [5,n]):=by
 go_enter Tryz.func145,Tryz.ntmps145
 go_wp2
 go_ret
 exact ⟨_,rfl,pv_new2 w 5 n _ _ rfl,World.grownBy_alloc _ _ none⟩
theorem cask (n:Int) (w:World) (hn:0≤n∧n≤255):Calls Tryz.prog 151 #[.int .i64 n] w (Pce w [8,n]):=by
 go_enter Tryz.func151,Tryz.ntmps151
 go_wp2
 go_ret
 exact ⟨_,rfl,pv_new2 w 8 n _ _ rfl,World.grownBy_alloc _ _ none⟩
theorem cpushLength (w:World):Calls Tryz.prog 150 #[] w (Pce w [6]):=by
 go_enter Tryz.func150,Tryz.ntmps150
 go_wp2
 go_ret
 exact ⟨_,rfl,pv_new1 w 6 _ _ rfl,World.grownBy_alloc _ _ none⟩
theorem cleap (w:World):Calls Tryz.prog 153 #[] w (Pce w [7]):=by
 go_enter Tryz.func153,Tryz.ntmps153
 go_wp2
 go_ret
 exact ⟨_,rfl,pv_new1 w 7 _ _ rfl,World.grownBy_alloc _ _ none⟩
theorem cstop (w:World):Calls Tryz.prog 154 #[] w (Pce w [9]):=by
 go_enter Tryz.func154,Tryz.ntmps154
 go_wp2
 go_ret
 exact ⟨_,rfl,pv_new1 w 9 _ _ rfl,World.grownBy_alloc _ _ none⟩
end Go.Proofs.YthbcfepbkkbjiaaGreatDoor
namespace Go.Proofs.YthbcfepbkkbjiaaGreatDoor
open Go.RowKit
set_option maxHeartbeats 1000000 in
theorem cgrow (n:Nat) (w:World) (h1:1≤n) (h2:n≤1000) :
  Calls Tryz.prog 173 #[.slice none 0 0,.int .i64 n] w fun e w'=>∃ g cap,e=.returned (.slice (some ⟨g,0,none⟩) 0 cap)∧w'.ownsRow w.heap.size 5 1 (.slice (some ⟨g,0,none⟩) 0 cap) 0 []∧w.grownBy w' none:=by
 obtain ⟨i0,hi,hz0,hz1,hz2⟩:=info_parts Tryz.infoByte1
 have happ:=Lib.run_append_nil_zeros (P:=Tryz.prog) w 25 3 25 5 i0 (.int .u8 0) .i64 .i64 Tryz.underlying25 Tryz.underlying3 hi hz0 n (by omega) (by omega) (by omega) (by rw [hz2];omega)
 generalize hcap:grownCap w n 0 5=cap2 at happ
 have hcapge:n≤cap2:=by rw [← hcap];exact grownCap_ge w _ 0 5
 have hcaple:cap2≤maxLen:=by rw [← hcap];exact grownCap_le_maxLen w _ 0 5 (by unfold maxLen;omega)
 generalize hZ:(Builtin.zeroCells (Value.int .u8 0).cells n++Builtin.zeroCells (Value.int .u8 0).cells (cap2-n))=Z at happ
 have hZs:Z.size=cap2:=by rw [← hZ];simp [size_zeroCells,Value.cells];omega
 clear hcap hZ
 go_enter Tryz.func173,Tryz.ntmps173
 go_wp2_with (at_builtin;refine Lib.wpList_append_run _ rfl _ _ _ _ rfl _ _ rfl rfl _ _ happ ?_)
 go_ret
 exact ⟨w.heap.size,cap2,rfl,(World.ownsRow_made w Z cap2 (Nat.le_refl _) hcaple (by omega)).drew,grown_drew (World.grownBy_alloc w _ none)⟩
theorem grown_ow {a b c:World} {row:Option Nat} (h:a.grownBy b none) (k:b.grownBy c row) (hr:∀ g,row=some g→a.heap.size≤g):a.grownBy c none:=by
 cases row with
 | none=>exact grown_trans h k
 | some g=>exact grown_new none h k (hr g rfl)
def Pcs (w:World) (B:Nat) (ps:List (List Int)):Prop:=∀ i (h:i<ps.length),∃ v,w.cell? ⟨B,i,none⟩=some v∧Pv w v ps[i]
theorem Pcs.keep {w w':World} {B:Nat} {ps:List (List Int)} (h:Pcs w B ps) (hg:w.grownBy w' none):Pcs w' B ps:=fun i hi=>by
 obtain ⟨v,h1,h2⟩:=h i hi
 exact ⟨v,hg.cell h1 (by simp),h2.keep hg⟩
theorem flat_take (ps:List (List Int)) (i:Nat) (h:i<ps.length):(ps.take (i+1)).flatten=(ps.take i).flatten++ps[i]:=by
 rw [List.take_add_one,List.flatten_append]
 simp [List.getElem?_eq_getElem h]
theorem flat_le (ps:List (List Int)) (i:Nat):(ps.take i).flatten.length≤ps.flatten.length:=by
 conv=>rhs;rw [← List.take_append_drop i ps]
 rw [List.flatten_append,List.length_append]
 omega
set_option maxHeartbeats 1000000 in
theorem cconcat (B c:Nat) (ps:List (List Int)) (w:World) (hk:1≤ps.length) (hN:ps.flatten.length≤1000) (h1:1≤ps.flatten.length) (hk2:ps.length≤100) (h:Pcs w B ps) :
  Calls Tryz.prog 168 #[.slice (some ⟨B,0,none⟩) ps.length c] w fun e w'=>∃ v,e=.returned v∧w'.ownsRow w.heap.size 5 1 v ps.flatten.length (vals ps.flatten)∧w.grownBy w' none:=by
 obtain ⟨i0,hi,hz0,hz1,hz2⟩:=info_parts Tryz.infoByte1
 go_enter Tryz.func168,Tryz.ntmps168
 go_wp2
 go_loop [3,5,11] (fun sz _ i=>∃ k:Nat,k≤ps.length∧i=.int .i64 k∧sz=.int .i64 ((ps.take k).flatten.length:Nat)) (fun _ _ i=>ps.length-(intOf i).toNat)
 case atStart=>exact ⟨0,Nat.zero_le _,rfl,by simp⟩
 case round =>
  obtain ⟨k,hkk,rfl,rfl⟩:=hrel
  by_cases hlt:k<ps.length
  ·obtain ⟨v,hc,g,cap,rfl,hR,hl1,hl2⟩:=h k hlt
   have hf:=flat_take ps k hlt
   have hle:=flat_le ps (k+1)
   have hfl:(ps.take (k+1)).flatten.length=(ps.take k).flatten.length+ps[k].length:=by rw [hf,List.length_append]
   rw [hfl] at hle
   have HF:Hid ((ps.take (k+1)).flatten.length=(ps.take k).flatten.length+ps[k].length):=hfl
   clear hfl hf
   generalize (ps.take k).flatten.length=L at *
   generalize ps[k].length=L' at *
   go_wp2
   go_round
   case rel=>exact ⟨k+1,by omega,by go_num,by rw [HF.out,Int.natCast_add]⟩
   case measure=>simp [intOf];omega
  ·have hke:k=ps.length:=by omega
   subst hke
   rw [List.take_length]
   have HG:Hid (∀ w,Calls Tryz.prog 173 #[.slice none 0 0,.int .i64 (ps.flatten.length:Nat)] w fun e w'=>∃ g cap,e=.returned (.slice (some ⟨g,0,none⟩) 0 cap)∧w'.ownsRow w.heap.size 5 1 (.slice (some ⟨g,0,none⟩) 0 cap) 0 []∧w.grownBy w' none):=fun w=>cgrow ps.flatten.length w h1 hN
   obtain ⟨F,hF⟩:∃ F,F=ps.flatten.length:=⟨_,rfl⟩
   rw [← hF] at HG ⊢
   have HF:Hid (F=ps.flatten.length):=hF
   rw [← hF] at hN h1
   clear hF
   obtain ⟨K,hK⟩:∃ K,K=ps.length:=⟨_,rfl⟩
   rw [← hK] at hk hk2 ⊢
   have HK:Hid (K=ps.length):=hK
   clear hK hkk hlt
   go_wp2_with (go_at_call 173;refine (HG.out _).mono ?_;rintro e w1 ⟨g,cap,rfl,ho1,hg1⟩)
   go_loopw [6,8,27] (fun ns _ i wr=>∃ (k:Nat) (gg:Nat) (cc:Nat),k≤K∧i=.int .i64 k∧ns=.slice (some ⟨gg,0,none⟩) (ps.take k).flatten.length cc∧wr.ownsRow w.heap.size 5 1 (.slice (some ⟨gg,0,none⟩) (ps.take k).flatten.length cc) (ps.take k).flatten.length (vals (ps.take k).flatten)∧w.grownBy wr none) (fun _ _ i _=>K-(intOf i).toNat)
   case atStart=>exact ⟨0,g,cap,Nat.zero_le _,rfl,rfl,ho1,hg1⟩
   case round =>
    clear ho1 hg1 HG
    obtain ⟨k,gg,cc,hkk,rfl,rfl,ho,hgr⟩:=hrel
    by_cases hlt:k<K
    ·have hlt':k<ps.length:=by rw [← HK.out];exact hlt
     obtain ⟨v,hc,g2,cap2,rfl,hR,hl1,hl2⟩:=(h.keep hgr) k hlt'
     have hf:=flat_take ps k hlt'
     have hle:=flat_le ps (k+1)
     rw [hf,List.length_append] at hle
     rw [← HF.out] at hle
     have HFk:Hid ((ps.take (k+1)).flatten=(ps.take k).flatten++ps[k]):=hf
     have HN:Hid (∀ j u,(vals ps[k])[j]?=some u→wr.cell? ((⟨g2,0,none⟩:Addr).add j)=some u):=row_news hR
     have hb:=hgr.size
     have HL:=vals_len ps[k]
     have ho':=ho.lt
     clear hf hR h
     generalize hTk:(ps.take k).flatten=Tk at *
     generalize hPk:ps[k]=Pk at *
     obtain ⟨L',hL'⟩:∃ L',L'=Pk.length:=⟨_,rfl⟩
     rw [← hL'] at hc hl1 hl2 hle
     have HLp:Hid (Pk.length=L'):=hL'.symm
     have HLv:Hid ((vals Pk).length=L'*1):=(show (vals Pk).length=L'*1 by rw [HL,← hL',Nat.mul_one])
     clear hTk hPk hL' HL
     obtain ⟨LT,hLT⟩:∃ LT,LT=Tk.length:=⟨_,rfl⟩
     rw [← hLT] at hle ho ho' ⊢
     have HLT:Hid (Tk.length=LT):=hLT.symm
     clear hLT
     go_wp2_with (at_builtin;refine wpList_append_own_at _ rfl _ _ 25 rfl w.heap.size 5 i0 (.int .u8 0) 1 1 Tryz.underlying25 hi hz0 hz1 hz2 rfl (by decide) (.slice (some ⟨gg,0,none⟩) LT cc) LT (vals Tk) rfl ho ⟨g2,0,none⟩ L' cap2 (vals Pk) rfl HLv.out HN.out (vals_one _) (by unfold maxLen;omega) (by omega) hb ?_;intro ns' w3 ho3 hg3 _ _)
     obtain ⟨g5,c5,rfl,_,_⟩:=owns_form ho3 (by omega)
     go_roundw
     case rel=>exact ⟨k+1,g5,c5,by omega,by go_num,by rw [HFk.out,List.length_append,HLp.out,HLT.out],by rw [HFk.out,List.length_append,vals_app,HLp.out,HLT.out];exact ho3,grown_ow hgr hg3 (fun g hg=>(ho' g hg).1)⟩
     case measure=>simp [intOf];omega
    ·have hke:k=K:=by omega
     subst hke
     rw [HK.out,List.take_length] at ho ⊢
     obtain ⟨X,hX⟩:∃ X,X=ps.flatten.length:=⟨_,rfl⟩
     rw [← hX] at ho ⊢
     have HX:Hid (X=ps.flatten.length):=hX
     clear hX
     go_wp2
     go_ret
     exact ⟨_,rfl,by rw [HF.out,← HX.out];exact ho,hgr⟩
end Go.Proofs.YthbcfepbkkbjiaaGreatDoor
namespace Go.Proofs.YthbcfepbkkbjiaaGreatDoor
open Go.RowKit
def crow (cv sv gv:Value) (KB SB OB UB:Nat):Nat→Value:=fun j =>
 if j=0 then cv else if j=1 then sv else if j=2 then gv else if j=3 then .map (some KB) else if j=4 then .map (some SB) else if j=5 then .map (some OB) else .map (some UB)
def gvals (gs:List (Int × Int)):List Value:=gs.flatMap fun g=>[.int .i64 g.1,.int .i64 g.2]
def nums (ss:List Int):List Value:=ss.map (Value.int .i64)
theorem gvals_app (a b:List (Int × Int)):gvals (a++b)=gvals a++gvals b:=by simp [gvals]
theorem nums_app (a b:List Int):nums (a++b)=nums a++nums b:=by simp [nums]
structure CM (w0 w:World) (M KB SB OB UB:Nat) (cv sv gv:Value) (l ss:List Int) (gs:List (Int × Int)):Prop where
 gr:w0.grownBy w (some M)
 hM:M<w0.heap.size
 m:Blk w M 141 7 7 (crow cv sv gv KB SB OB UB)
 oc:w.ownsRow w0.heap.size 5 1 cv l.length (vals l)
 os:w.ownsRow w0.heap.size 3 1 sv ss.length (nums ss)
 og:w.ownsRow w0.heap.size 195 2 gv gs.length (gvals gs)
 d1:cv.ownBlock=none∨cv.ownBlock≠sv.ownBlock
 d2:cv.ownBlock=none∨cv.ownBlock≠gv.ownBlock
 d3:sv.ownBlock=none∨sv.ownBlock≠gv.ownBlock
 nk:KB≠M∧KB<w0.heap.size
 ns:SB≠M∧SB<w0.heap.size
 no:OB≠M∧OB<w0.heap.size
 nu:UB≠M∧UB<w0.heap.size
 ik:IMap w KB kmap
 iz:IMap w SB szmap
 io:IMap w OB opmap
 iu:IMap w UB qumap
theorem own_ne {w:World} {base:Nat} {e:TypeId} {s n:Nat} {v:Value} {xs:List Value} (h:w.ownsRow base e s v n xs) {K:Nat} (hK:K<base):some K≠v.ownBlock:=fun e=>by
 have:=(h.lt K e.symm).1
 omega
theorem own_apart {a b:Option Nat} (h:a=none∨a≠b):b=none∨b≠a:=by
 rcases h with rfl | h
 ·cases b with
  | none=>exact Or.inl rfl
  | some x=>exact Or.inr (by simp)
 ·exact Or.inr fun e=>h e.symm
theorem own_next {a a' b:Option Nat} {n:Nat} (h:a=none∨a≠b) (ha:a'=a∨a'=some n) (hb:∀ k,b=some k→k<n):a'=none∨a'≠b:=by
 rcases ha with rfl | rfl
 ·exact h
 ·exact Or.inr fun e=>Nat.lt_irrefl _ (hb n e.symm)
section
variable {w0 w w':World} {M KB SB OB UB:Nat} {cv sv gv:Value} {l ss:List Int} {gs:List (Int × Int)}
theorem CM.cells (h:CM w0 w M KB SB OB UB cv sv gv l ss gs) :
  w.cell? ⟨M,0,none⟩=some cv∧w.cell? ⟨M,1,none⟩=some sv∧w.cell? ⟨M,2,none⟩=some gv∧w.cell? ⟨M,3,none⟩=some (.map (some KB))∧w.cell? ⟨M,4,none⟩=some (.map (some SB))∧w.cell? ⟨M,5,none⟩=some (.map (some OB))∧w.cell? ⟨M,6,none⟩=some (.map (some UB)) :=
 ⟨h.m.cell (j:=0) (by omega),h.m.cell (j:=1) (by omega),h.m.cell (j:=2) (by omega),h.m.cell (j:=3) (by omega),h.m.cell (j:=4) (by omega),h.m.cell (j:=5) (by omega),h.m.cell (j:=6) (by omega)⟩
theorem CM.free (h:CM w0 w M KB SB OB UB cv sv gv l ss gs):w.frozen? ⟨M,0,none⟩=false∧w.frozen? ⟨M,1,none⟩=false∧w.frozen? ⟨M,2,none⟩=false:=⟨h.m.frozen 0,h.m.frozen 1,h.m.frozen 2⟩
theorem CM.keep (h:CM w0 w M KB SB OB UB cv sv gv l ss gs) (hg:w.grownBy w' none):CM w0 w' M KB SB OB UB cv sv gv l ss gs :=
 ⟨grown_none h.gr hg,h.hM,h.m.keep hg (by simp),h.oc.kept hg (by cases cv.ownBlock <;> simp),h.os.kept hg (by cases sv.ownBlock <;> simp),h.og.kept hg (by cases gv.ownBlock <;> simp),h.d1,h.d2,h.d3,h.nk,h.ns,h.no,h.nu,h.ik.keep hg (by simp),h.iz.keep hg (by simp),h.io.keep hg (by simp),h.iu.keep hg (by simp)⟩
theorem CM.drew (h:CM w0 w M KB SB OB UB cv sv gv l ss gs):CM w0 w.drew M KB SB OB UB cv sv gv l ss gs:=h.keep (grown_drew (grown_refl _ _))
theorem CM.drewN (h:CM w0 w M KB SB OB UB cv sv gv l ss gs) (k:Nat):CM w0 (w.drewN k) M KB SB OB UB cv sv gv l ss gs:=h.keep (grown_drewN _ _ _)
theorem CM.allo (h:CM w0 w M KB SB OB UB cv sv gv l ss gs) (o:Obj):CM w0 (w.alloc o) M KB SB OB UB cv sv gv l ss gs:=h.keep (World.grownBy_alloc _ _ none)
theorem grown_row {a b c:World} {M:Nat} {row:Option Nat} (h:a.grownBy b (some M)) (k:b.grownBy c row) (hr:∀ g,row=some g→a.heap.size≤g):a.grownBy c (some M) :=
 ⟨k.os.trans h.os,k.tape.trans h.tape,k.output.trans h.output,Nat.le_trans h.size k.size,fun i hi hne=>(k.block i (Nat.lt_of_lt_of_le hi h.size) (fun e=>by have:=hr i e.symm;omega)).trans (h.block i hi hne)⟩
theorem CM.setCode (h:CM w0 w M KB SB OB UB cv sv gv l ss gs) {cv':Value} {l':List Int} {n:Nat} (hn:n=(l++l').length) (ho:w'.ownsRow w0.heap.size 5 1 cv' n (vals l++vals l')) (hg:w.grownBy w' cv.ownBlock) (hat:cv'.ownBlock=cv.ownBlock∨cv'.ownBlock=some w.heap.size) :
  CM w0 (w'.setCell ⟨M,0,none⟩ cv') M KB SB OB UB cv' sv gv (l++l') ss gs:=by
 subst hn
 have hM:=h.hM
 have G:=grown_setCell w' ⟨M,0,none⟩ cv'
 have oc':w'.ownsRow w0.heap.size 5 1 cv' (l++l').length (vals (l++l')):=by rw [vals_app];exact ho
 have os':=h.os.kept hg (own_apart h.d1)
 have og':=h.og.kept hg (own_apart h.d2)
 have sl:∀ k,sv.ownBlock=some k→k<w.heap.size:=fun k e=>(h.os.lt k e).2
 have gl:∀ k,gv.ownBlock=some k→k<w.heap.size:=fun k e=>(h.og.lt k e).2
 have own:∀ g,cv.ownBlock=some g→w0.heap.size≤g:=fun g e=>(h.oc.lt g e).1
 refine ⟨grown_trans (grown_row h.gr hg own) G,hM,((h.m.keep hg (own_ne h.oc hM)).set' (j:=0) (by omega) cv').congr fun j hj=>?_,oc'.kept G (Or.inr fun e=>own_ne oc' hM e.symm),os'.kept G (Or.inr fun e=>own_ne os' hM e.symm),og'.kept G (Or.inr fun e=>own_ne og' hM e.symm),
  own_next h.d1 hat sl,own_next h.d2 hat gl,h.d3,h.nk,h.ns,h.no,h.nu,
  (h.ik.keep hg (own_ne h.oc h.nk.2)).keep G (by simp;exact h.nk.1),(h.iz.keep hg (own_ne h.oc h.ns.2)).keep G (by simp;exact h.ns.1),(h.io.keep hg (own_ne h.oc h.no.2)).keep G (by simp;exact h.no.1),(h.iu.keep hg (own_ne h.oc h.nu.2)).keep G (by simp;exact h.nu.1)⟩
 match j,hj with
 | 0,_=>rfl
 | 1,_=>rfl
 | 2,_=>rfl
 | 3,_=>rfl
 | 4,_=>rfl
 | 5,_=>rfl
 | 6,_=>rfl
theorem CM.setStarts (h:CM w0 w M KB SB OB UB cv sv gv l ss gs) {sv':Value} {x:Int} {n:Nat} (hn:n=ss.length+1) (ho:w'.ownsRow w0.heap.size 3 1 sv' n (nums ss ++ [.int .i64 x])) (hg:w.grownBy w' sv.ownBlock) (hat:sv'.ownBlock=sv.ownBlock∨sv'.ownBlock=some w.heap.size) :
  CM w0 (w'.setCell ⟨M,1,none⟩ sv') M KB SB OB UB cv sv' gv l (ss ++ [x]) gs:=by
 subst hn
 have hM:=h.hM
 have G:=grown_setCell w' ⟨M,1,none⟩ sv'
 have os':w'.ownsRow w0.heap.size 3 1 sv' (ss ++ [x]).length (nums (ss ++ [x])):=by rw [nums_app,List.length_append];exact ho
 have oc':=h.oc.kept hg h.d1
 have og':=h.og.kept hg (own_apart h.d3)
 have cl:∀ k,cv.ownBlock=some k→k<w.heap.size:=fun k e=>(h.oc.lt k e).2
 have gl:∀ k,gv.ownBlock=some k→k<w.heap.size:=fun k e=>(h.og.lt k e).2
 have own:∀ g,sv.ownBlock=some g→w0.heap.size≤g:=fun g e=>(h.os.lt g e).1
 refine ⟨grown_trans (grown_row h.gr hg own) G,hM,((h.m.keep hg (own_ne h.os hM)).set' (j:=1) (by omega) sv').congr fun j hj=>?_,oc'.kept G (Or.inr fun e=>own_ne oc' hM e.symm),os'.kept G (Or.inr fun e=>own_ne os' hM e.symm),og'.kept G (Or.inr fun e=>own_ne og' hM e.symm),
  own_apart (own_next (own_apart h.d1) hat cl),h.d2,own_next h.d3 hat gl,h.nk,h.ns,h.no,h.nu,
  (h.ik.keep hg (own_ne h.os h.nk.2)).keep G (by simp;exact h.nk.1),(h.iz.keep hg (own_ne h.os h.ns.2)).keep G (by simp;exact h.ns.1),(h.io.keep hg (own_ne h.os h.no.2)).keep G (by simp;exact h.no.1),(h.iu.keep hg (own_ne h.os h.nu.2)).keep G (by simp;exact h.nu.1)⟩
 match j,hj with
 | 0,_=>rfl
 | 1,_=>rfl
 | 2,_=>rfl
 | 3,_=>rfl
 | 4,_=>rfl
 | 5,_=>rfl
 | 6,_=>rfl
theorem CM.setGaps (h:CM w0 w M KB SB OB UB cv sv gv l ss gs) {gv':Value} {x y:Int} {n:Nat} (hn:n=gs.length+1) (ho:w'.ownsRow w0.heap.size 195 2 gv' n (gvals gs ++ [.int .i64 x,.int .i64 y])) (hg:w.grownBy w' gv.ownBlock) (hat:gv'.ownBlock=gv.ownBlock∨gv'.ownBlock=some w.heap.size) :
  CM w0 (w'.setCell ⟨M,2,none⟩ gv') M KB SB OB UB cv sv gv' l ss (gs ++ [(x,y)]):=by
 subst hn
 have hM:=h.hM
 have G:=grown_setCell w' ⟨M,2,none⟩ gv'
 have og':w'.ownsRow w0.heap.size 195 2 gv' (gs ++ [(x,y)]).length (gvals (gs ++ [(x,y)])):=by rw [gvals_app,List.length_append];exact ho
 have oc':=h.oc.kept hg h.d2
 have os':=h.os.kept hg h.d3
 have cl:∀ k,cv.ownBlock=some k→k<w.heap.size:=fun k e=>(h.oc.lt k e).2
 have sl:∀ k,sv.ownBlock=some k→k<w.heap.size:=fun k e=>(h.os.lt k e).2
 have own:∀ g,gv.ownBlock=some g→w0.heap.size≤g:=fun g e=>(h.og.lt g e).1
 refine ⟨grown_trans (grown_row h.gr hg own) G,hM,((h.m.keep hg (own_ne h.og hM)).set' (j:=2) (by omega) gv').congr fun j hj=>?_,oc'.kept G (Or.inr fun e=>own_ne oc' hM e.symm),os'.kept G (Or.inr fun e=>own_ne os' hM e.symm),og'.kept G (Or.inr fun e=>own_ne og' hM e.symm),
  h.d1,own_apart (own_next (own_apart h.d2) hat cl),own_apart (own_next (own_apart h.d3) hat sl),h.nk,h.ns,h.no,h.nu,
  (h.ik.keep hg (own_ne h.og h.nk.2)).keep G (by simp;exact h.nk.1),(h.iz.keep hg (own_ne h.og h.ns.2)).keep G (by simp;exact h.ns.1),(h.io.keep hg (own_ne h.og h.no.2)).keep G (by simp;exact h.no.1),(h.iu.keep hg (own_ne h.og h.nu.2)).keep G (by simp;exact h.nu.1)⟩
 match j,hj with
 | 0,_=>rfl
 | 1,_=>rfl
 | 2,_=>rfl
 | 3,_=>rfl
 | 4,_=>rfl
 | 5,_=>rfl
 | 6,_=>rfl
end
def BoxS (w:World) (M:Nat) (cv gv:Value) (B:Nat) (a b c d:Value):Prop :=
 B≠M∧some B≠cv.ownBlock∧some B≠gv.ownBlock∧w.cell? ⟨B,0,none⟩=some a∧w.cell? ⟨B,1,none⟩=some b∧w.cell? ⟨B,2,none⟩=some c∧w.cell? ⟨B,3,none⟩=some d
theorem BoxS.keep {w w':World} {M:Nat} {cv gv:Value} {B:Nat} {a b c d:Value} (h:BoxS w M cv gv B a b c d) (hg:w.grownBy w' none):BoxS w' M cv gv B a b c d :=
 ⟨h.1,h.2.1,h.2.2.1,hg.cell h.2.2.2.1 (by simp),hg.cell h.2.2.2.2.1 (by simp),hg.cell h.2.2.2.2.2.1 (by simp),hg.cell h.2.2.2.2.2.2 (by simp)⟩
theorem BoxS.lt {w:World} {M:Nat} {cv gv:Value} {B:Nat} {a b c d:Value} (h:BoxS w M cv gv B a b c d):B<w.heap.size:=World.block_lt_of_cell? w _ h.2.2.2.1
theorem cell_els {w:World} {M i:Nat} {v u:Value} {B j:Nat} (hB:B≠M) (h:w.cell? ⟨B,j,none⟩=some u):(w.setCell ⟨M,i,none⟩ v).cell? ⟨B,j,none⟩=some u:=by
 have:=Below.heap_setCell w ⟨M,i,none⟩ v B hB
 rw [← h]
 simp [World.cell?,this]
theorem own_far {w:World} {cv cv':Value} {B n:Nat} (hat:cv'.ownBlock=cv.ownBlock∨cv'.ownBlock=some n) (hB:some B≠cv.ownBlock) (hn:B<n):some B≠cv'.ownBlock:=by
 rcases hat with e | e
 ·rw [e];exact hB
 ·rw [e];intro h;cases h;exact Nat.lt_irrefl _ hn
theorem BoxS.code {w w':World} {M:Nat} {cv cv' gv:Value} {B:Nat} {a b c d v:Value} {i n:Nat} (h:BoxS w M cv gv B a b c d) (hg:w.grownBy w' cv.ownBlock) (hat:cv'.ownBlock=cv.ownBlock∨cv'.ownBlock=some w.heap.size):BoxS (w'.setCell ⟨M,i,none⟩ v) M cv' gv B a b c d :=
 ⟨h.1,own_far (w:=w) hat h.2.1 h.lt,h.2.2.1,cell_els h.1 (hg.cell h.2.2.2.1 h.2.1),cell_els h.1 (hg.cell h.2.2.2.2.1 h.2.1),cell_els h.1 (hg.cell h.2.2.2.2.2.1 h.2.1),cell_els h.1 (hg.cell h.2.2.2.2.2.2 h.2.1)⟩
theorem BoxS.gaps {w w':World} {M:Nat} {cv gv gv':Value} {B:Nat} {a b c d v:Value} {i n:Nat} (h:BoxS w M cv gv B a b c d) (hg:w.grownBy w' gv.ownBlock) (hat:gv'.ownBlock=gv.ownBlock∨gv'.ownBlock=some w.heap.size):BoxS (w'.setCell ⟨M,i,none⟩ v) M cv gv' B a b c d :=
 ⟨h.1,h.2.1,own_far (w:=w) hat h.2.2.1 h.lt,cell_els h.1 (hg.cell h.2.2.2.1 h.2.2.1),cell_els h.1 (hg.cell h.2.2.2.2.1 h.2.2.1),cell_els h.1 (hg.cell h.2.2.2.2.2.1 h.2.2.1),cell_els h.1 (hg.cell h.2.2.2.2.2.2 h.2.2.1)⟩
theorem step_un {P:Program} {ops:Array Oper} {o:Oper} {a:Act} {w:World} {K:Act→World→Prop} {Q:Exit→Act→World→Prop} {E:Prop} (hgd:o.guard=none) (h:Oper.wp P o a w K Q):if Region.wanted o (yielded ops a.tmps)=true then Oper.wp P o a w K Q else E:=by
 have hw:Region.wanted o (yielded ops a.tmps)=true:=by simp [Region.wanted,hgd]
 rw [if_pos hw]
 exact h
set_option maxHeartbeats 1000000 in
theorem cwriteB (w0 w:World) (M KB SB OB UB:Nat) (cv sv gv:Value) (l ss:List Int) (gs:List (Int × Int)) (B c:Nat) (ps:List (List Int)) (h:CM w0 w M KB SB OB UB cv sv gv l ss gs) (hk:1≤ps.length) (hk2:ps.length≤100) (hN:ps.flatten.length≤1000) (h1:1≤ps.flatten.length) (hl:l.length≤100000) (hp:Pcs w B ps) :
  Calls Tryz.prog 147 #[.pointer (some ⟨M,0,none⟩),.slice (some ⟨B,0,none⟩) ps.length c] w fun e w'=>e=.returned (.tuple #[])∧∃ cv',CM w0 w' M KB SB OB UB cv' sv gv (l++ps.flatten) ss gs∧∀ B a b c d,BoxS w M cv gv B a b c d→BoxS w' M cv' gv B a b c d:=by
 obtain ⟨i0,hi,hz0,hz1,hz2⟩:=info_parts Tryz.infoByte1
 obtain ⟨c0,c1,c2,c3,c4,c5,c6⟩:=h.cells
 obtain ⟨z0,z1,z2⟩:=h.free
 have HC:Hid (∀ w',w.grownBy w' none→Calls Tryz.prog 168 #[.slice (some ⟨B,0,none⟩) ps.length c] w' fun e w''=>∃ v,e=.returned v∧w''.ownsRow w'.heap.size 5 1 v ps.flatten.length (vals ps.flatten)∧w'.grownBy w'' none):=fun w' hg=>cconcat B c ps w' hk hN h1 hk2 (hp.keep hg)
 have HH:Hid (CM w0 w M KB SB OB UB cv sv gv l ss gs):=h
 have hsz:=h.gr.size
 clear h hp
 obtain ⟨F,hF⟩:∃ F,F=ps.flatten.length:=⟨_,rfl⟩
 obtain ⟨K,hK⟩:∃ K,K=ps.length:=⟨_,rfl⟩
 obtain ⟨L,hL⟩:∃ L,L=l.length:=⟨_,rfl⟩
 obtain ⟨PF,hPF⟩:∃ PF,PF=ps.flatten:=⟨_,rfl⟩
 rw [← hPF] at hF HC ⊢
 rw [← hPF,← hF] at hN h1
 rw [← hF,← hK] at HC
 rw [← hK] at ⊢ hk hk2
 rw [← hL] at hl
 have HF:Hid (F=PF.length):=hF
 have HL:Hid (L=l.length):=hL
 clear hF hK hL hPF
 go_enter Tryz.func147,Tryz.ntmps147
 go_wp2
 go_region_law (first | (refine step_app _ rfl _ _ 25 rfl w0.heap.size 5 i0 (.int .u8 0) 1 1 Tryz.underlying25 hi hz0 hz1 hz2 rfl (by decide) cv L (vals l) rfl OC ⟨g,0,none⟩ F cap (vals PF) rfl (by rw [vals_len,Nat.mul_one];exact HF.out.symm) (ho1.cells (g:=g) rfl) (vals_one _) (by unfold maxLen;omega) (by omega) hs1 ?_;intro cv' w3 ho3 hg3 hat3;obtain ⟨g4,p4,rfl,_,_⟩:=owns_form ho3 (by omega);have m3:=H1.m.keep hg3 (own_ne H1.oc H1.hM);have k0:=m3.cell (j:=0) (by omega);have f0:=m3.frozen 0) | (refine step_un rfl ?_;go_simp;go_at_call 168;refine (HC.out _ (grown_drew (grown_refl _ _))).mono ?_;rintro e w1 ⟨v,rfl,ho1,hg1⟩;obtain ⟨g,cap,rfl,hb1,hc1⟩:=owns_form ho1 h1;have H1:=HH.out.drew.keep hg1;have OC:=H1.oc;rw [← HL.out] at OC;have hs1:w0.heap.size≤w1.heap.size:=H1.gr.size;obtain ⟨e0,e1,e2,e3,e4,e5,e6⟩:=H1.cells))
 all_goals go_wp2
 all_goals go_end0
 all_goals exact ⟨rfl,_,CM.setCode H1 (by rw [List.length_append,HL.out,HF.out]) ho3 hg3 hat3,fun B a b c d hB=>((hB.keep (grown_drew (grown_refl _ _))).keep hg1).code (n:=0) hg3 hat3⟩
end Go.Proofs.YthbcfepbkkbjiaaGreatDoor
namespace Go.Proofs.YthbcfepbkkbjiaaGreatDoor
open Go.RowKit
theorem Tryz.infoGap:(Tryz.prog.info? 195).map (fun i=>(i.zero,i.size,i.bytes))=some (some (.agg #[.int .i64 0,.int .i64 0]),2,16):=by kernel_rfl
theorem pcs_new1 {w:World} {v:Value} {l:List Int} {e:TypeId} (h:Pv w v l):Pcs (w.alloc (.cells #[v] e)) w.heap.size [l]:=fun i hi=>by
 have:i=0:=by simp at hi;omega
 subst this
 exact ⟨v,by rw [World.cell?_alloc_new];rfl,h.keep (World.grownBy_alloc w _ none)⟩
theorem pcs_new2 {w:World} {v1 v2:Value} {l1 l2:List Int} {e:TypeId} (h1:Pv w v1 l1) (h2:Pv w v2 l2):Pcs (w.alloc (.cells #[v1,v2] e)) w.heap.size [l1,l2]:=fun i hi=>by
 have:i=0∨i=1:=by simp at hi;omega
 rcases this with rfl | rfl
 ·exact ⟨v1,by rw [World.cell?_alloc_new];rfl,h1.keep (World.grownBy_alloc w _ none)⟩
 ·exact ⟨v2,by rw [World.cell?_alloc_new];rfl,h2.keep (World.grownBy_alloc w _ none)⟩
theorem pcs_new3 {w:World} {v1 v2 v3:Value} {l1 l2 l3:List Int} {e:TypeId} (h1:Pv w v1 l1) (h2:Pv w v2 l2) (h3:Pv w v3 l3):Pcs (w.alloc (.cells #[v1,v2,v3] e)) w.heap.size [l1,l2,l3]:=fun i hi=>by
 have:i=0∨i=1∨i=2:=by simp at hi;omega
 rcases this with rfl | rfl | rfl
 ·exact ⟨v1,by rw [World.cell?_alloc_new];rfl,h1.keep (World.grownBy_alloc w _ none)⟩
 ·exact ⟨v2,by rw [World.cell?_alloc_new];rfl,h2.keep (World.grownBy_alloc w _ none)⟩
 ·exact ⟨v3,by rw [World.cell?_alloc_new];rfl,h3.keep (World.grownBy_alloc w _ none)⟩
theorem pcs_new4 {w:World} {v1 v2 v3 v4:Value} {l1 l2 l3 l4:List Int} {e:TypeId} (h1:Pv w v1 l1) (h2:Pv w v2 l2) (h3:Pv w v3 l3) (h4:Pv w v4 l4):Pcs (w.alloc (.cells #[v1,v2,v3,v4] e)) w.heap.size [l1,l2,l3,l4]:=fun i hi=>by
 have:i=0∨i=1∨i=2∨i=3:=by simp at hi;omega
 rcases this with rfl | rfl | rfl | rfl
 ·exact ⟨v1,by rw [World.cell?_alloc_new];rfl,h1.keep (World.grownBy_alloc w _ none)⟩
 ·exact ⟨v2,by rw [World.cell?_alloc_new];rfl,h2.keep (World.grownBy_alloc w _ none)⟩
 ·exact ⟨v3,by rw [World.cell?_alloc_new];rfl,h3.keep (World.grownBy_alloc w _ none)⟩
 ·exact ⟨v4,by rw [World.cell?_alloc_new];rfl,h4.keep (World.grownBy_alloc w _ none)⟩
theorem pcs_new5 {w:World} {v1 v2 v3 v4 v5:Value} {l1 l2 l3 l4 l5:List Int} {e:TypeId} (h1:Pv w v1 l1) (h2:Pv w v2 l2) (h3:Pv w v3 l3) (h4:Pv w v4 l4) (h5:Pv w v5 l5):Pcs (w.alloc (.cells #[v1,v2,v3,v4,v5] e)) w.heap.size [l1,l2,l3,l4,l5]:=fun i hi=>by
 have:i=0∨i=1∨i=2∨i=3∨i=4:=by simp at hi;omega
 rcases this with rfl | rfl | rfl | rfl | rfl
 ·exact ⟨v1,by rw [World.cell?_alloc_new];rfl,h1.keep (World.grownBy_alloc w _ none)⟩
 ·exact ⟨v2,by rw [World.cell?_alloc_new];rfl,h2.keep (World.grownBy_alloc w _ none)⟩
 ·exact ⟨v3,by rw [World.cell?_alloc_new];rfl,h3.keep (World.grownBy_alloc w _ none)⟩
 ·exact ⟨v4,by rw [World.cell?_alloc_new];rfl,h4.keep (World.grownBy_alloc w _ none)⟩
 ·exact ⟨v5,by rw [World.cell?_alloc_new];rfl,h5.keep (World.grownBy_alloc w _ none)⟩
theorem pv_zero2 {w:World} {g:Nat} {e:TypeId} (h:Blk w g e (2*1) (2*1) (fun _=>.int .u8 0)):Pv w (.slice (some ⟨g,0,none⟩) 2 2) [0,0]:=by
 refine ⟨g,2,rfl,fun j hj=>?_,by simp,by simp⟩
 rw [Nat.zero_add,h.cell (j:=j) hj]
 match j,hj with
 | 0,_=>rfl
 | 1,_=>rfl
set_option maxHeartbeats 1000000 in
theorem cgap (w0 w:World) (M KB SB OB UB:Nat) (cv sv gv:Value) (l ss:List Int) (gs:List (Int × Int)) (d:Int) (h:CM w0 w M KB SB OB UB cv sv gv l ss gs) (hl:l.length≤90000) (hs:ss.length≤1000) (hs1:1≤ss.length) (hgs:gs.length≤10000) (hd:0≤d∧d≤4294967295) :
  Calls Tryz.prog 152 #[.pointer (some ⟨M,0,none⟩),.int .i64 d] w fun e w'=>e=.returned (.tuple #[])∧∃ cv' gv',CM w0 w' M KB SB OB UB cv' sv gv' (l ++ [0,0]) ss (gs ++ [((l.length:Int)+2,(ss.length:Int)+d)])∧∀ B a b c d,BoxS w M cv gv B a b c d→BoxS w' M cv' gv' B a b c d:=by
 obtain ⟨i0,hi,hz0,hz1,hz2⟩:=info_parts Tryz.infoByte1
 obtain ⟨j0,hj,hy0,hy1,hy2⟩:=info_parts Tryz.infoGap
 have HW:Hid (∀ (B:Nat) w',CM w0 w' M KB SB OB UB cv sv gv l ss gs→Pcs w' B [[0,0]]→Calls Tryz.prog 147 #[.pointer (some ⟨M,0,none⟩),.slice (some ⟨B,0,none⟩) 1 1] w' fun e w''=>e=.returned (.tuple #[])∧∃ cv',CM w0 w'' M KB SB OB UB cv' sv gv (l ++ [0,0]) ss gs∧∀ B a b c d,BoxS w' M cv gv B a b c d→BoxS w'' M cv' gv B a b c d):=fun B w' h1 h2=>cwriteB w0 w' M KB SB OB UB cv sv gv l ss gs B 1 [[0,0]] h1 (by simp) (by simp) (by simp) (by simp) (by omega) h2
 have HH:Hid (CM w0 w M KB SB OB UB cv sv gv l ss gs):=h
 obtain ⟨sg,sc,rfl,hsg,hsc⟩:=owns_form h.os hs1
 clear h
 obtain ⟨SL,hSL⟩:∃ SL,SL=ss.length:=⟨_,rfl⟩
 obtain ⟨LL,hLL⟩:∃ LL,LL=l.length:=⟨_,rfl⟩
 obtain ⟨GL,hGL⟩:∃ GL,GL=gs.length:=⟨_,rfl⟩
 rw [← hSL] at HW HH hs hs1 hsc ⊢
 rw [← hLL] at hl ⊢
 rw [← hGL] at hgs
 have hll:(l ++ [0,0]).length=LL+2:=by rw [List.length_append,← hLL];rfl
 have HLL:Hid ((l ++ [0,0]).length=LL+2):=hll
 clear hll
 have HGL:Hid (gs.length=GL):=hGL.symm
 clear hSL hLL hGL
 obtain ⟨d0,d1⟩:=hd
 have sW:IntKind.i64.wrap ((SL:Int)+d)=(SL:Int)+d:=by rw [IntKind.wrap_i64];omega
 go_enter Tryz.func152,Tryz.ntmps152
 go_wp2_with (first | (at_make;refine wpList_make_blk _ rfl _ _ 25 rfl 5 i0 (.int .u8 0) 1 Tryz.underlying25 hi hz0 hz1 _ _ _ _ 2 rfl rfl (by omega) (by omega) (by rw [hz2];omega) (by unfold maxLen;omega) (.int .u8 0) zeroB ?_;intro w1 hb1 hg1) | (go_at_call 147;refine (HW.out _ _ ((HH.out.keep hg1).allo _) (pcs_new1 (pv_zero2 hb1))).mono ?_;rintro e w2 ⟨rfl,cv2,H2,B2⟩;have OC2:=H2.oc;rw [HLL.out] at OC2;obtain ⟨g2,p2,rfl,_,_⟩:=owns_form OC2 (by omega);have OG2:=H2.og;rw [HGL.out] at OG2;have hsz2:=H2.gr.size;have lM2:=H2.m.lt;obtain ⟨e0,e1,e2,e3,e4,e5,e6⟩:=H2.cells;obtain ⟨f0,f1,f2⟩:=H2.free))
 go_region_law (refine step_app _ rfl _ _ 139 rfl w0.heap.size 195 j0 (.agg #[.int .i64 0,.int .i64 0]) 2 16 Tryz.underlying139 hj hy0 hy1 hy2 rfl (by decide) gv GL (gvals gs) rfl ((OG2.alloc _).drew) ⟨w2.heap.size,0,none⟩ 1 1 [.int .i64 ((LL:Int)+2),.int .i64 ((SL:Int)+d)] rfl rfl (World.news_of_block (heap_topd _ _ _ rfl)) (by simp [Value.oneCell']) (by unfold maxLen;omega) (by omega) (by simp;omega) ?_;intro gv' w3 ho3 hg3 hat3;obtain ⟨g4,p4,rfl,_,_⟩:=owns_form ho3 (by omega);have H3:=(H2.allo (.cells #[.int .i64 ((LL:Int)+2),.int .i64 ((SL:Int)+d)] 195)).drew;have m3:=H3.m.keep hg3 (own_ne H3.og H3.hM);have k0:=m3.cell (j:=2) (by omega);have f0:=m3.frozen 2)
 all_goals go_wp2
 all_goals go_end0
 all_goals exact ⟨rfl,_,_,H3.setGaps (by rw [HGL.out]) ho3 hg3 hat3,fun B a b c d hB=>BoxS.gaps (n:=0) (((B2 B a b c d ((hB.keep hg1).keep (World.grownBy_alloc _ _ none))).keep (World.grownBy_alloc _ _ none)).keep (grown_drew (grown_refl _ _))) hg3 hat3⟩
end Go.Proofs.YthbcfepbkkbjiaaGreatDoor
namespace Go.Proofs.YthbcfepbkkbjiaaGreatDoor
open Go.RowKit
theorem take_splice {α:Type} (A cs:List α) (n off:Nat) (h:off+cs.length≤n) (hn:n≤A.length):(A.take off++(cs++A.drop (off+cs.length))).take n=(A.take n).take off++(cs++(A.take n).drop (off+cs.length)):=by
 apply List.ext_getElem?
 intro i
 rw [List.getElem?_take]
 by_cases hi:i<n
 ·rw [if_pos hi]
  simp only [List.getElem?_append,List.length_take,List.getElem?_take,List.getElem?_drop]
  rw [show min off A.length=off by omega,show min off (min n A.length)=off by omega]
  by_cases h1:i<off
  ·rw [if_pos h1,if_pos h1,if_pos h1,if_pos h1,if_pos hi]
  ·rw [if_neg h1,if_neg h1]
   by_cases h2:i-off<cs.length
   ·rw [if_pos h2,if_pos h2]
   ·rw [if_neg h2,if_neg h2,if_pos (by omega)]
 ·rw [if_neg hi,List.getElem?_eq_none]
  simp only [List.length_append,List.length_take,List.length_drop]
  omega
theorem owns_splice {w:World} {base:Nat} {e:TypeId} {g n cap:Nat} {xs cs:List Value} {off:Nat} (h:w.ownsRow base e 1 (.slice (some ⟨g,0,none⟩) n cap) n xs) (hf:off+cs.length≤n) :
  ∃ cur:Array Value,w.heap[g]?=some (.cells cur e (0,0))∧off+cs.length≤cur.size∧(w.setRow g (cur.toList.take off++(cs++cur.toList.drop (off+cs.length))).toArray).ownsRow base e 1 (.slice (some ⟨g,0,none⟩) n cap) n (xs.take off++(cs++xs.drop (off+cs.length))):=by
 obtain ⟨h1,h2⟩:=h
 rcases h2 with ⟨h2,_⟩ | ⟨g',cap',cur,hv,hb,hh,hn,hm,hs,ht⟩
 ·cases h2
 ·cases hv
  rw [Nat.mul_one] at hs ht h1
  refine ⟨cur,hh,by omega,by simp only [List.length_append,List.length_take,List.length_drop];omega,Or.inr ⟨g,cap,_,rfl,hb,setRow_heap w g cur _ e _ hh,hn,hm,?_,?_⟩⟩
  ·simp only [List.size_toArray,List.length_append,List.length_take,List.length_drop,Array.length_toList]
   omega
  ·rw [Nat.mul_one]
   have:=take_splice cur.toList cs n off hf (by simp;omega)
   rw [← ht]
   simpa using this
theorem step_cp {P:Program} {ops:Array Oper} {o:Oper} {a:Act} {w:World} {K:Act→World→Prop} {Q:Exit→Act→World→Prop} {E:Prop} (hgd:o.guard=none) (d s:Operand) (dT sT:TypeId)
  (ho:o.op=.call { callee:=.builtin .copy,args:=#[d,s],argTypes:=#[dT,sT] }) (elem:TypeId) (hu:P.underlying dT=some (.slice elem)) (hsz:(P.info? elem).map (·.size)=some 1)
  (base:Nat) (e:TypeId) (g n cap:Nat) (xs:List Value) (hown:w.ownsRow base e 1 (.slice (some ⟨g,0,none⟩) n cap) n xs)
  (off dLen dCap:Nat) (ad:Addr) (sLen sCap:Nat) (hd:a.eval d=.slice (some ⟨g,off,none⟩) dLen dCap) (hs:a.eval s=.slice (some ad) sLen sCap) (cs:List Value) (hn:cs.length=Nat.min sLen dLen)
  (hsrc:∀ j v,cs[j]?=some v→w.cell? (ad.add j)=some v) (hfit:off+cs.length≤n) (h1:∀ v ∈ cs,v.oneCell'=true)
  (h:∀ w',w'.ownsRow base e 1 (.slice (some ⟨g,0,none⟩) n cap) n (xs.take off++(cs++xs.drop (off+cs.length)))→w.grownBy w' (some g)→K (a.put o.dst (goInt cs.length)) w') :
  if Region.wanted o (yielded ops a.tmps)=true then Oper.wp P o a w K Q else E:=by
 have hw:Region.wanted o (yielded ops a.tmps)=true:=by simp [Region.wanted,hgd]
 rw [if_pos hw]
 obtain ⟨cur,c1,c2,c3⟩:=owns_splice (cs:=cs) (off:=off) hown hfit
 have hrun:=run_copy_row (P:=P) w dT sT o.type elem g off dLen dCap ad sLen sCap cur e cs hu hsz c1 hn hsrc c2 h1
 unfold Oper.wp
 simp [execOp,ho,resolve,invoke,builtin,hd,hs,hrun,Result.andThen]
 exact h _ c3 ⟨rfl,rfl,rfl,by simp [World.setRow],fun k _ hr=>setRow_other w g k _ (by simpa using fun e=>hr (by rw [e]))⟩
theorem vals_set2 (l:List Int) (r:Nat) (d:Int) (h:r+2≤l.length):(vals l).take r++(vals (b2 d)++(vals l).drop (r+(vals (b2 d)).length))=vals (set2 l r d):=by
 apply List.ext_getElem?
 intro i
 have e2:(vals (b2 d)).length=2:=rfl
 rw [e2]
 simp only [vals,List.getElem?_append,List.length_take,List.length_map,List.getElem?_take,List.getElem?_drop,List.getElem?_map]
 rw [show min r l.length=r by omega]
 unfold set2
 simp only [List.getElem?_set,List.length_set]
 by_cases h1:i<r
 ·rw [if_pos h1,if_pos h1,if_neg (by omega),if_neg (by omega)]
 ·rw [if_neg h1]
  by_cases h2:i=r
  ·subst h2
   rw [if_pos (by rw [Nat.sub_self];exact Nat.succ_pos 1),if_neg (by omega),if_pos rfl,if_pos (by omega),Nat.sub_self]
   rfl
  ·by_cases h3:i=r+1
   ·subst h3
    rw [if_pos (by rw [show r+1-r=1 by omega];exact Nat.lt_succ_self 1),if_pos rfl,if_pos (by omega),show r+1-r=1 by omega]
    rfl
   ·rw [if_neg (by have:(b2 d).length=2:=rfl;omega),if_neg (by omega),if_neg (by omega),show (b2 d).length=2 from rfl,show r+2+(i-r-2)=i by omega]
section
variable {w0 w w':World} {M KB SB OB UB:Nat} {cv sv gv:Value} {l ss:List Int} {gs:List (Int × Int)}
theorem CM.setBytes (h:CM w0 w M KB SB OB UB cv sv gv l ss gs) {l':List Int} {g:Nat} (hn:l'.length=l.length) (hc:cv.ownBlock=some g) (ho:w'.ownsRow w0.heap.size 5 1 cv l.length (vals l')) (hg:w.grownBy w' (some g)) :
  CM w0 w' M KB SB OB UB cv sv gv l' ss gs:=by
 have hM:=h.hM
 rw [← hc] at hg
 have own:∀ g,cv.ownBlock=some g→w0.heap.size≤g:=fun g e=>(h.oc.lt g e).1
 exact ⟨grown_row h.gr hg own,hM,h.m.keep hg (own_ne h.oc hM),by rw [hn];exact ho,h.os.kept hg (own_apart h.d1),h.og.kept hg (own_apart h.d2),h.d1,h.d2,h.d3,h.nk,h.ns,h.no,h.nu,
  h.ik.keep hg (own_ne h.oc h.nk.2),h.iz.keep hg (own_ne h.oc h.ns.2),h.io.keep hg (own_ne h.oc h.no.2),h.iu.keep hg (own_ne h.oc h.nu.2)⟩
end
theorem set2_len (l:List Int) (r:Nat) (d:Int):(set2 l r d).length=l.length:=by simp [set2]
theorem b2_row {w:World} {g:Nat} {e:TypeId} {k:Int} (hb:Blk w g e 2 2 (ints .u8 fun j=>byt k (2-1-j))):Row w .u8 g 0 (b2 k).length (fun j=>(b2 k).getD j 0):=by
 intro j hj
 rw [Nat.zero_add,hb.cell (j:=j) hj]
 match j,hj with
 | 0,_=>rfl
 | 1,_=>show some (Value.int .u8 (k/2 ^ 0%256))=some (Value.int .u8 (k%256));simp
theorem gvals_get:∀ (gs:List (Int × Int)) (k:Nat) (h:k<gs.length),(gvals gs)[k*2]?=some (.int .i64 gs[k].1)∧(gvals gs)[k*2+1]?=some (.int .i64 gs[k].2)
 | g::gs,0,_=>⟨rfl,rfl⟩
 | g::gs,k+1,h=>by
  have:=gvals_get gs k (by simpa using h)
  have e:gvals (g::gs)=Value.int .i64 g.1::Value.int .i64 g.2::gvals gs:=rfl
  rw [e,show (k+1)*2=k*2+1+1 by omega]
  simpa using this
def fillL (ss:List Int) (l:List Int) (g:Int × Int):List Int:=set2 l (g.1.toNat-2) (ss.getD g.2.toNat 0-g.1)
theorem fillL_len (ss:List Int) (gs:List (Int × Int)):∀ l:List Int,(gs.foldl (fillL ss) l).length=l.length:=by
 induction gs with
 | nil=>intro l;rfl
 | cons g gs ih=>intro l;show (gs.foldl (fillL ss) (fillL ss l g)).length=_;rw [ih];exact set2_len _ _ _
set_option maxHeartbeats 1000000 in
theorem cfill (w0 w:World) (M KB SB OB UB:Nat) (cv sv gv:Value) (l ss:List Int) (gs:List (Int × Int)) (h:CM w0 w M KB SB OB UB cv sv gv l ss gs) (hl:l.length≤90000) (hl1:1≤l.length) (hs:ss.length≤1000) (hs1:1≤ss.length) (hgs:gs.length≤10000)
  (hg:∀ i (hi:i<gs.length),2≤gs[i].1∧gs[i].1≤l.length∧0≤gs[i].2∧gs[i].2<ss.length) (hb:∀ j,0≤ss.getD j 0∧ss.getD j 0≤100000) :
  Calls Tryz.prog 77 #[.pointer (some ⟨M,0,none⟩)] w fun e w'=>e=.returned (.tuple #[])∧CM w0 w' M KB SB OB UB cv sv gv (gs.foldl (fillL ss) l) ss gs:=by
 obtain ⟨c0,c1,c2,c3,c4,c5,c6⟩:=h.cells
 have HH:Hid (CM w0 w M KB SB OB UB cv sv gv l ss gs):=h
 obtain ⟨cg,cc,rfl,hcg,hcc⟩:=owns_form h.oc hl1
 obtain ⟨sg,sc,rfl,hsg,hsc⟩:=owns_form h.os hs1
 clear h
 have hgv:∃ ao gc,gv=.slice ao gs.length gc∧(0<gs.length→∃ gg,ao=some ⟨gg,0,none⟩):=by
  rcases HH.out.og.2 with ⟨h2,h3⟩ | ⟨g',cap',cur,hv,_⟩
  ·exact ⟨none,0,by rw [h2,h3],fun e=>by omega⟩
  ·exact ⟨_,cap',hv,fun _=>⟨g',rfl⟩⟩
 obtain ⟨ao,gc,rfl,hao⟩:=hgv
 obtain ⟨GL,hGL⟩:∃ GL,GL=gs.length:=⟨_,rfl⟩
 obtain ⟨SL,hSL⟩:∃ SL,SL=ss.length:=⟨_,rfl⟩
 obtain ⟨LL,hLL⟩:∃ LL,LL=l.length:=⟨_,rfl⟩
 rw [← hGL] at HH c2 hgs hao ⊢
 rw [← hSL] at HH c1 hs hs1 hsc ⊢
 rw [← hLL] at HH c0 hl hl1 hcc ⊢
 have HGL:Hid (gs.length=GL):=hGL.symm
 have HSL:Hid (ss.length=SL):=hSL.symm
 have HLL:Hid (l.length=LL):=hLL.symm
 have HG:Hid (∀ i (hi:i<gs.length),2≤gs[i].1∧gs[i].1≤LL∧0≤gs[i].2∧gs[i].2<SL):=fun i hi=>by rw [hLL,hSL];exact hg i hi
 have HB:Hid (∀ j,0≤ss.getD j 0∧ss.getD j 0≤100000):=hb
 clear hGL hSL hLL hg hb
 go_enter Tryz.func77,Tryz.ntmps77
 go_wp2
 go_loopw [10] (fun i wr=>∃ k:Nat,k≤GL∧i=.int .i64 k∧CM w0 wr M KB SB OB UB (.slice (some ⟨cg,0,none⟩) LL cc) (.slice (some ⟨sg,0,none⟩) SL sc) (.slice ao GL gc) ((gs.take k).foldl (fillL ss) l) ss gs) (fun i _=>GL-(intOf i).toNat)
 case atStart=>exact ⟨0,Nat.zero_le _,rfl,HH.out⟩
 case round =>
  obtain ⟨k,hk,rfl,hM⟩:=hrel
  by_cases hlt:k<GL
  ·have hlt':k<gs.length:=by rw [HGL.out];exact hlt
   obtain ⟨gg,rfl⟩:=hao (by omega)
   obtain ⟨g1,g2,g3,g4⟩:=HG.out k hlt'
   have hst:(gs.take (k+1)).foldl (fillL ss) l=fillL ss ((gs.take k).foldl (fillL ss) l) gs[k]:=by
    rw [List.take_add_one,List.foldl_append];simp [List.getElem?_eq_getElem hlt']
   have hlen:((gs.take k).foldl (fillL ss) l).length=LL:=by rw [fillL_len,HLL.out]
   have q1:wr.cell? ⟨gg,k*2,none⟩=some (.int .i64 gs[k].1):=by
    have OG:=hM.og
    rw [HGL.out] at OG
    rw [OG.cellAt (k*2) (by omega)];exact (gvals_get gs k hlt').1
   have q2:wr.cell? ⟨gg,k*2+1,none⟩=some (.int .i64 gs[k].2):=by
    have OG:=hM.og
    rw [HGL.out] at OG
    rw [OG.cellAt (k*2+1) (by omega)];exact (gvals_get gs k hlt').2
   have hsv:=HB.out gs[k].2.toNat
   have q3:wr.cell? ⟨sg,gs[k].2.toNat,none⟩=some (.int .i64 (ss.getD gs[k].2.toNat 0)):=by
    have OS:=hM.os
    rw [HSL.out] at OS
    rw [OS.cellAt gs[k].2.toNat (by omega)]
    have:gs[k].2.toNat<ss.length:=by rw [HSL.out];omega
    simp [nums,this]
   have HX:Hid ((gs.take (k+1)).foldl (fillL ss) l=set2 ((gs.take k).foldl (fillL ss) l) (gs[k].1.toNat-2) (ss.getD gs[k].2.toNat 0-gs[k].1)):=hst
   clear hst HH
   generalize (gs.take k).foldl (fillL ss) l=lk at *
   generalize ss.getD gs[k].2.toNat 0=X at *
   generalize gs[k].1=b at *
   generalize gs[k].2=t at *
   obtain ⟨d0,d1,d2,d3,d4,d5,d6⟩:=hM.cells
   have lM:=hM.m.lt
   have lg:=World.block_lt_of_cell? wr _ q1
   have ls:=World.block_lt_of_cell? wr _ q3
   have HM:Hid (CM w0 wr M KB SB OB UB (.slice (some ⟨cg,0,none⟩) LL cc) (.slice (some ⟨sg,0,none⟩) SL sc) (.slice (some ⟨gg,0,none⟩) GL gc) lk ss gs):=hM
   have HLn:Hid (lk.length=LL):=hlen
   clear hM hlen c0 c1 c2 c3 c4 c5 c6
   obtain ⟨bn,rfl⟩:∃ bn:Nat,b=(bn:Int)+2:=⟨(b-2).toNat,by omega⟩
   have bL:bn+2≤LL:=by omega
   have e2:(bn:Int)+2-2=bn:=by omega
   have e3:IntKind.i64.wrap ((bn:Int)+2-2)=bn:=by rw [IntKind.wrap_i64];omega
   have e4:IntKind.i64.wrap (bn:Int)=bn:=by rw [IntKind.wrap_i64];omega
   have e5:(0:Int)≤(bn:Int):=by omega
   have e6:(bn:Int)≤(LL:Int):=by omega
   have e7:(bn:Int)≤(cc:Int):=by omega
   have e8:(LL:Int)≤(cc:Int):=by omega
   go_wp2
   go_quiet (fail)
   go_wp2
   have HA:=(HM.out.allo (.cells #[.int .i64 ((bn:Int)+2),.int .i64 t] 195)).drewN nq
   have HS0:((wr.alloc (.cells #[.int .i64 ((bn:Int)+2),.int .i64 t] 195)).drewN nq).drew.cell? ⟨M,0,none⟩=some (.slice (some ⟨cg,0,none⟩) LL cc)∧((wr.alloc (.cells #[.int .i64 ((bn:Int)+2),.int .i64 t] 195)).drewN nq).drew.cell? ⟨wr.heap.size,0,none⟩=some (.int .i64 ((bn:Int)+2)):=⟨HA.drew.cells.1,cell_of_row _ _ 0 _ _ (0,0) (heap_top _ _ _ rfl)⟩
   have HSz:wr.heap.size<((wr.alloc (.cells #[.int .i64 ((bn:Int)+2),.int .i64 t] 195)).drewN nq).drew.heap.size:=by show wr.heap.size<(wr.alloc _).heap.size;simp
   generalize hwa:((wr.alloc (.cells #[.int .i64 ((bn:Int)+2),.int .i64 t] 195)).drewN nq)=wa at *
   have lcg:cg≠wr.heap.size:=by have:=(HM.out.oc.lt cg rfl).2;omega
   have lcM:cg≠M:=by have:=HM.out.hM;omega
   go_region_held3 (fun w'=>w'.cell? ⟨M,0,none⟩=some (.slice (some ⟨cg,0,none⟩) LL cc)∧w'.cell? ⟨wr.heap.size,0,none⟩=some (.int .i64 ((bn:Int)+2)))
    (first | exact HS0 | assumption)
    ((first | (go_at_call 118;refine (cnumber (X-((bn:Int)+2)) 2 _ (by omega) (by omega)).mono ?_;rintro e w5 ⟨rfl,hg5,hb5⟩;have S5:w5.cell? ⟨M,0,none⟩=some (.slice (some ⟨cg,0,none⟩) LL cc)∧w5.cell? ⟨wr.heap.size,0,none⟩=some (.int .i64 ((bn:Int)+2)):=⟨hg5.cell HS0.1 (by simp),hg5.cell HS0.2 (by simp)⟩;have H5:=HA.drew.keep hg5;have OC:=H5.oc;rw [HLn.out] at OC;have R5:=b2_row hb5) | (refine step_cp rfl _ _ 25 25 rfl 5 Tryz.underlying25 Tryz.sizeByte w0.heap.size 5 cg LL cc (vals lk) OC bn (LL-bn) (cc-bn) ⟨wa.heap.size,0,none⟩ 2 2 (by go_num) rfl (vals (b2 (X-((bn:Int)+2)))) (show 2=Nat.min 2 (LL-bn) from (Nat.min_eq_left (by omega)).symm) (row_news R5) (by show bn+2≤LL;omega) (vals_one _) ?_;intro w6 ho6 hg6;have S6:w6.cell? ⟨M,0,none⟩=some (.slice (some ⟨cg,0,none⟩) LL cc)∧w6.cell? ⟨wr.heap.size,0,none⟩=some (.int .i64 ((bn:Int)+2)):=⟨hg6.cell S5.1 (by simpa using fun e=>lcM e.symm),hg6.cell S5.2 (by simpa using fun e=>lcg e.symm)⟩)))
   go_wp2
   have H6:CM w0 w6 M KB SB OB UB (.slice (some ⟨cg,0,none⟩) LL cc) (.slice (some ⟨sg,0,none⟩) SL sc) (.slice (some ⟨gg,0,none⟩) GL gc) (set2 lk bn (X-((bn:Int)+2))) ss gs:=H5.setBytes (g:=cg) (set2_len _ _ _) rfl (by rw [HLn.out,← vals_set2 lk bn _ (by rw [HLn.out];exact bL)];exact ho6) hg6
   go_roundw
   case rel=>exact ⟨k+1,by omega,by go_num,by rw [HX.out,show ((bn:Int)+2).toNat-2=bn by omega];exact H6⟩
   case measure=>simp [intOf];omega
  ·have hke:k=GL:=by omega
   subst hke
   go_wp2
   go_end0
   exact ⟨rfl,by have:=hM;rw [← HGL.out,List.take_length] at this;rw [HGL.out] at this;exact this⟩
end Go.Proofs.YthbcfepbkkbjiaaGreatDoor
namespace Go.Proofs.YthbcfepbkkbjiaaGreatDoor
open Go.RowKit
def PceN (w:World) (l:List Int) (n:Nat) (e:Ending) (w':World):Prop:=∃ g cap,e=.returned (.slice (some ⟨g,0,none⟩) n cap)∧Pv w' (.slice (some ⟨g,0,none⟩) n cap) l∧w.grownBy w' none
theorem pceN {w:World} {l:List Int} {n:Nat} {f:FuncId} {args:Array Value} (h:Calls Tryz.prog f args w (Pce w l)) (hn:l.length=n):Calls Tryz.prog f args w (PceN w l n) :=
 h.mono fun e w' hp=>by
  obtain ⟨v,rfl,⟨g,cap,rfl,h2⟩,h3⟩:=hp
  subst hn
  exact ⟨g,cap,rfl,⟨g,cap,rfl,h2⟩,h3⟩
theorem Tryz.zeroIntC (w:World):(zeroValue 3).run Tryz.prog w=.ok (.int .i64 0) w:=by kernel_rfl
theorem Tryz.zeroOpC (w:World):(zeroValue 189).run Tryz.prog w=.ok (.int .i64 0) w:=by kernel_rfl
theorem Tryz.zeroQuC (w:World):(zeroValue 190).run Tryz.prog w=.ok (.int .i64 0) w:=by kernel_rfl
theorem Tryz.zeroKdC (w:World):(zeroValue 188).run Tryz.prog w=.ok (.int .i64 0) w:=by kernel_rfl
theorem clook_sz {w:World} {SB:Nat} (h:IMap w SB szmap) {C v:Int} (hz:szmap C=some (.int .i64 v)):(Instr.lookup 125 (.map (some SB)) (.int .i64 C) false).run Tryz.prog w=.ok (.int .i64 v) w:=by
 have:=h.look (P:=Tryz.prog) Tryz.underlying125 Tryz.underlying3 (Tryz.zeroIntC _) C false
 rw [this,hz];rfl
theorem clook_op {w:World} {SB:Nat} (h:IMap w SB opmap) {C v:Int} (hz:opmap C=some (.int .i64 v)):(Instr.lookup 127 (.map (some SB)) (.int .i64 C) false).run Tryz.prog w=.ok (.int .i64 v) w:=by
 have:=h.look (P:=Tryz.prog) Tryz.underlying127 Tryz.underlying3 (Tryz.zeroOpC _) C false
 rw [this,hz];rfl
theorem clook_qu {w:World} {SB:Nat} (h:IMap w SB qumap) {C v:Int} (hz:qumap C=some (.int .i64 v)):(Instr.lookup 129 (.map (some SB)) (.int .i64 C) false).run Tryz.prog w=.ok (.int .i64 v) w:=by
 have:=h.look (P:=Tryz.prog) Tryz.underlying129 Tryz.underlying3 (Tryz.zeroQuC _) C false
 rw [this,hz];rfl
theorem kmap_getC (C:Int):(kmap C).getD (.int .i64 0)=.int .i64 ((kd C).cls:Int):=by
 unfold kmap kd
 cases look C with
 | none=>rfl
 | some r=>rfl
theorem clook_kd {w:World} {SB:Nat} (h:IMap w SB kmap) {C:Int} {K:Nat} (hz:(kd C).cls=K):(Instr.lookup 123 (.map (some SB)) (.int .i64 C) false).run Tryz.prog w=.ok (.int .i64 K) w:=by
 have:=h.look (P:=Tryz.prog) Tryz.underlying123 Tryz.underlying3 (Tryz.zeroKdC _) C false
 rw [this,kmap_getC,hz];rfl
theorem box_new {w0 w:World} {M KB SB OB UB:Nat} {cv sv gv:Value} {l ss:List Int} {gs:List (Int × Int)} (h:CM w0 w M KB SB OB UB cv sv gv l ss gs) (a b c d:Value) (e:TypeId):BoxS (w.alloc (.cells #[a,b,c,d] e)) M cv gv w.heap.size a b c d:=by
 have h1:=h.m.lt
 refine ⟨by omega,fun e=>?_,fun e=>?_,by rw [World.cell?_alloc_new];rfl,by rw [World.cell?_alloc_new];rfl,by rw [World.cell?_alloc_new];rfl,by rw [World.cell?_alloc_new];rfl⟩
 ·exact Nat.lt_irrefl _ (h.oc.lt _ e.symm).2
 ·exact Nat.lt_irrefl _ (h.og.lt _ e.symm).2
end Go.Proofs.YthbcfepbkkbjiaaGreatDoor
