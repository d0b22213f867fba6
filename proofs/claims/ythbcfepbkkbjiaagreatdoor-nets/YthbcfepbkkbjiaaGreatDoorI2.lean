import Derived.Test.YthbcfepbkkbjiaaGreatDoorRows
import Derived.BigQuiet
import Derived.Deep.QuietTactic
import Derived.Deep.RegionHeld3
import Derived.Deep.DrawnRows
import Derived.Test.YthbcfepbkkbjiaaGreatDoorI1
set_option maxRecDepth 100000
namespace Go.Proofs.YthbcfepbkkbjiaaGreatDoor
open Go.RowKit
set_option maxHeartbeats 400000 in
theorem number_any (b off n c:Nat) (g:Nat→Int) (w:World) (hn:n≤4) (hg:Oct g) (h:Row w .u8 b off n g) :
  Calls Tryz.prog 123 #[.slice (some ⟨b,off,none⟩) n c] w fun e w'=>e=.returned (.int .i64 (le g n))∧w'=w:=by
 go_enter Tryz.func123,Tryz.ntmps123
 go_wp2
 go_loop [3,4,5,8] (fun v _ _ i=>∃ k:Nat,k≤n∧i=.int .i64 k∧v=.int .i64 (le g k)) (fun _ _ _ i=>n-(intOf i).toNat)
 case atStart=>exact ⟨0,Nat.zero_le _,rfl,rfl⟩
 case round =>
  obtain ⟨k,hk,rfl,rfl⟩:=hrel
  by_cases hlt:k<n
  ·have hc:w.cell? ⟨b,off+k,none⟩=some (.int .u8 (g k)):=h k hlt
   have HS:Hid (bits .or .i64 (le g k) (wrap64 (g k*2 ^ (8*k)))=le g (k+1)):=or_step hg k (by omega)
   have hgk:=hg k
   clear hg
   go_wp2
   go_round
   case rel=>exact ⟨k+1,by omega,by go_num,by rw [HS.out]⟩
   case measure=>simp [intOf];omega
  ·have:k=n:=by omega
   subst this
   go_wp2
   go_ret
   exact ⟨rfl,rfl⟩
set_option maxHeartbeats 400000 in
theorem rnumber_any (b off len c a n:Nat) (g:Nat→Int) (w:World) (hn:n≤4) (hl:a+n≤len) (hm:len≤maxLen) (hg:Oct g) (h:Row w .u8 b off len g) :
  Calls Tryz.prog 78 #[.slice (some ⟨b,off,none⟩) len c,.int .i64 a,.int .i64 n] w fun e w'=>e=.returned (.int .i64 (hr g n a))∧w'=w:=by
 unfold maxLen at hm
 go_enter Tryz.func78,Tryz.ntmps78
 go_wp2
 go_loop [7,8] (fun v i=>∃ m k:Nat,m+k=n∧i=.int .i64 ((k:Int)-1)∧v=.int .i64 (hr g m (a+k))) (fun _ i=>(intOf i+1).toNat)
 case atStart=>exact ⟨0,n,by omega,rfl,rfl⟩
 case round =>
  obtain ⟨m,k,hk,rfl,rfl⟩:=hrel
  have hb:=hr_bd4 hg m (a+k) (by omega)
  by_cases hlt:0<k
  ·have hc:w.cell? ⟨b,off+(a+(k-1)),none⟩=some (.int .u8 (g (a+(k-1)))):=h _ (by omega)
   have hgk:=hg (a+(k-1))
   clear hg
   go_wp2
   go_round
   case rel=>exact ⟨m+1,k-1,by omega,by go_num,by simp only [hr];rw [show a+(k-1)+1=a+k by omega];go_num⟩
   case measure=>simp [intOf];omega
  ·have hk0:k=0:=by omega
   subst hk0
   have hmn:m=n:=by omega
   subst hmn
   go_wp2
   go_ret
   exact ⟨rfl,rfl⟩
end Go.Proofs.YthbcfepbkkbjiaaGreatDoor
namespace Go.Proofs.YthbcfepbkkbjiaaGreatDoor
open Go.RowKit
def byt (v:Int) (i:Nat):Int:=v/2 ^ (8*i)%256
theorem byt_bd (v:Int) (i:Nat):0≤byt v i∧byt v i≤255:=by unfold byt;omega
def enc8 (a b c d:Int) (j:Nat):Int:=if j<2 then byt a j else if j=2 then b%256 else if j=3 then c%256 else byt d (j-4)
def encs (q:Nat→Int) (j:Nat):Int:=enc8 (q (4*(j/8))) (q (4*(j/8)+1)) (q (4*(j/8)+2)) (q (4*(j/8)+3)) (j%8)
theorem enc8_bd (a b c d:Int) (j:Nat):0≤enc8 a b c d j∧enc8 a b c d j≤255:=by
 unfold enc8
 have h1:=byt_bd a j
 have h2:=byt_bd d (j-4)
 split <;> (try split) <;> (try split) <;> omega
theorem encs_oct (q:Nat→Int):Oct (encs q):=fun _=>enc8_bd _ _ _ _ _
theorem encs_at (q:Nat→Int) (k i:Nat) (hi:i<8):encs q (8*k+i)=enc8 (q (4*k)) (q (4*k+1)) (q (4*k+2)) (q (4*k+3)) i:=by
 unfold encs
 rw [show (8*k+i)/8=k by omega,show (8*k+i)%8=i by omega]
theorem Tryz.infoByte:(Tryz.prog.info? 5).map (fun i=>(i.zero,i.size,i.bytes))=some (some (.int .u8 0),1,1):=by kernel_rfl
theorem Tryz.infoInsn:(Tryz.prog.info? 63).map (fun i=>(i.zero,i.size,i.bytes))=some (some (.agg #[.int .i64 0,.int .i64 0,.int .i64 0,.int .i64 0]),4,32):=by kernel_rfl
end Go.Proofs.YthbcfepbkkbjiaaGreatDoor
namespace Go.Proofs.YthbcfepbkkbjiaaGreatDoor
open Go.RowKit
attribute [local go_sem ↓] Go.wp_at_zero Go.wp_at_succ
theorem number_part (b off p m c:Nat) (g:Nat→Int) (w:World) (hg:Oct g) (h1:off≤p) (h2:p-off+m≤8) (h3:m≤4) (h:Row w .u8 b off 8 g) :
  Calls Tryz.prog 123 #[.slice (some ⟨b,p,none⟩) m c] w fun e w'=>e=.returned (.int .i64 (le (fun j=>g (p-off+j)) m))∧w'=w :=
 number_any b p m c (fun j=>g (p-off+j)) w h3 (fun _=>hg _) (fun j hj=>by have:=h (p-off+j) (by omega);rwa [show off+(p-off+j)=p+j by omega] at this)
set_option maxHeartbeats 200000 in
theorem read_any (b off c:Nat) (g:Nat→Int) (w:World) (hc8:8≤c) (hg:Oct g) (h:Row w .u8 b off 8 g) :
  Calls Tryz.prog 94 #[.slice (some ⟨b,off,none⟩) 8 c] w
   fun e w'=>e=.returned (.agg #[.int .i64 (num2 g 0),.int .i64 (g 2),.int .i64 (g 3),.int .i64 (num4 g 4)])∧w.grownBy w' none:=by
 have hc2:(2:Int)≤(c:Int):=by omega
 have hc4:(4:Int)≤(c:Int):=by omega
 have hc4n:¬ c=4:=by omega
 have h2:=h 2 (by omega)
 have h3:=h 3 (by omega)
 have hlt:b<w.heap.size:=World.block_lt_of_cell? w ⟨b,off+2,none⟩ h2
 have g2:IntKind.i64.wrap (g 2)=g 2:=by have:=hg 2;rw [IntKind.wrap_i64];omega
 have g3:IntKind.i64.wrap (g 3)=g 3:=by have:=hg 3;rw [IntKind.wrap_i64];omega
 have hS0:∀ o,Hid ((w.alloc o).drew.cell? ⟨b,off+2,none⟩=some (.int .u8 (g 2))∧(w.alloc o).drew.cell? ⟨b,off+3,none⟩=some (.int .u8 (g 3))∧Row (w.alloc o).drew .u8 b off 8 g) :=
  fun o=>⟨(h.alloc o) 2 (by omega),(h.alloc o) 3 (by omega),h.alloc o⟩
 go_enter Tryz.func94,Tryz.ntmps94
 go_wp2
 go_region_held3 (fun w'=>w'.cell? ⟨b,off+2,none⟩=some (.int .u8 (g 2))∧w'.cell? ⟨b,off+3,none⟩=some (.int .u8 (g 3))∧Row w' .u8 b off 8 g) (first | exact (hS0 _).out | assumption | (go_split_ands;exact ⟨by assumption,by assumption,by assumption⟩))
  ((go_at_call 123;refine (number_part b off _ _ _ g _ hg ?_ ?_ ?_ ?_).mono ?_;omega;omega;omega;(go_split_ands;assumption);rintro e w1 ⟨rfl,rfl⟩))
 go_wp2
 refine bodyPost_ret (v:=.agg #[.int .i64 (le (fun j=>g j) 2),.int .i64 (g 2),.int .i64 (g 3),.int .i64 (le (fun j=>g (4+j)) 4)]) (by simp [results,Tryz.results94,go_sem]) rfl ⟨?_,?_⟩
 ·rw [le_four g 4,show le (fun j=>g j) 2=num2 g 0 by simp [le,num2]]
 ·exact grown_trans (World.grownBy_alloc w _ none) (grown_drewN _ 1 none)
theorem read_at (b p m c:Nat) (g:Nat→Int) (w:World) (hm:m=8) (hc8:8≤c) (hg:Oct g) (h:Row w .u8 b p 8 g) :
  Calls Tryz.prog 94 #[.slice (some ⟨b,p,none⟩) m c] w
   fun e w'=>e=.returned (.agg #[.int .i64 (num2 g 0),.int .i64 (g 2),.int .i64 (g 3),.int .i64 (num4 g 4)])∧w.grownBy w' none:=by
 subst hm
 exact read_any b p c g w hc8 hg h
theorem zero4 (j:Nat):(Value.agg #[.int .i64 0,.int .i64 0,.int .i64 0,.int .i64 0]).cells[j%(Value.agg #[.int .i64 0,.int .i64 0,.int .i64 0,.int .i64 0]).cells.size]! = Value.int .i64 0:=by
 have:j%4<4:=Nat.mod_lt _ (by decide)
 show (#[Value.int .i64 0,.int .i64 0,.int .i64 0,.int .i64 0]:Array Value)[j%4]! = _
 match j%4,this with
 | 0,_=>rfl
 | 1,_=>rfl
 | 2,_=>rfl
 | 3,_=>rfl
def badSize (n:Nat):Prop:=n=0∨n%8≠0∨2048<n
set_option maxHeartbeats 400000 in
theorem decode_bad (ao:Option Addr) (n c:Nat) (w:World) (hm:n≤maxLen) (hn:badSize n) :
  Calls Tryz.prog 63 #[.slice ao n c] w fun e w'=>e=.returned (.tuple #[.slice none 0 0,.int .i64 1])∧w'=w:=by
 unfold maxLen at hm
 by_cases h0:n=0
 ·subst h0
  go_enter Tryz.func63,Tryz.ntmps63
  go_wp2
  go_ret2
  exact ⟨rfl,rfl⟩
 ·have h0':((n:Int) == 0)=false:=by simp;omega
  by_cases h8:n%8=0
  ·have h8':(((n:Int)%8) != 0)=false:=by simp;omega
   have h2:(2048:Int)<(n:Int):=by rcases hn with h | h | h <;> omega
   go_enter Tryz.func63,Tryz.ntmps63
   go_wp2
   go_ret2
   exact ⟨rfl,rfl⟩
  ·have h8':(((n:Int)%8) != 0)=true:=by simp;omega
   go_enter Tryz.func63,Tryz.ntmps63
   go_wp2
   go_ret2
   exact ⟨rfl,rfl⟩
def decs (g:Nat→Int) (j:Nat):Int :=
 if j%4=0 then num2 g (8*(j/4)) else if j%4=1 then g (8*(j/4)+2) else if j%4=2 then g (8*(j/4)+3) else num4 g (8*(j/4)+4)
theorem decs_at (g:Nat→Int) (k:Nat):decs g (4*k)=num2 g (8*k)∧decs g (4*k+1)=g (8*k+2)∧decs g (4*k+2)=g (8*k+3)∧decs g (4*k+3)=num4 g (8*k+4):=by
 unfold decs
 refine ⟨?_,?_,?_,?_⟩
 ·rw [if_pos (by omega),show 4*k/4=k by omega]
 ·rw [if_neg (by omega),if_pos (by omega),show (4*k+1)/4=k by omega]
 ·rw [if_neg (by omega),if_neg (by omega),if_pos (by omega),show (4*k+2)/4=k by omega]
 ·rw [if_neg (by omega),if_neg (by omega),if_neg (by omega),show (4*k+3)/4=k by omega]
def decTo (g:Nat→Int) (k:Nat) (j:Nat):Value:=if j<4*k then .int .i64 (decs g j) else .int .i64 0
theorem num2_shift (g:Nat→Int) (o p:Nat):num2 (fun j=>g (o+j)) p=num2 g (o+p):=by simp [num2,Nat.add_assoc]
theorem num4_shift (g:Nat→Int) (o p:Nat):num4 (fun j=>g (o+j)) p=num4 g (o+p):=by simp [num4,Nat.add_assoc]
theorem decTo_succ (g:Nat→Int) (k j:Nat) :
  quad (decTo g k) (k*4) (.int .i64 (num2 (fun j=>g (k*8+j)) 0)) (.int .i64 (g (k*8+2))) (.int .i64 (g (k*8+3))) (.int .i64 (num4 (fun j=>g (k*8+j)) 4)) j=decTo g (k+1) j:=by
 rw [num2_shift,num4_shift,Nat.mul_comm k 4,Nat.mul_comm k 8]
 obtain ⟨d0,d1,d2,d3⟩:=decs_at g k
 dsimp only [quad,decTo]
 by_cases h3:j=4*k+3
 ·subst h3;rw [if_pos rfl,if_pos (by omega),d3]
 ·rw [if_neg h3]
  by_cases h2:j=4*k+2
  ·subst h2;rw [if_pos rfl,if_pos (by omega),d2]
  ·rw [if_neg h2]
   by_cases h1:j=4*k+1
   ·subst h1;rw [if_pos rfl,if_pos (by omega),d1]
   ·rw [if_neg h1]
    by_cases h0:j=4*k
    ·subst h0;rw [if_pos rfl,if_pos (by omega),d0];rfl
    ·rw [if_neg h0]
     by_cases hj:j<4*k
     ·rw [if_pos hj,if_pos (by omega)]
     ·rw [if_neg hj,if_neg (by omega)]
set_option maxHeartbeats 1000000 in
theorem decode_good (b off n c:Nat) (g:Nat→Int) (w:World) (hn:1≤n) (hn2:n≤256) (hc:8*n≤c) (hg:Oct g) (h:Row w .u8 b off (8*n) g) :
  Calls Tryz.prog 63 #[.slice (some ⟨b,off,none⟩) (8*n) c] w fun e w'=>∃ B,e=.returned (.tuple #[.slice (some ⟨B,0,none⟩) n n,.int .i64 0])∧w.heap.size≤B∧w.grownBy w' none∧Blk w' B 63 (4*n) (4*n) (ints .i64 (decs g)):=by
 obtain ⟨i0,hi,hz0,hz1,hz2⟩:=info_parts Tryz.infoInsn
 have h0':((8*(n:Int)) == 0)=false:=by simp;omega
 have h8':(((8*(n:Int))%8) != 0)=false:=by simp
 have h2':¬ (2048:Int)<8*(n:Int):=by omega
 go_enter Tryz.func63,Tryz.ntmps63
 go_wp2_with (refine wpList_make_blk _ rfl _ _ 22 rfl 63 i0 (.agg #[.int .i64 0,.int .i64 0,.int .i64 0,.int .i64 0]) 4 Tryz.underlying22 hi hz0 hz1 _ _ _ _ n rfl rfl (by omega) (by omega) (by rw [hz2];omega) (by unfold maxLen;omega) (.int .i64 0) zero4 ?_;intro w1 hb1 hg1)
 go_loopw [26] (fun i wr=>∃ k:Nat,k≤n∧i=.int .i64 k∧w.grownBy wr none∧Blk wr w.heap.size 63 (4*n) (4*n) (decTo g k)) (fun i _=>n-(intOf i).toNat)
 case atStart=>exact ⟨0,Nat.zero_le _,rfl,hg1,by rw [Nat.mul_comm 4 n];exact hb1.congr fun j _=>by simp [decTo]⟩
 case round =>
  obtain ⟨k,hk,rfl,hgr,hbk⟩:=hrel
  by_cases hlt:k<n
  ·have R:Row wr .u8 b (off+k*8) 8 (fun j=>g (k*8+j)):=Row.part (h.keep hgr (by simp)) (by omega)
   have q10:¬ c=8*k:=by omega
   have q12:¬ c=k*8:=by omega
   go_wp2_with (go_at_call 94;refine (read_at b _ _ _ (fun j=>g (k*8+j)) _ ?_ ?_ (fun j=>hg _) R).mono ?_;omega;omega;rintro e w2 ⟨rfl,hg2⟩;have hb2:=hbk.keep hg2 (by simp);have e0:=hb2.cell (j:=k*4) (by omega);have e1:=hb2.cell (j:=k*4+1) (by omega);have e2:=hb2.cell (j:=k*4+2) (by omega);have e3:=hb2.cell (j:=k*4+3) (by omega);have f0:=hb2.frozen (k*4);have f1:=hb2.frozen (k*4+1);have f2:=hb2.frozen (k*4+2);have f3:=hb2.frozen (k*4+3))
   obtain ⟨Q1,Q2⟩:=hb2.quad (j:=k*4) (by omega) (.int .i64 (num2 (fun j=>g (k*8+j)) 0)) (.int .i64 (g (k*8+2))) (.int .i64 (g (k*8+3))) (.int .i64 (num4 (fun j=>g (k*8+j)) 4))
   go_roundw
   case rel=>exact ⟨k+1,by omega,by go_num,grown_new none (grown_trans hgr hg2) Q2 (Nat.le_refl _),Q1.congr fun j _=>decTo_succ g k j⟩
   case measure=>simp [intOf];omega
  ·have:k=n:=by omega
   subst this
   go_wp2
   go_ret2
   exact ⟨_,rfl,Nat.le_refl _,hgr,hbk.congr fun j hj=>by simp [decTo,ints,hj]⟩
end Go.Proofs.YthbcfepbkkbjiaaGreatDoor
namespace Go.Proofs.YthbcfepbkkbjiaaGreatDoor
open Go.RowKit
attribute [local go_sem ↓] Go.wp_at_zero Go.wp_at_succ
theorem renc_step {w:World} {base:Nat} {ao:Option Addr} {p:Nat} (q:Nat→Int) (k:Nat)
  (h:Out w base 5 1 (.slice ao (8*k+4+4) p) (8*k+4+4) (fun j=>if j<(8*k+4)*1 then (if j<8*k*1 then ints .u8 (encs q) j else
   #[Value.int .u8 (q (4*k)%256),Value.int .u8 (q (4*k)/256%256),Value.int .u8 (q (4*k+1)%256),Value.int .u8 (q (4*k+2)%256)].getD (j-8*k*1) .nilFunc) else
   #[Value.int .u8 (q (4*k+3)%256),Value.int .u8 (q (4*k+3)/256%256),Value.int .u8 (q (4*k+3)/65536%256),Value.int .u8 (q (4*k+3)/16777216%256)].getD (j-(8*k+4)*1) .nilFunc)) :
  Out w base 5 1 (.slice ao (8*k+4+4) p) (8*(k+1)) (ints .u8 (encs q)):=by
 have e:8*(k+1)=8*k+4+4:=by omega
 rw [e]
 refine h.congr fun j hj=>?_
 have e1:=encs_at q k (j-8*k)
 simp only [Nat.mul_one] at hj ⊢
 by_cases h1:j<8*k
 ·rw [if_pos (by omega),if_pos h1]
 ·rw [if_neg h1]
  have e2:=e1 (by omega)
  rw [show 8*k+(j-8*k)=j by omega] at e2
  unfold ints
  rw [e2]
  obtain ⟨i,hi⟩:∃ i,j=8*k+i:=⟨j-8*k,by omega⟩
  subst hi
  rw [show 8*k+i-8*k=i by omega,show 8*k+i-(8*k+4)=i-4 by omega]
  have hi8:i<8:=by omega
  match i,hi8 with
  | 0,_=>rw [if_pos (by omega)];simp [enc8,byt]
  | 1,_=>rw [if_pos (by omega)];simp [enc8,byt]
  | 2,_=>rw [if_pos (by omega)];simp [enc8]
  | 3,_=>rw [if_pos (by omega)];simp [enc8]
  | 4,_=>rw [if_neg (by omega)];simp [enc8,byt]
  | 5,_=>rw [if_neg (by omega)];simp [enc8,byt]
  | 6,_=>rw [if_neg (by omega)];simp [enc8,byt]
  | 7,_=>rw [if_neg (by omega)];simp [enc8,byt]
set_option maxHeartbeats 1000000 in
theorem rencode_any (b off n c:Nat) (q:Nat→Int) (w:World) (hn:n≤4398046511104) (h:Row w .i64 b off (4*n) q) :
  Calls Tryz.prog 40 #[.slice (some ⟨b,off,none⟩) n c] w fun e w'=>∃ v,e=.returned v∧w.grownBy w' none∧Out w' w.heap.size 5 1 v (8*n) (ints .u8 (encs q)):=by
 obtain ⟨i0,hi,hz0,hz1,hz2⟩:=info_parts Tryz.infoByte
 go_enter Tryz.func40,Tryz.ntmps40
 go_wp2
 go_loopw [3,4] (fun v i wr=>∃ k:Nat,k≤n∧i=.int .i64 k∧w.grownBy wr none∧Out wr w.heap.size 5 1 v (8*k) (ints .u8 (encs q))) (fun _ i _=>n-(intOf i).toNat)
 case atStart=>exact ⟨0,Nat.zero_le _,rfl,grown_refl _ _,out_nil _ _ _ _ _⟩
 case round =>
  obtain ⟨k,hk,rfl,hgr,ho⟩:=hrel
  by_cases hlt:k<n
  ·obtain ⟨c0,c1,c2,c3⟩:=(h.keep hgr (by simp)).insn hlt
   clear h
   go_wp2_with (first | (at_builtin;refine wpList_append_out _ w rfl (.tmp 16) (.tmp 30) 25 rfl 5 i0 (.int .u8 0) 1 1 Tryz.underlying25 hi hz0 hz1 hz2 rfl (by decide) _ _ _ rfl ((ho.alloc _).alloc _) (grown_none (grown_none hgr (World.grownBy_alloc _ _ none)) (World.grownBy_alloc _ _ none)) _ 4 4 _ _ rfl (heap_top _ _ _ (by simp)) rfl (by simp [Value.oneCell']) (by decide) (by unfold maxLen;omega) (by omega) ?_;intro g1 p1 w1 ho1 hg1 hx1;have x3:=ho.box hx1 (j:=3) rfl;clear hx1) | (at_builtin;refine wpList_append_out _ w rfl (.tmp 32) (.tmp 48) 25 rfl 5 i0 (.int .u8 0) 1 1 Tryz.underlying25 hi hz0 hz1 hz2 rfl (by decide) _ _ _ rfl (ho1.alloc _) (grown_none hg1 (World.grownBy_alloc _ _ none)) _ 4 4 _ _ rfl (heap_top _ _ _ (by simp)) rfl (by simp [Value.oneCell']) (by decide) (by unfold maxLen;omega) (by omega) ?_;intro g2 p2 w2 ho2 hg2 _))
   go_roundw
   case rel=>exact ⟨k+1,by omega,by go_num,hg2,renc_step q k ho2⟩
   case measure=>simp [intOf];omega
  ·have:k=n:=by omega
   subst this
   go_wp2
   go_ret
   exact ⟨_,rfl,hgr,ho⟩
theorem rencode_nil (ao:Option Addr) (c:Nat) (w:World) :
  Calls Tryz.prog 40 #[.slice ao 0 c] w fun e w'=>e=.returned (.slice none 0 0)∧w'=w:=by
 go_enter Tryz.func40,Tryz.ntmps40
 go_wp2
 go_loop [3,4] (fun v i=>v=.slice none 0 0∧i=.int .i64 0) (fun _ _=>0)
 case atStart=>exact ⟨rfl,rfl⟩
 case round =>
  obtain ⟨rfl,rfl⟩:=hrel
  go_wp2
  go_ret
  exact ⟨rfl,rfl⟩
theorem rnumber_at (b off len c:Nat) (A N:Int) (g:Nat→Int) (w:World) (hA:0≤A) (hN:0≤N) (hn:N≤4) (hl:A+N≤len) (hm:len≤maxLen) (hg:Oct g) (h:Row w .u8 b off len g) :
  Calls Tryz.prog 78 #[.slice (some ⟨b,off,none⟩) len c,.int .i64 A,.int .i64 N] w fun e w'=>e=.returned (.int .i64 (hr g N.toNat A.toNat))∧w'=w:=by
 obtain ⟨a,rfl⟩:=Int.eq_ofNat_of_zero_le hA
 obtain ⟨n,rfl⟩:=Int.eq_ofNat_of_zero_le hN
 exact rnumber_any b off len c a n g w (by omega) (by omega) hm hg h
set_option maxHeartbeats 400000 in
theorem rdecode_bad (ao:Option Addr) (n c:Nat) (w:World) (hm:n≤maxLen) (hn:badSize n) :
  Calls Tryz.prog 46 #[.slice ao n c] w fun e w'=>e=.returned (.tuple #[.slice none 0 0,.int .i64 1])∧w'=w:=by
 unfold maxLen at hm
 by_cases h0:n=0
 ·subst h0
  go_enter Tryz.func46,Tryz.ntmps46
  go_wp2
  go_ret2
  exact ⟨rfl,rfl⟩
 ·have h0':((n:Int) == 0)=false:=by simp;omega
  by_cases h8:n%8=0
  ·have h8':(((n:Int)%8) != 0)=false:=by simp;omega
   have h2:(2048:Int)<(n:Int):=by rcases hn with h | h | h <;> omega
   go_enter Tryz.func46,Tryz.ntmps46
   go_wp2
   go_ret2
   exact ⟨rfl,rfl⟩
  ·have h8':(((n:Int)%8) != 0)=true:=by simp;omega
   go_enter Tryz.func46,Tryz.ntmps46
   go_wp2
   go_ret2
   exact ⟨rfl,rfl⟩
theorem rdec_step {w:World} {base:Nat} {v:Value} (g:Nat→Int) (k:Nat)
  (h:Out w base 63 4 v (k+1) (fun j=>if j<k*4 then ints .i64 (decs g) j else
   #[Value.int .i64 (hr g 2 (8*k)),Value.int .i64 (g (8*k+2)),Value.int .i64 (g (8*k+3)),Value.int .i64 (hr g 4 (8*k+4))].getD (j-k*4) .nilFunc)) :
  Out w base 63 4 v (k+1) (ints .i64 (decs g)):=by
 refine h.congr fun j hj=>?_
 obtain ⟨d0,d1,d2,d3⟩:=decs_at g k
 by_cases h1:j<k*4
 ·rw [if_pos h1]
 ·rw [if_neg h1]
  obtain ⟨i,hi⟩:∃ i,j=4*k+i:=⟨j-4*k,by omega⟩
  subst hi
  rw [show 4*k+i-k*4=i by omega,hr_two,hr_four]
  unfold ints
  have hi4:i<4:=by omega
  match i,hi4 with
  | 0,_=>simp [d0]
  | 1,_=>simp [d1]
  | 2,_=>simp [d2]
  | 3,_=>simp [d3]
set_option maxHeartbeats 1000000 in
theorem rdecode_good (b off n c:Nat) (g:Nat→Int) (w:World) (hn:1≤n) (hn2:n≤256) (hg:Oct g) (h:Row w .u8 b off (8*n) g) :
  Calls Tryz.prog 46 #[.slice (some ⟨b,off,none⟩) (8*n) c] w fun e w'=>∃ v,e=.returned (.tuple #[v,.int .i64 0])∧w.grownBy w' none∧Out w' w.heap.size 63 4 v n (ints .i64 (decs g)):=by
 obtain ⟨i0,hi,hz0,hz1,hz2⟩:=info_parts Tryz.infoInsn
 have h0':((8*(n:Int)) == 0)=false:=by simp;omega
 have h8':(((8*(n:Int))%8) != 0)=false:=by simp
 have h2':¬ (2048:Int)<8*(n:Int):=by omega
 go_enter Tryz.func46,Tryz.ntmps46
 go_wp2
 go_loopw [4,5] (fun v i wr=>∃ k:Nat,k≤n∧i=.int .i64 (8*(k:Int))∧w.grownBy wr none∧Out wr w.heap.size 63 4 v k (ints .i64 (decs g))) (fun _ i _=>8*n-(intOf i).toNat)
 case atStart=>exact ⟨0,Nat.zero_le _,rfl,grown_refl _ _,out_nil _ _ _ _ _⟩
 case round =>
  obtain ⟨k,hk,rfl,hgr,ho⟩:=hrel
  by_cases hlt:k<n
  ·have hSG:∀ w',w.grownBy w' none→Hid (w'.cell? ⟨b,off+(8*k+2),none⟩=some (.int .u8 (g (8*k+2)))∧w'.cell? ⟨b,off+(8*k+3),none⟩=some (.int .u8 (g (8*k+3)))∧Row w' .u8 b off (8*n) g) :=
    fun w' hw=>⟨(h.keep hw (by simp)) (8*k+2) (by omega),(h.keep hw (by simp)) (8*k+3) (by omega),h.keep hw (by simp)⟩
   have q0:IntKind.i64.wrap (8*(k:Int)+2)=8*(k:Int)+2:=by rw [IntKind.wrap_i64];omega
   have q1:IntKind.i64.wrap (8*(k:Int)+3)=8*(k:Int)+3:=by rw [IntKind.wrap_i64];omega
   have q2:IntKind.i64.wrap (8*(k:Int)+4)=8*(k:Int)+4:=by rw [IntKind.wrap_i64];omega
   have q9:(8*(k:Int)).toNat=8*k:=by omega
   have q10:(8*(k:Int)+4).toNat=8*k+4:=by omega
   have q3:(8*(k:Int)+2).toNat=8*k+2:=by omega
   have q4:(8*(k:Int)+3).toNat=8*k+3:=by omega
   have q5:(0:Int)≤8*(k:Int)+2:=by omega
   have q6:(0:Int)≤8*(k:Int)+3:=by omega
   have q7:8*(k:Int)+2<8*(n:Int):=by omega
   have q8:8*(k:Int)+3<8*(n:Int):=by omega
   have g2:IntKind.i64.wrap (g (8*k+2))=g (8*k+2):=by have:=hg (8*k+2);rw [IntKind.wrap_i64];omega
   have g3:IntKind.i64.wrap (g (8*k+3))=g (8*k+3):=by have:=hg (8*k+3);rw [IntKind.wrap_i64];omega
   clear h
   go_wp2
   go_region_held3 (fun w'=>w'.cell? ⟨b,off+(8*k+2),none⟩=some (.int .u8 (g (8*k+2)))∧w'.cell? ⟨b,off+(8*k+3),none⟩=some (.int .u8 (g (8*k+3)))∧Row w' .u8 b off (8*n) g)
    (first | assumption | exact (hSG _ (grown_drew hgr)).out | exact (hSG _ (grown_drew (grown_alloc hgr _))).out | exact (hSG _ (by assumption)).out)
    ((first | (go_at_call 78;refine (rnumber_at b off _ _ _ _ g _ ?_ ?_ ?_ ?_ ?_ hg ?_).mono ?_;omega;omega;omega;(simp only [Int.natCast_mul];omega);(unfold maxLen;omega);(go_split_ands;assumption);rintro e w1 ⟨rfl,rfl⟩) | (refine step_append_out _ w (by rfl) (.tmp 26) (.tmp 47) 22 (by rfl) 63 i0 _ 4 32 Tryz.underlying22 hi hz0 hz1 hz2 (by rfl) (by decide) _ k _ (by rfl) (ho.alloc _).drew (grown_drew (grown_alloc hgr _)) _ 1 1 _ _ (by rfl) (heap_topd _ _ _ (by simp)) (by rfl) (by simp [Value.oneCell']) (by decide) (by unfold maxLen;omega) (by omega) ?_;intro g1 p1 w1 ho1 hg1 hx1)))
   go_wp2
   go_roundw
   case rel=>exact ⟨k+1,by omega,by go_num,hg1,rdec_step g k ho1⟩
   case measure=>simp [intOf];omega
  ·have:k=n:=by omega
   subst this
   go_wp2
   go_ret2
   exact ⟨_,rfl,hgr,ho⟩
end Go.Proofs.YthbcfepbkkbjiaaGreatDoor
namespace Go.Proofs.YthbcfepbkkbjiaaGreatDoor
open Go.RowKit
attribute [local go_sem ↓] Go.wp_at_zero Go.wp_at_succ
def Src (w:World) (k:IntKind) (ao:Option Addr) (n:Nat) (g:Nat→Int):Prop:=0<n→∃ b off,ao=some ⟨b,off,none⟩∧Row w k b off n g
theorem Src.keep {w w':World} {k:IntKind} {ao:Option Addr} {n:Nat} {g:Nat→Int} (h:Src w k ao n g) (hg:w.grownBy w' none):Src w' k ao n g:=fun hn=>by
 obtain ⟨b,off,h1,h2⟩:=h hn
 exact ⟨b,off,h1,h2.keep hg (by simp)⟩
theorem src_cells {w:World} {k:IntKind} {ao:Option Addr} {n:Nat} {g:Nat→Int} (h:Src w k ao n g):0<n→∃ b off,ao=some ⟨b,off,none⟩∧∀ j,j<n*1→w.cell? ⟨b,off+j,none⟩=some (ints k g j):=fun hpos=>by
 obtain ⟨b,off,h1,h2⟩:=h hpos
 exact ⟨b,off,h1,fun j hj=>h2 j (by omega)⟩
def pad (g:Nat→Int) (n:Nat):Nat→Int:=fun j=>if j<n then g j else 77
theorem Tryz.sizeByte:(Tryz.prog.info? 5).map (·.size)=some 1:=by kernel_rfl
def padTo (g:Nat→Int) (n k:Nat):Nat→Value:=fun j=>if j<n then .int .u8 (g j) else if j<n+k then .int .u8 77 else .int .u8 0
theorem padTo_succ (g:Nat→Int) (n k j:Nat):(if j=n+k then Value.int .u8 77 else padTo g n k j)=padTo g n (k+1) j:=by
 unfold padTo
 by_cases e:j=n+k
 ·rw [if_pos e,if_neg (by omega),if_pos (by omega)]
 ·rw [if_neg e]
  by_cases e2:j<n
  ·rw [if_pos e2,if_pos e2]
  ·rw [if_neg e2,if_neg e2]
   by_cases e3:j<n+k
   ·rw [if_pos e3,if_pos (by omega)]
   ·rw [if_neg e3,if_neg (by omega)]
theorem padTo_all (g:Nat→Int) (n j:Nat) (hj:j<n+4):padTo g n 4 j=ints .u8 (pad g n) j:=by
 unfold padTo ints pad
 by_cases e2:j<n
 ·rw [if_pos e2,if_pos e2]
 ·rw [if_neg e2,if_pos hj,if_neg e2]
set_option maxHeartbeats 400000 in
theorem bytes_any (ao:Option Addr) (n c:Nat) (g:Nat→Int) (w:World) (hn:n≤140737488355328) (h:Src w .u8 ao n g) :
  Calls Tryz.prog 12 #[.slice ao n c] w fun e w'=>∃ H,e=.returned (.slice (some ⟨H,0,none⟩) n (n+4))∧w.heap.size≤H∧w.grownBy w' none∧Blk w' H 5 (n+4) (n+4) (ints .u8 (pad g n)):=by
 obtain ⟨i0,hi,hz0,hz1,hz2⟩:=info_parts Tryz.infoByte
 go_enter Tryz.func12,Tryz.ntmps12
 go_wp2_with (first | (refine wpList_make_blk _ rfl _ _ 25 rfl 5 i0 (.int .u8 0) 1 Tryz.underlying25 hi hz0 hz1 _ _ _ _ (n+4) rfl rfl (by omega) (by omega) (by rw [hz2];omega) (by unfold maxLen;omega) (.int .u8 0) (by intro j;simp [Value.cells,Nat.mod_one]) ?_;intro w1 hb1 hg1;obtain ⟨w2,hrun,hb2,hg2⟩:=run_copy_blk (P:=Tryz.prog) w1 25 25 3 5 5 1 Tryz.underlying25 Tryz.sizeByte w.heap.size (n+4) (n+4) ((n+4)*1) ((n+4)*1) _ hb1 ao n c (by omega) (by omega) (ints .u8 g) (fun j _=>rfl) (src_cells (h.keep hg1))) | fail)
 have hb3:Blk w2 w.heap.size 5 (n+4) (n+4) (padTo g n 0):=by
  have:=hb2.congr (f':=padTo g n 0) fun j _=>by
   simp only [patch,padTo,ints]
   by_cases hj:j<n
   ·rw [if_pos (by omega),if_pos hj];simp
   ·rw [if_neg (by omega),if_neg hj,if_neg (by omega)]
  simpa using this
 have hg3:w.grownBy w2 none:=grown_new none hg1 hg2 (Nat.le_refl _)
 clear hb2 hb1 hg2 hg1 h
 go_wp2
 go_loopw [4] (fun i wr=>∃ k:Nat,k≤4∧i=.int .i64 k∧w.grownBy wr none∧Blk wr w.heap.size 5 (n+4) (n+4) (padTo g n k)) (fun i _=>4-(intOf i).toNat)
 case atStart=>exact ⟨0,Nat.zero_le _,rfl,hg3,hb3⟩
 case round =>
  obtain ⟨k,hk,rfl,hgr,hbk⟩:=hrel
  by_cases hlt:k<4
  ·have e1:=hbk.cell (j:=n+k) (by omega)
   have e2:=hbk.frozen (n+k)
   have R:=hbk.set' (j:=n+k) (by omega) (.int .u8 77)
   go_wp2
   go_roundw
   case rel=>exact ⟨k+1,by omega,by go_num,grown_new none hgr (grown_setCell _ _ _) (Nat.le_refl _),R.congr fun j _=>padTo_succ g n k j⟩
   case measure=>simp [intOf];omega
  ·have:k=4:=by omega
   subst this
   go_wp2
   go_ret
   exact ⟨_,rfl,Nat.le_refl _,hgr,hbk.congr fun j hj=>padTo_all g n j hj⟩
set_option maxHeartbeats 1000000 in
theorem kept_any (H:Nat) (ao:Option Addr) (n c N:Nat) (g:Nat→Int) (e0:TypeId) (w:World) (hn:n≤140737488355328) (hN:n+4≤N) (hb:Blk w H e0 N (n+4) (ints .u8 (pad g n))) (h:Src w .u8 ao n g) :
  Calls Tryz.prog 15 #[.slice (some ⟨H,0,none⟩) n N,.slice ao n c] w fun e w'=>e=.returned (.bool true)∧w.grownBy w' none:=by
 have hN':(n:Int)+4≤(N:Int):=by omega
 go_enter Tryz.func15,Tryz.ntmps15
 go_wp2
 go_loopw [6] (fun i wr=>∃ k:Nat,k≤n+4∧i=.int .i64 k∧w.grownBy wr none) (fun i _=>n+4-(intOf i).toNat)
 case atStart=>exact ⟨0,Nat.zero_le _,rfl,grown_refl _ _⟩
 case round =>
  obtain ⟨k,hk,rfl,hgr⟩:=hrel
  by_cases hlt:k<n+4
  ·have c1:wr.cell? ⟨H,k,none⟩=some (.int .u8 (pad g n k)):=(hb.keep hgr (by simp)).cell hlt
   by_cases hkn:k<n
   ·obtain ⟨b,off,rfl,hR⟩:=(h.keep hgr) (by omega)
    have c2:wr.cell? ⟨b,off+k,none⟩=some (.int .u8 (g k)):=hR k hkn
    have hp:pad g n k=g k:=by simp [pad,hkn]
    rw [hp] at c1
    have t1:(k:Int)<(n:Int):=by omega
    have t2:(k:Int)<(n:Int)+4:=by omega
    have t3:decide (n≤k)=false:=by simp;omega
    clear hb h hR hp
    go_wp2
    go_quiet (fail)
    go_wp2
    go_roundw
    case rel=>exact ⟨k+1,by omega,by go_num,grown_none hgr (grown_drewN _ _ _)⟩
    case measure=>simp [intOf];omega
   ·have hp:pad g n k=77:=by simp [pad,hkn]
    rw [hp] at c1
    have t1:decide (k<n)=false:=by simp;omega
    have t2:(k:Int)<(n:Int)+4:=by omega
    have t3:decide (n≤k)=true:=by simp;omega
    have t4:n≤k:=by omega
    clear hb h hp hkn
    go_wp2
    go_quiet (fail)
    go_wp2
    go_roundw
    case rel=>exact ⟨k+1,by omega,by go_num,grown_none hgr (grown_drewN _ _ _)⟩
    case measure=>simp [intOf];omega
  ·go_wp2
   go_ret
   exact ⟨rfl,hgr⟩
end Go.Proofs.YthbcfepbkkbjiaaGreatDoor
namespace Go.Proofs.YthbcfepbkkbjiaaGreatDoor
open Go.RowKit
def Held (w:World) (e:TypeId) (size:Nat) (ao:Option Addr) (n cap:Nat) (f:Nat→Value):Prop :=
 (ao=none∧n=0∧cap=0)∨∃ g,ao=some ⟨g,0,none⟩∧Blk w g e (cap*size) (n*size) f∧n≤cap∧cap≤maxLen
def own?:Option Addr→Option Nat | some a=>some a.block | none=>none
theorem Held.keep {w w':World} {e:TypeId} {size:Nat} {ao:Option Addr} {n cap:Nat} {f:Nat→Value} {row:Option Nat} (h:Held w e size ao n cap f) (hg:w.grownBy w' row) (hr:row=none∨own? ao≠row):Held w' e size ao n cap f:=by
 rcases h with h | ⟨g,rfl,hb,r⟩
 ·exact Or.inl h
 ·refine Or.inr ⟨g,rfl,hb.keep hg (fun e=>?_),r⟩
  rcases hr with hr | hr
  ·rw [hr] at e;cases e
  ·exact hr e
theorem Held.alloc {w:World} {e:TypeId} {size:Nat} {ao:Option Addr} {n cap:Nat} {f:Nat→Value} (h:Held w e size ao n cap f) (o:Obj):Held (w.alloc o) e size ao n cap f:=h.keep (World.grownBy_alloc w o none) (Or.inl rfl)
theorem Held.lt {w:World} {e:TypeId} {size:Nat} {ao:Option Addr} {n cap:Nat} {f:Nat→Value} (h:Held w e size ao n cap f):∀ g,own? ao=some g→g<w.heap.size:=by
 intro g hg
 rcases h with ⟨rfl,_⟩ | ⟨g',rfl,hb,_⟩
 ·cases hg
 ·cases hg;exact hb.lt
def Mkd (w:World) (b L:Nat) (f:Nat→Value):Prop:=∃ e N,Blk w b e N L f
theorem Mkd.same {w w':World} {b L:Nat} {f:Nat→Value} (h:Mkd w b L f) (hb:w'.heap[b]?=w.heap[b]?):Mkd w' b L f:=by
 obtain ⟨e,N,h⟩:=h
 exact ⟨e,N,h.same hb⟩
theorem Mkd.alloc {w:World} {b L:Nat} {f:Nat→Value} (h:Mkd w b L f) (o:Obj):Mkd (w.alloc o) b L f:=by
 obtain ⟨e,N,h⟩:=h
 exact ⟨e,N,h.alloc o⟩
theorem Mkd.lt {w:World} {b L:Nat} {f:Nat→Value} (h:Mkd w b L f):b<w.heap.size:=by
 obtain ⟨e,N,h⟩:=h
 exact h.lt
theorem Mkd.cell {w:World} {b L:Nat} {f:Nat→Value} (h:Mkd w b L f) {j:Nat} (hj:j<L):w.cell? ⟨b,j,none⟩=some (f j):=by
 obtain ⟨e,N,h⟩:=h
 exact h.cell hj
theorem Held.congr {w:World} {e:TypeId} {size:Nat} {ao:Option Addr} {n cap:Nat} {f f':Nat→Value} (h:Held w e size ao n cap f) (hf:∀ j,j<n*size→f j=f' j):Held w e size ao n cap f':=by
 rcases h with h | ⟨g,h1,h2,h3⟩
 ·exact Or.inl h
 ·exact Or.inr ⟨g,h1,h2.congr hf,h3⟩
theorem wpList_append_held {P:Program} (w:World) {ops:Array Oper} {rest:List Oper} {o:Oper} {a:Act} {Q:Exit→Act→World→Prop}
  (hgd:o.guard=none) (s x:Operand) (t:TypeId) (ho:o.op=.call { callee:=.builtin .append,args:=#[s,x],argTypes:=#[t,t] })
  (e:TypeId) (i:TypeInfo) (z:Value) (size bytes:Nat) (ht:P.underlying t=some (.slice e)) (hi:P.info? e=some i) (hz:i.zero=some z)
  (hsize:i.size=size) (hby:i.bytes=bytes) (hzs:z.cells.size=size) (hsz:0<size)
  (ao:Option Addr) (n cap:Nat) (f:Nat→Value) (hs:a.eval s=.slice ao n cap) (hv:Held w e size ao n cap f)
  (B m c:Nat) (arr:Array Value) (te:TypeId) (hx:a.eval x=.slice (some ⟨B,0,none⟩) m c) (hB:w.heap[B]?=some (.cells arr te (0,0))) (hl:arr.size=m*size) (h1:∀ u ∈ arr.toList,u.oneCell'=true)
  (hm:0<m) (h63:n+m≤maxLen) (hbytes:(n+m)*bytes≤140737488355328)
  (f':Nat→Value) (hf:∀ j,j<n*size→f j=f' j) (hf':∀ j,j<m*size→arr.getD j .nilFunc=f' (n*size+j))
  (h:∀ g' cap' w',Blk w' g' e (cap'*size) ((n+m)*size) f'→n+m≤cap'→cap'≤maxLen→Held w' e size ao n cap f'→w.grownBy w' (own? ao)→(own? ao=some g'∨w.heap.size≤g')→(∀ b L,Mkd w b L f'→L≤(n+m)*size→Mkd w' b L f') →
   wpList P ops Q rest (a.put o.dst (.slice (some ⟨g',0,none⟩) (n+m) cap')) w'):wpList P ops Q (o::rest) a w:=by
 refine wpList_plain hgd fun _ hK=>wp_append_blk w s x t ho e i z size bytes ht hi hz hsize hby hzs hsz ao n cap f hs hv B m c arr te hx hB hl h1 hm h63 hbytes fun g' cap' w' hb hc hcm hor=>hK _ _ ?_
 have hb':Blk w' g' e (cap'*size) ((n+m)*size) f':=hb.congr fun j hj=>by
  by_cases hjn:j<n*size
  ·rw [if_pos hjn];exact hf j hjn
  ·rw [if_neg hjn,hf' _ (by rw [Nat.add_mul] at hj;omega),show n*size+(j-n*size)=j by omega]
 rcases hor with ⟨hroom,rfl,rfl,hg⟩ | ⟨_,hlt,hg⟩
 ·refine h g' cap' w' hb' hc hcm (Or.inr ⟨g',rfl,hb'.less (Nat.mul_le_mul_right _ (by omega)),by omega,hcm⟩) hg (Or.inl rfl) fun b L hM hL=>?_
  by_cases hbg:b=g'
  ·subst hbg;exact ⟨_,_,hb'.less hL⟩
  ·obtain ⟨e1,N1,hB1⟩:=hM;exact ⟨e1,N1,hB1.keep hg (by simpa using hbg)⟩
 ·refine h g' cap' w' hb' hc hcm ?_ (grown_weak hg _) (Or.inr hlt) (fun b L hM _=>by obtain ⟨e1,N1,hB1⟩:=hM;exact ⟨e1,N1,hB1.keep hg (by simp)⟩)
  rcases hv with hv | ⟨g,rfl,hb0,r⟩
  ·exact Or.inl hv
  ·exact Or.inr ⟨g,rfl,(hb0.keep hg (by simp)).congr hf,r⟩
end Go.Proofs.YthbcfepbkkbjiaaGreatDoor
namespace Go.Proofs.YthbcfepbkkbjiaaGreatDoor
open Go.RowKit
attribute [local go_sem ↓] Go.wp_at_zero Go.wp_at_succ
def SrcI (w:World) (ao:Option Addr) (n:Nat) (q:Nat→Int):Prop:=0<n→∃ b off,ao=some ⟨b,off,none⟩∧Row w .i64 b off (4*n) q
theorem SrcI.keep {w w':World} {ao:Option Addr} {n:Nat} {q:Nat→Int} (h:SrcI w ao n q) (hg:w.grownBy w' none):SrcI w' ao n q:=fun hn=>by
 obtain ⟨b,off,h1,h2⟩:=h hn
 exact ⟨b,off,h1,h2.keep hg (by simp)⟩
end Go.Proofs.YthbcfepbkkbjiaaGreatDoor
namespace Go.Proofs.YthbcfepbkkbjiaaGreatDoor
open Go.RowKit
attribute [local go_sem ↓] Go.wp_at_zero Go.wp_at_succ
def mk (m:Int) (j:Nat):Int:=if j%4=0 then m else 0
def Lists (w:World) (A:Nat→Prop) (v:Value) (m:Int):Prop :=
 ∃ (R:Nat) (E:Nat→Option Addr × Nat × Nat),v=.slice (some ⟨R,0,none⟩) 4 4∧A R∧Mkd w R 4 (fun i=>.slice (E i).1 (E i).2.1 (E i).2.2) ∧
  ∀ i,i<4→(E i).2.1≤259∧(0<(E i).2.1→∃ b,(E i).1=some ⟨b,0,none⟩∧A b∧Mkd w b (4*(E i).2.1) (ints .i64 (mk m)))
theorem Lists.keep {w w':World} {A A':Nat→Prop} {v:Value} {m:Int} (h:Lists w A v m) (hA:∀ k,A k→A' k) (hs:∀ k,A k→k<w.heap.size→w'.heap[k]?=w.heap[k]?):Lists w' A' v m:=by
 obtain ⟨R,E,h1,h2,h3,h4⟩:=h
 refine ⟨R,E,h1,hA _ h2,h3.same (hs _ h2 h3.lt),fun i hi=>⟨(h4 i hi).1,fun hp=>?_⟩⟩
 obtain ⟨b,e1,e2,e3⟩:=(h4 i hi).2 hp
 exact ⟨b,e1,hA _ e2,e3.same (hs _ e2 e3.lt)⟩
end Go.Proofs.YthbcfepbkkbjiaaGreatDoor
namespace Go.Proofs.YthbcfepbkkbjiaaGreatDoor
open Go.RowKit
attribute [local go_sem ↓] Go.wp_at_zero Go.wp_at_succ
def Books (w:World) (O:Nat) (A:Nat→Prop) (N0 t:Nat):Prop :=
 ∃ (la ma:Option Addr) (lc mc:Nat) (E:Nat→Option Addr × Nat × Nat) (M:Nat→Int),
  Blk w O 36 2 2 (fun j=>if j=0 then .slice la (4*t) lc else .slice ma (4*t) mc)∧O<N0∧¬ A O ∧
  Held w 25 1 la (4*t) lc (fun i=>.slice (E i).1 (E i).2.1 (E i).2.2)∧(∀ g,own? la=some g→g<N0∧¬ A g∧g≠O) ∧
  Held w 5 1 ma (4*t) mc (ints .u8 M)∧(∀ g,own? ma=some g→g<N0∧¬ A g∧g≠O∧own? la≠some g) ∧
  (∀ k,A k→k<w.heap.size)∧(∀ j,0≤M j∧M j≤255) ∧
  ∀ i,i<4*t→(E i).2.1≤140737488355332∧(0<(E i).2.1→∃ b,(E i).1=some ⟨b,0,none⟩∧A b∧Mkd w b (E i).2.1 (fun _=>.int .u8 (M i)))
theorem Books.grow {w w':World} {O:Nat} {A A':Nat→Prop} {N0 N1 t:Nat} (h:Books w O A N0 t) (hg:w.grownBy w' none) (hN:N0≤N1) (hA:∀ k,A k→A' k) (hA':∀ k,A' k→A k∨(N0≤k∧k<w'.heap.size)):Books w' O A' N1 t:=by
 obtain ⟨la,ma,lc,mc,E,M,h1,h2,h3,h4,h5,h6,h7,h8,h9,h10⟩:=h
 refine ⟨la,ma,lc,mc,E,M,h1.keep hg (by simp),by omega,?_,h4.keep hg (Or.inl rfl),?_,h6.keep hg (Or.inl rfl),?_,?_,h9,?_⟩
 ·intro hc
  rcases hA' _ hc with hc | hc
  ·exact h3 hc
  ·omega
 ·intro g hg'
  obtain ⟨a1,a2,a3⟩:=h5 g hg'
  refine ⟨by omega,fun hc=>?_,a3⟩
  rcases hA' _ hc with hc | hc
  ·exact a2 hc
  ·omega
 ·intro g hg'
  obtain ⟨a1,a2,a3⟩:=h7 g hg'
  refine ⟨by omega,fun hc=>?_,a3⟩
  rcases hA' _ hc with hc | hc
  ·exact a2 hc
  ·omega
 ·intro k hk
  rcases hA' _ hk with hc | hc
  ·exact Nat.lt_of_lt_of_le (h8 k hc) hg.size
  ·exact hc.2
 ·intro i hi
  refine ⟨(h10 i hi).1,fun hp=>?_⟩
  obtain ⟨b,e1,e2,e3⟩:=(h10 i hi).2 hp
  exact ⟨b,e1,hA _ e2,e3.same (hg.block b e3.lt (by simp))⟩
theorem Tryz.infoBytes:(Tryz.prog.info? 25).map (fun i=>(i.zero,i.size,i.bytes))=some (some (.slice none 0 0),1,24):=by kernel_rfl
theorem same1 (u:Value) (j:Nat) (hj:j<1*1):#[u].getD j .nilFunc=u:=by
 match j,hj with
 | 0,_=>rfl
theorem same2 (u:Value) (j:Nat) (hj:j<2*1):#[u,u].getD j .nilFunc=u:=by
 match j,hj with
 | 0,_=>rfl
 | 1,_=>rfl
theorem same3 (u:Value) (j:Nat) (hj:j<3*1):#[u,u,u].getD j .nilFunc=u:=by
 match j,hj with
 | 0,_=>rfl
 | 1,_=>rfl
 | 2,_=>rfl
theorem same4 (u:Value) (j:Nat) (hj:j<4*1):#[u,u,u,u].getD j .nilFunc=u:=by
 match j,hj with
 | 0,_=>rfl
 | 1,_=>rfl
 | 2,_=>rfl
 | 3,_=>rfl
def markOf (t:Nat):Int:=100+(t:Int)%150
def mbTo (f:Nat→Value) (u:Value) (k:Nat):Nat→Value:=fun j=>if j<k then u else f j
theorem mbTo_succ (f:Nat→Value) (u:Value) (k j:Nat):(if j=k then u else mbTo f u k j)=mbTo f u (k+1) j:=by
 unfold mbTo
 by_cases e:j=k
 ·rw [if_pos e,if_pos (by omega)]
 ·rw [if_neg e]
  by_cases e2:j<k
  ·rw [if_pos e2,if_pos (by omega)]
  ·rw [if_neg e2,if_neg (by omega)]
def sl (x:Option Addr × Nat × Nat):Value:=.slice x.1 x.2.1 x.2.2
def newE (E:Nat→Option Addr × Nat × Nat) (L:Nat) (a b c d:Option Addr × Nat × Nat):Nat→Option Addr × Nat × Nat:=fun i=>if i<L then E i else if i=L then a else if i=L+1 then b else if i=L+2 then c else d
theorem newE_old (E:Nat→Option Addr × Nat × Nat) (L:Nat) (a b c d:Option Addr × Nat × Nat) (i:Nat) (hi:i<L):newE E L a b c d i=E i:=if_pos hi
theorem newE_0 (E:Nat→Option Addr × Nat × Nat) (L:Nat) (a b c d:Option Addr × Nat × Nat):newE E L a b c d L=a:=by simp [newE]
theorem newE_z (E:Nat→Option Addr × Nat × Nat) (L:Nat) (a b c d:Option Addr × Nat × Nat):newE E L a b c d (L+0)=a:=newE_0 E L a b c d
theorem newE_1 (E:Nat→Option Addr × Nat × Nat) (L:Nat) (a b c d:Option Addr × Nat × Nat):newE E L a b c d (L+1)=b:=by unfold newE;rw [if_neg (by omega)];simp
theorem newE_2 (E:Nat→Option Addr × Nat × Nat) (L:Nat) (a b c d:Option Addr × Nat × Nat):newE E L a b c d (L+2)=c:=by unfold newE;rw [if_neg (by omega)];simp
theorem newE_3 (E:Nat→Option Addr × Nat × Nat) (L:Nat) (a b c d:Option Addr × Nat × Nat):newE E L a b c d (L+3)=d:=by unfold newE;rw [if_neg (by omega)];simp
theorem newE_arr (E:Nat→Option Addr × Nat × Nat) (L:Nat) (a b c d:Option Addr × Nat × Nat) (j:Nat) (hj:j<4*1):#[sl a,sl b,sl c,sl d].getD j .nilFunc=sl (newE E L a b c d (L*1+j)):=by
 rw [Nat.mul_one]
 match j,hj with
 | 0,_=>rw [Nat.add_zero,newE_0];rfl
 | 1,_=>rw [newE_1];rfl
 | 2,_=>rw [newE_2];rfl
 | 3,_=>rw [newE_3];rfl
def newM (M:Nat→Int) (L:Nat) (X:Int):Nat→Int:=fun i=>if i<L then M i else X
theorem newM_old (M:Nat→Int) (L:Nat) (X:Int) (j:Nat) (hj:j<L*1):ints .u8 M j=ints .u8 (newM M L X) j:=by
 unfold ints newM
 rw [if_pos (by omega)]
theorem newM_arr (M:Nat→Int) (L:Nat) (X:Int) (j:Nat) (hj:j<4*1):#[Value.int .u8 X,.int .u8 X,.int .u8 X,.int .u8 X].getD j .nilFunc=ints .u8 (newM M L X) (L*1+j):=by
 rw [same4 _ j hj]
 unfold ints newM
 rw [if_neg (by omega)]
structure Kept (A:Nat→Prop) (w w':World):Prop where
 os:w'.os=w.os
 tape:w'.tape=w.tape
 output:w'.output=w.output
 size:w.heap.size≤w'.heap.size
 block:∀ k,A k→k<w.heap.size→w'.heap[k]?=w.heap[k]?
theorem Kept.trans {A B:Nat→Prop} {a b c:World} (h:Kept A a b) (k:Kept B b c) (hAB:∀ k,A k→B k):Kept A a c :=
 ⟨k.os.trans h.os,k.tape.trans h.tape,k.output.trans h.output,Nat.le_trans h.size k.size,fun i hi hl=>(k.block i (hAB i hi) (Nat.lt_of_lt_of_le hl h.size)).trans (h.block i hi hl)⟩
theorem size_setCell (w:World) (a:Addr) (v:Value):(w.setCell a v).heap.size=w.heap.size:=by simp [World.setCell]
end Go.Proofs.YthbcfepbkkbjiaaGreatDoor
