import Derived.Test.YthbcfepbkkbjiaaGreatDoorRows
import Derived.Test.YthbcfepbkkbjiaaGreatDoorI1
import Derived.Test.YthbcfepbkkbjiaaGreatDoorI2
set_option maxRecDepth 100000
namespace Go.Proofs.YthbcfepbkkbjiaaGreatDoor
open Go.RowKit
theorem be_one (g:Nat→Int) (o:Nat):be g o 1=g o:=by simp [be]
set_option maxHeartbeats 400000 in
theorem load0 (v:Value) (w:World):Calls Tryz.prog 157 #[v,.int .i64 0] w fun e w'=>e=.returned (.int .u32 0)∧w'=w:=by
 go_enter Tryz.func157,Tryz.ntmps157
 go_wp2
 go_ret
 exact ⟨rfl,rfl⟩
set_option maxHeartbeats 400000 in
theorem load1 (b off n c:Nat) (g:Nat→Int) (w:World) (hn:1≤n) (hg:Oct g) (h:Row w .u8 b off n g) :
  Calls Tryz.prog 157 #[.slice (some ⟨b,off,none⟩) n c,.int .i64 1] w fun e w'=>e=.returned (.int .u32 (g 0))∧w'=w:=by
 have hc:=h 0 (by omega)
 rw [Nat.add_zero] at hc
 have hb:=hg 0
 have B:bits .or .u32 0 (g 0)=g 0:=by
  have:=shl8_or (x:=0) (by omega) (by omega) hb.1 (by omega)
  simpa using this
 go_enter Tryz.func157,Tryz.ntmps157
 go_wp2
 go_ret
 exact ⟨rfl,rfl⟩
theorem be_two (g:Nat→Int):be g 0 2=g 0*256+g 1:=by simp [be];omega
theorem be_four (g:Nat→Int):be g 0 4=((g 0*256+g 1)*256+g 2)*256+g 3:=by simp [be];omega
set_option maxHeartbeats 400000 in
theorem load2 (b off n c:Nat) (g:Nat→Int) (w:World) (hn:2≤n) (hc:n≤c) (hg:Oct g) (h:Row w .u8 b off n g) :
  Calls Tryz.prog 157 #[.slice (some ⟨b,off,none⟩) n c,.int .i64 2] w fun e w'=>e=.returned (.int .u32 (be g 0 2))∧w'=w:=by
 have h1:=h 1 (by omega)
 have b0:=hg 0
 have b1:=hg 1
 have B0:bits .or .u32 0 (g 0)=g 0:=by
  have:=shl8_or (x:=0) (by omega) (by omega) b0.1 (by omega)
  simpa using this
 have B1:=shl8_or (x:=g 0) (b:=g 1) (by omega) (by omega) b1.1 (by omega)
 go_enter Tryz.func157,Tryz.ntmps157
 go_wp2_with (go_at_call 157;refine (load1 b off n c g _ (by omega) hg h).mono ?_;rintro e w1 ⟨rfl,rfl⟩)
 go_ret
 exact ⟨by rw [be_two];rfl,rfl⟩
theorem load2x (b off n c:Nat) (g:Nat→Int) (X:Int) (w:World) (hn:2≤n) (hc:n≤c) (hg:Oct g) (h:Row w .u8 b off n g) (hX:X=be g 0 2) :
  Calls Tryz.prog 157 #[.slice (some ⟨b,off,none⟩) n c,.int .i64 2] w fun e w'=>e=.returned (.int .u32 X)∧w'=w:=by
 rw [hX];exact load2 b off n c g w hn hc hg h
set_option maxHeartbeats 400000 in
theorem load4 (b off n c:Nat) (g:Nat→Int) (w:World) (hn:4≤n) (hc:n≤c) (hg:Oct g) (h:Row w .u8 b off n g) :
  Calls Tryz.prog 157 #[.slice (some ⟨b,off,none⟩) n c,.int .i64 4] w fun e w'=>e=.returned (.int .u32 (be g 0 4))∧w'=w:=by
 have h2:Row w .u8 b (off+2) (n-2) (fun j=>g (2+j)):=h.part (by omega)
 have h3:=h 3 (by omega)
 have b0:=hg 0
 have b1:=hg 1
 have b2:=hg 2
 have b3:=hg 3
 obtain ⟨X,hX⟩:∃ X,X=be g 0 2:=⟨_,rfl⟩
 have HX:Hid (X=be g 0 2):=hX
 have x0:0≤X∧X≤65535:=by rw [be_two] at hX;omega
 have B1:=shl8_or (x:=X) (b:=g 2) (by omega) (by omega) b2.1 (by omega)
 have B2:=shl8_or (x:=X*256+g 2) (b:=g 3) (by omega) (by omega) b3.1 (by omega)
 clear hX b0 b1
 go_enter Tryz.func157,Tryz.ntmps157
 go_wp2_with (go_at_call 157;refine (load2x b off n c g X _ (by omega) hc hg h HX.out).mono ?_;rintro e w1 ⟨rfl,rfl⟩;go_wp2_with (go_at_call 157;refine (load1 b (off+2) (n-2) _ (fun j=>g (2+j)) _ (by omega) (fun j=>hg _) h2).mono ?_;rintro e w2 ⟨rfl,rfl⟩))
 go_ret
 exact ⟨by rw [be_four,← be_two,← HX.out];rfl,rfl⟩
set_option maxHeartbeats 400000 in
theorem reckon_any (o x y:Int) (w:World) (ho:0≤o∧o≤9) (hx:U32 x) (hy:U32 y) (h0:div0 o y=false) :
  Calls Tryz.prog 158 #[.int .i64 o,.int .u32 x,.int .u32 y] w fun e w'=>e=.returned (.int .u32 (opv o x y))∧w'=w:=by
 obtain ⟨x0,x1⟩:=hx
 obtain ⟨y0,y1⟩:=hy
 have Y:o=3∨o=4→¬ y=0:=fun h e=>by
  have:=(div0_iff o y).2 ⟨h,e⟩
  rw [this] at h0;cases h0
 have ho':o=0∨o=1∨o=2∨o=3∨o=4∨o=5∨o=6∨o=7∨o=8∨o=9:=by omega
 rcases ho' with rfl | rfl | rfl | rfl | rfl | rfl | rfl | rfl | rfl | rfl
 all_goals
  have Y':=Y
  clear Y h0 ho
  try have y2:¬ y=0:=Y' (by decide)
  try clear Y'
  go_enter Tryz.func158,Tryz.ntmps158
  go_wp2
  go_ret
  exact ⟨rfl,rfl⟩
end Go.Proofs.YthbcfepbkkbjiaaGreatDoor
namespace Go.Proofs.YthbcfepbkkbjiaaGreatDoor
open Go.RowKit
def Siz (s:Nat):Prop:=s=0∨s=1∨s=2∨s=4
theorem load_any (b off n c s:Nat) (g:Nat→Int) (w:World) (hs:Siz s) (hn:s≤n) (hc:n≤c) (hg:Oct g) (h:Row w .u8 b off n g) :
  Calls Tryz.prog 157 #[.slice (some ⟨b,off,none⟩) n c,.int .i64 s] w fun e w'=>e=.returned (.int .u32 (be g 0 s))∧w'=w:=by
 rcases hs with rfl | rfl | rfl | rfl
 ·exact load0 _ w
 ·have:=load1 b off n c g w hn hg h
  rw [be_one];exact this
 ·exact load2 b off n c g w hn hc hg h
 ·exact load4 b off n c g w hn hc hg h
theorem load_part (b off n c m s p:Nat) (g:Nat→Int) (X:Int) (w:World) (hs:Siz s) (hp:p+m≤n) (hn:s≤m) (hc:m≤c) (hg:Oct g) (h:Row w .u8 b off n g) (hX:X=be g p s) :
  Calls Tryz.prog 157 #[.slice (some ⟨b,off+p,none⟩) m c,.int .i64 s] w fun e w'=>e=.returned (.int .u32 X)∧w'=w:=by
 have:=load_any b (off+p) m c s (fun j=>g (p+j)) w hs hn hc (fun j=>hg _) (h.part hp)
 rw [be_shift] at this
 rw [hX];exact this
set_option maxHeartbeats 400000 in
theorem Load_no (ao:Option Addr) (n c p s:Nat) (w:World) (hm:n≤maxLen) (hp:p≤4611686018427387904) (hs:s≤4) (h:n<p+s) :
  Calls Tryz.prog 125 #[.slice ao n c,.int .i64 p,.int .i64 s] w fun e w'=>e=.returned (.tuple #[.int .u32 0,.bool false])∧w'=w:=by
 unfold maxLen at hm
 go_enter Tryz.func125,Tryz.ntmps125
 go_wp2
 go_ret2
 exact ⟨rfl,rfl⟩
set_option maxHeartbeats 400000 in
theorem Load_ok (b off n c p s:Nat) (g:Nat→Int) (X:Int) (w:World) (hs:Siz s) (hm:n≤maxLen) (hc:n≤c) (h:p+s≤n) (hg:Oct g) (hR:Row w .u8 b off n g) (hX:X=be g p s) :
  Calls Tryz.prog 125 #[.slice (some ⟨b,off,none⟩) n c,.int .i64 p,.int .i64 s] w fun e w'=>e=.returned (.tuple #[.int .u32 X,.bool true])∧w'=w:=by
 unfold maxLen at hm
 have hs4:s≤4:=by unfold Siz at hs;omega
 by_cases hcp:c=p
 ·have h0:s=0:=by omega
  subst h0
  have hX0:X=0:=hX
  have hs':Hid (Siz 0):=hs
  subst hX0
  clear hX hs hR hg hs4
  go_enter Tryz.func125,Tryz.ntmps125
  go_wp2_with (go_at_call 157;refine (load0 _ _).mono ?_;rintro e w1 ⟨rfl,rfl⟩)
  go_ret2
  exact ⟨rfl,rfl⟩
 ·go_enter Tryz.func125,Tryz.ntmps125
  go_wp2_with (go_at_call 157;refine (load_part b off n _ _ s p g X _ hs ?_ ?_ ?_ hg hR hX).mono ?_;omega;omega;omega;rintro e w1 ⟨rfl,rfl⟩)
  go_ret2
  exact ⟨by rw [hX];rfl,rfl⟩
set_option maxHeartbeats 400000 in
theorem Reckon_any (o x y:Int) (w:World) (ho:0≤o∧o≤9) (hx:U32 x) (hy:U32 y) :
  Calls Tryz.prog 130 #[.int .i64 o,.int .u32 x,.int .u32 y] w fun e w'=>e=.returned (.tuple #[.int .u32 (opr o x y),.bool (!div0 o y)])∧w'=w:=by
 by_cases hy0:y=0
 ·subst hy0
  by_cases h3:o=3
  ·subst h3
   go_enter Tryz.func130,Tryz.ntmps130
   go_wp2
   go_ret2
   exact ⟨rfl,rfl⟩
  ·by_cases h4:o=4
   ·subst h4
    go_enter Tryz.func130,Tryz.ntmps130
    go_wp2
    go_ret2
    exact ⟨rfl,rfl⟩
   ·have t3:(o == 3)=false:=by simp [h3]
    have t4:(o == 4)=false:=by simp [h4]
    have D:div0 o 0=false:=by simp [div0,h3,h4]
    go_enter Tryz.func130,Tryz.ntmps130
    go_wp2_with (go_at_call 158;refine (reckon_any o x 0 _ ho hx hy D).mono ?_;rintro e w1 ⟨rfl,rfl⟩)
    go_ret2
    exact ⟨by unfold opr;rw [D];rfl,rfl⟩
 ·have t0:(y == 0)=false:=by simp [hy0]
  have D:div0 o y=false:=by simp [div0,hy0]
  go_enter Tryz.func130,Tryz.ntmps130
  go_wp2_with (go_at_call 158;refine (reckon_any o x y _ ho hx hy D).mono ?_;rintro e w1 ⟨rfl,rfl⟩)
  go_ret2
  exact ⟨by unfold opr;rw [D];rfl,rfl⟩
set_option maxHeartbeats 400000 in
theorem Holds_any (o x y:Int) (w:World) (ho:0≤o∧o≤3) :
  Calls Tryz.prog 131 #[.int .i64 o,.int .u32 x,.int .u32 y] w fun e w'=>e=.returned (.bool (askv o x y))∧w'=w:=by
 have ho':o=0∨o=1∨o=2∨o=3:=by omega
 rcases ho' with rfl | rfl | rfl | rfl
 all_goals
  clear ho
  go_enter Tryz.func131,Tryz.ntmps131
  go_wp2
  go_ret
  exact ⟨rfl,rfl⟩
end Go.Proofs.YthbcfepbkkbjiaaGreatDoor
namespace Go.Proofs.YthbcfepbkkbjiaaGreatDoor
open Go.RowKit
set_option maxHeartbeats 400000 in
theorem rbytes_nos (ao:Option Addr) (n c p s:Nat) (w:World) (hm:n≤maxLen) (hp:p≤4611686018427387904) (hs:s≤4) (h:n<p+s) :
  Calls Tryz.prog 83 #[.slice ao n c,.int .i64 p,.int .i64 s] w fun e w'=>e=.returned (.tuple #[.int .i64 0,.bool false])∧w'=w:=by
 unfold maxLen at hm
 go_enter Tryz.func83,Tryz.ntmps83
 go_wp2
 go_ret2
 exact ⟨rfl,rfl⟩
set_option maxHeartbeats 400000 in
theorem rbytes_oks (b off n c p s:Nat) (g:Nat→Int) (w:World) (hs:s≤4) (hm:n≤maxLen) (h:p+s≤n) (hg:Oct g) (hR:Row w .u8 b off n g) :
  Calls Tryz.prog 83 #[.slice (some ⟨b,off,none⟩) n c,.int .i64 p,.int .i64 s] w fun e w'=>e=.returned (.tuple #[.int .i64 (be g p s),.bool true])∧w'=w:=by
 unfold maxLen at hm
 go_enter Tryz.func83,Tryz.ntmps83
 go_wp2
 go_loop [8,9] (fun v i=>∃ k:Nat,k≤s∧i=.int .i64 k∧v=.int .i64 (be g p k)) (fun _ i=>s-(intOf i).toNat)
 case atStart=>exact ⟨0,Nat.zero_le _,rfl,rfl⟩
 case round =>
  obtain ⟨k,hk,rfl,rfl⟩:=hrel
  by_cases hlt:k<s
  ·have hc:w.cell? ⟨b,off+(p+k),none⟩=some (.int .u8 (g (p+k))):=hR (p+k) (by omega)
   have hgk:=hg (p+k)
   have HB:=(be_u32 hg p k (by omega))
   obtain ⟨B0,B1⟩:=HB
   clear hg
   go_wp2
   go_round
   case rel=>exact ⟨k+1,by omega,by go_num,by simp only [be]⟩
   case measure=>simp [intOf];omega
  ·have:k=s:=by omega
   subst this
   go_wp2
   go_ret2
   exact ⟨rfl,rfl⟩
set_option maxHeartbeats 400000 in
theorem asked_same (o x y:Int) (w:World) (ho:0≤o∧o≤3) (hx:U32 x) (hy:U32 y) :
  Calls Tryz.prog 85 #[.int .i64 o,.int .i64 x,.int .i64 y] w fun e w'=>e=.returned (.bool (askv o x y))∧w'=w:=by
 have ho':o=0∨o=1∨o=2∨o=3:=by omega
 have HA:Hid (bits .and .i64 x y=bits .and .u32 x y):=and_same hx hy
 rcases ho' with rfl | rfl | rfl | rfl
 all_goals
  clear ho
  go_enter Tryz.func85,Tryz.ntmps85
  go_wp2
  go_ret
  exact ⟨by first | rfl | (show Ending.returned (.bool (bits .and .i64 x y != 0))=_;rw [HA.out];rfl),rfl⟩
theorem mul_way {x y:Int} (hx:U32 x) (hy:U32 y) :
  (wrap64 (wrap64 (x%65536*y)+wrap64 ((wrap64 (x/65536*(y%65536))).tmod 65536*65536))).tmod 4294967296=x*y%4294967296:=by
 obtain ⟨x0,x1⟩:=hx
 obtain ⟨y0,y1⟩:=hy
 have H:=mul_halves x y
 have a0:0≤x%65536*y:=Int.mul_nonneg (by omega) y0
 have a1:x%65536*y≤65535*4294967295:=Int.mul_le_mul (by omega) (by omega) y0 (by omega)
 have b0:0≤x/65536*(y%65536):=Int.mul_nonneg (by omega) (by omega)
 have b1:x/65536*(y%65536)≤65535*65535:=Int.mul_le_mul (by omega) (by omega) (by omega) (by omega)
 generalize x%65536*y=a at *
 generalize x/65536*(y%65536)=b at *
 generalize x*y=c at *
 rw [IntWalk.wrap64_in a ⟨by omega,by omega⟩,IntWalk.wrap64_in b ⟨by omega,by omega⟩,Int.tmod_eq_emod_of_nonneg b0,IntWalk.wrap64_in (b%65536*65536) ⟨by omega,by omega⟩,
  IntWalk.wrap64_in _ ⟨by omega,by omega⟩,Int.tmod_eq_emod_of_nonneg (by omega)]
 exact H
theorem div_way {x y:Int} (hx:U32 x) (hy:U32 y):wrap64 (x.tdiv y)=x/y:=by
 have h1:=Int.ediv_nonneg hx.1 hy.1
 have h2:=Int.ediv_le_self y hx.1
 have:=hx.2
 rw [Int.tdiv_eq_ediv_of_nonneg hx.1,IntWalk.wrap64_in _ ⟨by omega,by omega⟩]
theorem opr_no {o y:Int} (x:Int) (h:div0 o y=false):opr o x y=opv o x y:=by unfold opr;rw [h];rfl
set_option maxHeartbeats 1000000 in
theorem done_low (o x y:Int) (w:World) (ho:0≤o∧o≤7) (hx:U32 x) (hy:U32 y) :
  Calls Tryz.prog 84 #[.int .i64 o,.int .i64 x,.int .i64 y] w fun e w'=>e=.returned (.tuple #[.int .i64 (opr o x y),.bool (!div0 o y)])∧w'=w:=by
 have ho':o=0∨o=1∨o=2∨o=3∨o=4∨o=5∨o=6∨o=7:=by omega
 have HO:Hid (bits .or .i64 x y=bits .or .u32 x y):=or_same hx hy
 have HA:Hid (bits .and .i64 x y=bits .and .u32 x y):=and_same hx hy
 have HX:Hid (bits .xor .i64 x y=bits .xor .u32 x y):=xor_same hx hy
 have HM:=@mul_way x y hx hy
 have HD:=@div_way x y hx hy
 obtain ⟨x0,x1⟩:=hx
 obtain ⟨y0,y1⟩:=hy
 rcases ho' with rfl | rfl | rfl | rfl | rfl | rfl | rfl | rfl
 all_goals clear ho
 ·clear HM HD
  go_enter Tryz.func84,Tryz.ntmps84
  go_wp2
  go_ret2
  exact ⟨rfl,rfl⟩
 ·clear HM HD
  have E:opr 1 x y=(x+4294967296-y)%4294967296:=by
   show (x-y)%4294967296=_
   omega
  go_enter Tryz.func84,Tryz.ntmps84
  go_wp2
  go_ret2
  exact ⟨by rw [E];rfl,rfl⟩
 ·have HM':Hid _:=HM
  clear HM HD
  go_enter Tryz.func84,Tryz.ntmps84
  go_wp2
  go_ret2
  exact ⟨by rw [show opr 2 x y=x*y%4294967296 from rfl,← HM'.out];rfl,rfl⟩
 ·have HD':Hid _:=HD
  clear HM HD
  by_cases hy0:y=0
  ·subst hy0
   go_enter Tryz.func84,Tryz.ntmps84
   go_wp2
   go_ret2
   exact ⟨rfl,rfl⟩
  ·have t:(y == 0)=false:=by simp [hy0]
   have D:div0 3 y=false:=by simp [div0,hy0]
   go_enter Tryz.func84,Tryz.ntmps84
   go_wp2
   go_ret2
   exact ⟨by rw [opr_no x D,D,show opv 3 x y=x/y from rfl,← HD'.out];rfl,rfl⟩
 ·clear HM HD
  by_cases hy0:y=0
  ·subst hy0
   go_enter Tryz.func84,Tryz.ntmps84
   go_wp2
   go_ret2
   exact ⟨rfl,rfl⟩
  ·have t:(y == 0)=false:=by simp [hy0]
   have D:div0 4 y=false:=by simp [div0,hy0]
   go_enter Tryz.func84,Tryz.ntmps84
   go_wp2
   go_ret2
   exact ⟨by rw [opr_no x D,D];rfl,rfl⟩
 ·clear HM HD
  go_enter Tryz.func84,Tryz.ntmps84
  go_wp2
  go_ret2
  exact ⟨by rw [show opr 5 x y=bits .or .u32 x y from rfl,← HO.out];rfl,rfl⟩
 ·clear HM HD
  go_enter Tryz.func84,Tryz.ntmps84
  go_wp2
  go_ret2
  exact ⟨by rw [show opr 6 x y=bits .and .u32 x y from rfl,← HA.out];rfl,rfl⟩
 ·clear HM HD
  go_enter Tryz.func84,Tryz.ntmps84
  go_wp2
  go_ret2
  exact ⟨by rw [show opr 7 x y=bits .xor .u32 x y from rfl,← HX.out];rfl,rfl⟩
set_option maxHeartbeats 1000000 in
theorem done_shl (x:Int) (y:Nat) (w:World) (hx:U32 x) (hy:y≤31) :
  Calls Tryz.prog 84 #[.int .i64 8,.int .i64 x,.int .i64 y] w fun e w'=>e=.returned (.tuple #[.int .i64 (x*2 ^ y%4294967296),.bool true])∧w'=w:=by
 go_enter Tryz.func84,Tryz.ntmps84
 go_wp2
 go_loop [1,10] (fun v i=>∃ k:Nat,k≤y∧i=.int .i64 k∧v=.int .i64 (x*2 ^ k%4294967296)) (fun _ i=>y-(intOf i).toNat)
 case atStart=>exact ⟨0,Nat.zero_le _,rfl,by obtain ⟨x0,x1⟩:=hx;rw [Int.pow_zero,Int.mul_one,Int.emod_eq_of_lt x0 x1]⟩
 case round =>
  obtain ⟨k,hk,rfl,rfl⟩:=hrel
  have HS:Hid (x*2 ^ k%4294967296*2%4294967296=x*2 ^ (k+1)%4294967296):=shl_step x k
  have X0:0≤x*2 ^ k%4294967296:=Int.emod_nonneg _ (by decide)
  have X1:x*2 ^ k%4294967296<4294967296:=Int.emod_lt_of_pos _ (by decide)
  obtain ⟨X,hX⟩:∃ X,X=x*2 ^ k%4294967296:=⟨_,rfl⟩
  rw [← hX] at HS X0 X1 ⊢
  have HX:Hid (X=x*2 ^ k%4294967296):=hX
  clear hX
  by_cases hlt:k<y
  ·go_wp2
   go_round
   case rel=>exact ⟨k+1,by omega,by go_num,by rw [← HS.out]⟩
   case measure=>simp [intOf];omega
  ·have:k=y:=by omega
   subst this
   go_wp2
   go_ret2
   exact ⟨by rw [← HX.out];rfl,rfl⟩
set_option maxHeartbeats 1000000 in
theorem done_shr (x:Int) (y:Nat) (w:World) (hx:U32 x) (hy:y≤31) :
  Calls Tryz.prog 84 #[.int .i64 9,.int .i64 x,.int .i64 y] w fun e w'=>e=.returned (.tuple #[.int .i64 (x/2 ^ y),.bool true])∧w'=w:=by
 go_enter Tryz.func84,Tryz.ntmps84
 go_wp2
 go_loop [1,10] (fun v i=>∃ k:Nat,k≤y∧i=.int .i64 k∧v=.int .i64 (x/2 ^ k)) (fun _ i=>y-(intOf i).toNat)
 case atStart=>exact ⟨0,Nat.zero_le _,rfl,by rw [Int.pow_zero,Int.ediv_one]⟩
 case round =>
  obtain ⟨k,hk,rfl,rfl⟩:=hrel
  have HS:Hid (x/2 ^ k/2=x/2 ^ (k+1)):=shr_step x k
  have X0:0≤x/2 ^ k:=Int.ediv_nonneg hx.1 (Int.le_of_lt (pow_pos2 k))
  have X1:x/2 ^ k<4294967296:=Int.lt_of_le_of_lt (Int.ediv_le_self _ hx.1) hx.2
  obtain ⟨X,hX⟩:∃ X,X=x/2 ^ k:=⟨_,rfl⟩
  rw [← hX] at HS X0 X1 ⊢
  have HX:Hid (X=x/2 ^ k):=hX
  clear hX
  by_cases hlt:k<y
  ·go_wp2
   go_round
   case rel=>exact ⟨k+1,by omega,by go_num,by rw [← HS.out]⟩
   case measure=>simp [intOf];omega
  ·have:k=y:=by omega
   subst this
   go_wp2
   go_ret2
   exact ⟨by rw [← HX.out];rfl,rfl⟩
set_option maxHeartbeats 1000000 in
theorem done_far (o x y:Int) (w:World) (ho:8≤o∧o≤9) (hy:31<y) :
  Calls Tryz.prog 84 #[.int .i64 o,.int .i64 x,.int .i64 y] w fun e w'=>e=.returned (.tuple #[.int .i64 0,.bool true])∧w'=w:=by
 have ho':o=8∨o=9:=by omega
 rcases ho' with rfl | rfl
 all_goals
  clear ho
  go_enter Tryz.func84,Tryz.ntmps84
  go_wp2
  go_ret2
  exact ⟨rfl,rfl⟩
theorem done_same (o x y:Int) (w:World) (ho:0≤o∧o≤9) (hx:U32 x) (hy:U32 y) :
  Calls Tryz.prog 84 #[.int .i64 o,.int .i64 x,.int .i64 y] w fun e w'=>e=.returned (.tuple #[.int .i64 (opr o x y),.bool (!div0 o y)])∧w'=w:=by
 by_cases h7:o≤7
 ·exact done_low o x y w ⟨ho.1,h7⟩ hx hy
 ·have D:div0 o y=false:=by simp [div0];omega
  rw [opr_no x D,D]
  by_cases hf:31<y
  ·refine (done_far o x y w ⟨by omega,ho.2⟩ hf).mono ?_
   rintro e w' ⟨rfl,hg⟩
   refine ⟨?_,hg⟩
   by_cases e8:o=8
   ·subst e8
    rw [show opv 8 x y=x*2 ^ min y.toNat 32%4294967296 from rfl,shl_far hf];rfl
   ·have e9:o=9:=by omega
    subst e9
    rw [show opv 9 x y=x/2 ^ min y.toNat 32 from rfl,shr_far hx hf];rfl
  ·obtain ⟨k,rfl⟩:∃ k:Nat,y=k:=⟨y.toNat,by have:=hy.1;omega⟩
   have hk:min ((k:Int).toNat) 32=k:=by rw [Int.toNat_natCast];omega
   by_cases e8:o=8
   ·subst e8
    rw [show opv 8 x k=x*2 ^ min (k:Int).toNat 32%4294967296 from rfl,hk]
    exact done_shl x k w hx (by omega)
   ·have e9:o=9:=by omega
    subst e9
    rw [show opv 9 x k=x/2 ^ min (k:Int).toNat 32 from rfl,hk]
    exact done_shr x k w hx (by omega)
end Go.Proofs.YthbcfepbkkbjiaaGreatDoor
