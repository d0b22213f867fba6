import Derived.Test.YthbcfepbkkbjiaaGreatDoorINB
set_option linter.unusedSimpArgs false
set_option linter.unusedVariables false
set_option maxRecDepth 100000
namespace Go.Proofs.YthbcfepbkkbjiaaGreatDoor
open Go.RowKit
theorem rf_want {s:Ab} {p:Nat→Int} {m:Nat} (h:s.n≠0):s.want p m=runF s.q p m 256 F0:=if_neg h
theorem rwait_ab {s:Rs} {p:Nat→Int} {m:Nat} {wo:Option Addr} {wc l:Nat} (h0:s.ab.want p m≠0) (h4:s.ws.length<4) (hl:l=min m (s.ab.want p m).toNat):(s.wait wo wc (s.ws ++ [(l,p)])).ab=s.ab.offer p m:=by
 subst hl
 unfold Ab.offer
 rw [if_neg h0,if_neg (by show ¬ 4≤s.ws.length;omega)]
 rfl
theorem rdrop_ab {s:Rs} {p:Nat→Int} {m:Nat} (h0:s.ab.want p m≠0) (h4:4≤s.ws.length):(s.drop (s.d+1)).ab=s.ab.offer p m:=by
 unfold Ab.offer
 rw [if_neg h0,if_pos (show 4≤s.ab.ws.length from h4)]
 rfl
theorem roff_zero {s:Rs} {p:Nat→Int} {m:Nat} (h0:s.ab.want p m=0):s.ab=s.ab.offer p m:=by
 unfold Ab.offer
 rw [if_pos h0]
theorem updR_self (R:Nat→Rs) (i:Nat):updR R i (R i)=R:=funext fun j=>by unfold updR;split <;> simp_all
theorem rnframe_long (b:Nat) (po:Option Addr) (m pc:Nat) (w:World) (hm:2000<m) (hm2:m≤maxLen):Calls Tryz.prog 58 #[.pointer (some ⟨b,0,none⟩),.slice po m pc] w fun e w'=>e=.returned (.int .i64 10)∧w.grownBy w' none:=by
 have t0:(2000:Int)<(m:Int):=by omega
 unfold maxLen at hm2
 go_enter Tryz.func58,Tryz.ntmps58
 go_wp2
 go_ret
 exact ⟨rfl,grown_refl _ _⟩
set_option maxHeartbeats 4000000 in
theorem rnframe_ok (b:Nat) (N:Rn) (R:Nat→Rs) (po:Option Addr) (m pc:Nat) (p:Nat→Int) (w:World) (H:RNet w b N R) (hm:m≤2000) (hmc:m≤pc) (hz:po=none→m=0) (hp:Oct p) (hq:Src w .u8 po m p) (hpo:0<m→∀ k,own? po=some k→¬ rUses b N R k) (hd:∀ i,i<8→(R i).d<9223372036854775807) :
  Calls Tryz.prog 58 #[.pointer (some ⟨b,0,none⟩),.slice po m pc] w fun e w'=>e=.returned (.int .i64 0)∧∃ R',RNet w' b N R'∧RApart w w' b N R R'∧∀ i,i<8→(R' i).ab=(R i).ab.offer p m:=by
 have HH:Hid (RNet w b N R):=H
 have HQ:Hid (Src w .u8 po m p):=hq
 have HP:Hid (0<m→∀ k,own? po=some k→¬ rUses b N R k):=hpo
 have HD:Hid (∀ i,i<8→(R i).d<9223372036854775807):=hd
 have t0:¬ ((2000:Int)<(m:Int)):=by omega
 clear H hq hpo hd
 go_enter Tryz.func58,Tryz.ntmps58
 go_wp2
 go_loopw [5] (fun v wr=>∃ (k:Nat) (Rk:Nat→Rs),k≤8∧v=.int .i64 k∧RNet wr b N Rk∧RApart w wr b N R Rk∧(∀ j,j<k→(Rk j).ab=(R j).ab.offer p m)∧(∀ j,k≤j→Rk j=R j)) (fun v _=>8-(intOf v).toNat)
 case atStart=>exact ⟨0,R,by omega,rfl,HH.out,rapart_grown b N R (grown_refl w none),fun j hj=>by omega,fun j _=>rfl⟩
 case round =>
  obtain ⟨k,Rk,hk,rfl,hP,hA,hlo,hhi⟩:=hrel
  by_cases hlt:k<8
  ·have hSrc:Src wr .u8 po m p:=fun h0=>(HQ.out.same fun x hx hxl=>hA.same x hxl (HP.out h0 x hx)) h0
   have HP1:Hid (RNet wr b N Rk):=hP
   have HA:Hid (RApart w wr b N R Rk):=hA
   have Hlo:Hid (∀ j,j<k→(Rk j).ab=(R j).ab.offer p m):=hlo
   have Hhi:Hid (∀ j,k≤j→Rk j=R j):=hhi
   have hdk:(Rk k).d<9223372036854775807:=by rw [hhi k (Nat.le_refl _)];exact HD.out k hlt
   have HT:Hid (∀ w' s',RNet w' b N (updR Rk k s')→RApart wr w' b N Rk (updR Rk k s')→s'.ab=(Rk k).ab.offer p m→∃ (k':Nat) (Rk':Nat→Rs),k'≤8∧Value.int .i64 ((k:Int)+1)=.int .i64 k'∧RNet w' b N Rk'∧RApart w w' b N R Rk'∧(∀ j,j<k'→(Rk' j).ab=(R j).ab.offer p m)∧(∀ j,k'≤j→Rk' j=R j)):=fun w' s' hP' hA' hab=>by
    refine ⟨k+1,updR Rk k s',by omega,by go_num,hP',HA.out.trans hA',fun j hj=>?_,fun j hj=>?_⟩
    ·by_cases e:j=k
     ·subst e
      rw [updR_at,hab,Hhi.out j (Nat.le_refl _)]
     ·rw [updR_ne _ _ _ e]
      exact Hlo.out j (by omega)
    ·rw [updR_ne _ _ _ (by omega)]
     exact Hhi.out j (by omega)
   obtain ⟨c0,c1,c2,c3,c4,c5⟩:=hP.cells hlt
   have z4:=hP.v.frozen k
   have z5:=hP.d.frozen k
   have t1:(k:Int)<8:=by omega
   rcases hP.sf k hlt with ⟨h0,hfo⟩ | ⟨h0,h256,hG,B,g,hfo,hfl,hog,hqd,hR⟩
   ·rw [hfo] at c3
    have e0:=fun w=>eql_nil w none (Rk k).fl (Rk k).fc
    have hab:(Rk k).ab=(Rk k).ab.offer p m:=roff_zero (if_pos h0)
    clear hP hA hlo hhi hSrc
    go_wp2
    go_roundw
    case rel =>
     have hR':=updR_self Rk k
     exact HT.out _ (Rk k) (by rw [hR'];exact HP1.out) (by rw [hR'];exact rapart_grown b N Rk (grown_refl _ _)) hab
    case measure=>simp [intOf];omega
   ·rw [hfo,hfl] at c3
    have hU:U32 (runF (Rk k).q p m 256 F0):=runF_u32 hG hp hm 256 F0 (finv0 hG.pos)
    have hwant:(Rk k).ab.want p m=runF (Rk k).q p m 256 F0:=rf_want h0
    have HV:Hid (Calls Tryz.prog 44 #[.slice (some ⟨B,0,none⟩) (8*(Rk k).n:Nat) (Rk k).fc,.slice po m pc] wr fun e w'=>e=.returned (.int .i64 (runF (Rk k).q p m 256 F0))∧wr.grownBy w' none):=by
     have:=rverdict B 0 (Rk k).n (Rk k).fc g po m pc p wr (by omega) h256 hm hog hp hR hSrc (by rw [← hqd];exact hG)
     rw [← hqd] at this
     exact this
    rw [← hwant] at HV hU
    clear hwant
    obtain ⟨v,hv⟩:∃ v:Nat,(Rk k).ab.want p m=(v:Int):=⟨((Rk k).ab.want p m).toNat,by have:=hU.1;omega⟩
    have Hv:Hid ((Rk k).ab.want p m=(v:Int)):=hv
    rw [hv] at HV
    have hv32:v<4294967296:=by have:=hU.2;rw [hv] at this;omega
    clear hU hP hA hlo hhi hv hR hG
    obtain ⟨n8,hn8⟩:∃ n8,8*(Rk k).n=n8:=⟨_,rfl⟩
    rw [hn8] at HV c3
    have e0:=fun w=>eql_nil w (some ⟨B,0,none⟩) n8 (Rk k).fc
    clear hn8
    by_cases hv0:v=0
    ·subst hv0
     go_wp2_with (go_at_call 44;refine HV.out.mono ?_;rintro e w1 ⟨rfl,hg1⟩)
     go_roundw
     case rel =>
      have hR':=updR_self Rk k
      exact HT.out _ (Rk k) (by rw [hR'];exact HP1.out.keep hg1) (by rw [hR'];exact rapart_grown b N Rk hg1) (roff_zero Hv.out)
     case measure=>simp [intOf];omega
    ·have hwn:Hid ((Rk k).ab.want p m≠0):=by show (Rk k).ab.want p m≠0;rw [Hv.out];omega
     have tv0:((v:Int) == 0)=false:=by simp;omega
     have tv1:¬ ((v:Int)=0):=by omega
     by_cases hvm:m<v
     ·have tm:(m:Int)<(v:Int):=by omega
      have HC:Hid (∀ w',wr.grownBy w' none→(convert 25 9 (.slice po m pc)).run Tryz.prog w'=.ok (.string (stOf m p)) w'):=fun w' hg'=>conv_str pc (hSrc.keep hg') hz
      clear hSrc
      by_cases h4:4≤(Rk k).ws.length
      ·have t4:(4:Int)≤((Rk k).ws.length:Int):=by omega
       obtain ⟨L,hL⟩:∃ L,(Rk k).ws.length=L:=⟨_,rfl⟩
       rw [hL] at c4 t4
       go_wp2_with (go_at_call 44;refine HV.out.mono ?_;rintro e w1 ⟨rfl,hg1⟩;obtain ⟨d0,d1,d2,d3,d4,d5⟩:=(HP1.out.keep hg1).cells hlt;have y5:=(HP1.out.keep hg1).d.frozen k;rw [hL] at d4)
       go_roundw
       case rel =>
        have hT:=rdrop_turn (HP1.out.keep hg1) hlt ((Rk k).d+1)
        rw [show (((Rk k).d+1:Nat):Int)=((Rk k).d:Int)+1 by omega] at hT
        exact HT.out _ _ hT.1 ((rapart_grown b N Rk hg1).trans hT.2) (rdrop_ab hwn.out h4)
       case measure=>simp [intOf];omega
      ·have t4:¬ ((4:Int)≤((Rk k).ws.length:Int)):=by omega
       obtain ⟨L,hL⟩:∃ L,(Rk k).ws.length=L:=⟨_,rfl⟩
       have HL:Hid ((Rk k).ws.length=L):=hL
       rw [hL] at c4 t4
       clear hL
       go_wp2_with (go_at_call 44;refine HV.out.mono ?_;rintro e w1 ⟨rfl,hg1⟩;obtain ⟨d0,d1,d2,d3,d4,d5⟩:=(HP1.out.keep hg1).cells hlt;have y4:=(HP1.out.keep hg1).v.frozen k;rw [HL.out] at d4)
       have cv:=HC.out w1.drew (grown_drew hg1)
       have G1:wr.grownBy (w1.alloc (.cells #[.string (stOf m p)] 9)) none:=grown_trans hg1 (World.grownBy_alloc w1 _ none)
       have G2:wr.grownBy (w1.alloc (.cells #[.string (stOf m p)] 9)).drew none:=grown_drew G1
       have H2:Hid (RNet (w1.alloc (.cells #[.string (stOf m p)] 9)).drew b N Rk):=HP1.out.keep G2
       obtain ⟨x0,x1,x2,x3,x4,x5⟩:=(HP1.out.keep G1).cells hlt
       have u4:=(HP1.out.keep G1).v.frozen k
       rw [HL.out] at x4
       go_region_law (refine step_text rfl _ _ rfl (Rk k) _ (m,p) _ L HL.out rfl rfl (H2.out.sw k hlt) (H2.out.four k hlt) (heap_top _ _ _ rfl) ?_;intro wo wc w3 hw3 hg3 hu3;have Hm3:=H2.out.m.keep hg3 (fun e=>(H2.out.x k hlt _ e.symm).1 rfl);have Hv3:=H2.out.v.keep hg3 (fun e=>(H2.out.x k hlt _ e.symm).2.2.1 rfl);have m1:w3.cell? ⟨b,1,none⟩=some (.slice (some ⟨N.v,0,none⟩) 8 8):=Hm3.cell (j:=1) (by omega);have m2:=Hv3.cell hlt;have m3:=Hv3.frozen k)
       all_goals
        go_wp2
        go_roundw
        case rel =>
         have hu:∀ k',own? wo=some k'→own? (Rk k).wo=some k'∨wr.heap.size≤k':=fun k' hk'=>(hu3 k' hk').imp id fun h=>Nat.le_trans G2.size h
         have e1:((Rk k).ws ++ [(m,p)]).length=L+1:=by rw [List.length_append,HL.out];rfl
         have hT:=rwait_turn HP1.out hlt (grown_trans (grown_weak G2 _) hg3) hw3 (by rw [e1];omega) hu
         rw [e1] at hT
         exact HT.out _ _ hT.1 hT.2 (rwait_ab hwn.out (by rw [HL.out];omega) (by rw [Hv.out];omega))
        case measure=>simp [intOf];omega
     ·have tm:¬ ((m:Int)<(v:Int)):=by omega
      have tc:(v:Int)≤(pc:Int):=by omega
      have HC:Hid (∀ w',wr.grownBy w' none→(convert 25 9 (.slice po v pc)).run Tryz.prog w'=.ok (.string (stOf v p)) w'):=fun w' hg'=>conv_str pc (fun h0=>by
       obtain ⟨b',off,e,hr⟩:=(hSrc.keep hg') (by omega)
       exact ⟨b',off,e,fun j hj=>hr j (by omega)⟩) (fun e=>by have:=hz e;omega)
      clear hSrc
      by_cases h4:4≤(Rk k).ws.length
      ·have t4:(4:Int)≤((Rk k).ws.length:Int):=by omega
       obtain ⟨L,hL⟩:∃ L,(Rk k).ws.length=L:=⟨_,rfl⟩
       rw [hL] at c4 t4
       go_wp2_with (go_at_call 44;refine HV.out.mono ?_;rintro e w1 ⟨rfl,hg1⟩;obtain ⟨d0,d1,d2,d3,d4,d5⟩:=(HP1.out.keep hg1).cells hlt;have y5:=(HP1.out.keep hg1).d.frozen k;rw [hL] at d4)
       go_roundw
       case rel =>
        have hT:=rdrop_turn (HP1.out.keep hg1) hlt ((Rk k).d+1)
        rw [show (((Rk k).d+1:Nat):Int)=((Rk k).d:Int)+1 by omega] at hT
        exact HT.out _ _ hT.1 ((rapart_grown b N Rk hg1).trans hT.2) (rdrop_ab hwn.out h4)
       case measure=>simp [intOf];omega
      ·have t4:¬ ((4:Int)≤((Rk k).ws.length:Int)):=by omega
       obtain ⟨L,hL⟩:∃ L,(Rk k).ws.length=L:=⟨_,rfl⟩
       have HL:Hid ((Rk k).ws.length=L):=hL
       rw [hL] at c4 t4
       clear hL
       go_wp2_with (go_at_call 44;refine HV.out.mono ?_;rintro e w1 ⟨rfl,hg1⟩;obtain ⟨d0,d1,d2,d3,d4,d5⟩:=(HP1.out.keep hg1).cells hlt;have y4:=(HP1.out.keep hg1).v.frozen k;rw [HL.out] at d4)
       have cv:=HC.out w1.drew (grown_drew hg1)
       have G1:wr.grownBy (w1.alloc (.cells #[.string (stOf v p)] 9)) none:=grown_trans hg1 (World.grownBy_alloc w1 _ none)
       have G2:wr.grownBy (w1.alloc (.cells #[.string (stOf v p)] 9)).drew none:=grown_drew G1
       have H2:Hid (RNet (w1.alloc (.cells #[.string (stOf v p)] 9)).drew b N Rk):=HP1.out.keep G2
       obtain ⟨x0,x1,x2,x3,x4,x5⟩:=(HP1.out.keep G1).cells hlt
       have u4:=(HP1.out.keep G1).v.frozen k
       rw [HL.out] at x4
       go_region_law (refine step_text rfl _ _ rfl (Rk k) _ (v,p) _ L HL.out rfl rfl (H2.out.sw k hlt) (H2.out.four k hlt) (heap_top _ _ _ rfl) ?_;intro wo wc w3 hw3 hg3 hu3;have Hm3:=H2.out.m.keep hg3 (fun e=>(H2.out.x k hlt _ e.symm).1 rfl);have Hv3:=H2.out.v.keep hg3 (fun e=>(H2.out.x k hlt _ e.symm).2.2.1 rfl);have m1:w3.cell? ⟨b,1,none⟩=some (.slice (some ⟨N.v,0,none⟩) 8 8):=Hm3.cell (j:=1) (by omega);have m2:=Hv3.cell hlt;have m3:=Hv3.frozen k)
       all_goals
        go_wp2
        go_roundw
        case rel =>
         have hu:∀ k',own? wo=some k'→own? (Rk k).wo=some k'∨wr.heap.size≤k':=fun k' hk'=>(hu3 k' hk').imp id fun h=>Nat.le_trans G2.size h
         have e1:((Rk k).ws ++ [(v,p)]).length=L+1:=by rw [List.length_append,HL.out];rfl
         have hT:=rwait_turn HP1.out hlt (grown_trans (grown_weak G2 _) hg3) hw3 (by rw [e1];omega) hu
         rw [e1] at hT
         exact HT.out _ _ hT.1 hT.2 (rwait_ab hwn.out (by rw [HL.out];omega) (by rw [Hv.out];omega))
        case measure=>simp [intOf];omega
  ·obtain rfl:k=8:=by omega
   go_wp2
   go_ret
   exact ⟨rfl,Rk,hP,hA,hlo⟩
end Go.Proofs.YthbcfepbkkbjiaaGreatDoor
