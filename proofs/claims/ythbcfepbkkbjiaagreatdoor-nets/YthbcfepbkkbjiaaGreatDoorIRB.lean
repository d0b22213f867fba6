import Derived.StillTailTactics
import Derived.Test.YthbcfepbkkbjiaaGreatDoorI9
import Derived.Test.YthbcfepbkkbjiaaGreatDoorI8
import Derived.Test.YthbcfepbkkbjiaaGreatDoorI5
set_option linter.unusedSimpArgs false
set_option linter.unusedVariables false
set_option maxRecDepth 100000
namespace Go.Proofs.YthbcfepbkkbjiaaGreatDoor
open Go.RowKit
theorem Load_sr (w0 w:World) (ao:Option Addr) (n c p s:Nat) (g:Nat→Int) (v:Int) (hs:Siz s) (h1:1≤s) (hm:n≤2000) (hc:n≤c) (h:p+s≤n) (hg:Oct g) (hR:Src w0 .u8 ao n g) (hgr:w0.grownBy w none) (hv:v=p) :
  Calls Tryz.prog 125 #[.slice ao n c,.int .i64 v,.int .i64 s] w fun e w'=>e=.returned (.tuple #[.int .u32 (be g p s),.bool true])∧w'=w:=by
 obtain ⟨b,off,rfl,hrow⟩:=hR (by omega)
 subst hv
 exact Load_ok b off n c p s g _ w hs (by unfold maxLen;omega) hc h hg (hrow.keep hgr (by simp)) rfl
theorem Load_sn (ao:Option Addr) (n c p s:Nat) (v:Int) (w:World) (hm:n≤2000) (hp:p≤4611686018427387904) (hs:s≤4) (h:¬ p+s≤n) (hv:v=p) :
  Calls Tryz.prog 125 #[.slice ao n c,.int .i64 v,.int .i64 s] w fun e w'=>e=.returned (.tuple #[.int .u32 0,.bool false])∧w'=w:=by
 subst hv
 exact Load_no ao n c p s w (by unfold maxLen;omega) hp hs (by omega)
theorem Tryz.zeroInt' (w:World):(zeroValue 3).run Tryz.prog w=.ok (.int .i64 0) w:=by kernel_rfl
theorem Tryz.zeroOp (w:World):(zeroValue 189).run Tryz.prog w=.ok (.int .i64 0) w:=by kernel_rfl
theorem Tryz.zeroQu (w:World):(zeroValue 190).run Tryz.prog w=.ok (.int .i64 0) w:=by kernel_rfl
theorem look_sz {w:World} {SB:Nat} (h:IMap w SB szmap) {C v:Int} (hz:szmap C=some (.int .i64 v)):(Instr.lookup 125 (.map (some SB)) (.int .i64 C) false).run Tryz.prog w=.ok (.int .i64 v) w:=by
 have:=h.look (P:=Tryz.prog) Tryz.underlying125 Tryz.underlying3 (Tryz.zeroInt' _) C false
 rw [this,hz];rfl
theorem look_op {w:World} {SB:Nat} (h:IMap w SB opmap) {C v:Int} (hz:opmap C=some (.int .i64 v)):(Instr.lookup 127 (.map (some SB)) (.int .i64 C) false).run Tryz.prog w=.ok (.int .i64 v) w:=by
 have:=h.look (P:=Tryz.prog) Tryz.underlying127 Tryz.underlying3 (Tryz.zeroOp _) C false
 rw [this,hz];rfl
theorem look_qu {w:World} {SB:Nat} (h:IMap w SB qumap) {C v:Int} (hz:qumap C=some (.int .i64 v)):(Instr.lookup 129 (.map (some SB)) (.int .i64 C) false).run Tryz.prog w=.ok (.int .i64 v) w:=by
 have:=h.look (P:=Tryz.prog) Tryz.underlying129 Tryz.underlying3 (Tryz.zeroQu _) C false
 rw [this,hz];rfl
theorem look_kd {w:World} {SB:Nat} (h:IMap w SB kmap) {C:Int} {K:Nat} (hz:(kd C).cls=K):(Instr.lookup 123 (.map (some SB)) (.int .i64 C) false).run Tryz.prog w=.ok (.int .i64 K) w:=by
 have:=h.look (P:=Tryz.prog) Tryz.underlying123 Tryz.underlying3 (Tryz.zeroKind _) C false
 rw [this,kmap_get,hz];rfl
set_option maxHeartbeats 1000000 in
theorem qbytes_ok (w0 w:World) (M KB SB OB UB:Nat) (po:Option Addr) (m pcap:Nat) (p:Nat→Int) (S:Flt) (en:Bool) (vd C F':Int) (sz F:Nat) (h:QM w0 w M KB SB OB UB (.slice po m pcap) S en vd) (hz:szmap C=some (.int .i64 sz)) (hs:Siz sz) (h1:1≤sz) (hm:m≤2000) (hmc:m≤pcap) (hp:Oct p) (hsrc:Src w0 .u8 po m p) (hF:F'=F) (hf:F+sz≤m) :
  Calls Tryz.prog 140 #[.pointer (some ⟨M,0,none⟩),.int .i64 F',.int .i64 C] w fun e w'=>e=.returned (.int .u32 (be p F sz))∧QM w0 w' M KB SB OB UB (.slice po m pcap) S en vd:=by
 obtain ⟨c0,c1,c2,c3,c4,c5,c6,c7,c8,c9⟩:=h.cells
 have HH:Hid (QM w0 w M KB SB OB UB (.slice po m pcap) S en vd):=h
 have hl:∀ k,(Instr.lookup 125 (.map (some SB)) (.int .i64 C) false).run Tryz.prog (w.drewN k)=.ok (.int .i64 sz) (w.drewN k):=fun k=>look_sz (h.drewN k).iz hz
 have hl0:=hl 0
 have HA:Hid (∀ k,Calls Tryz.prog 125 #[.slice po m pcap,.int .i64 F',.int .i64 sz] (w.drewN k) fun e w'=>e=.returned (.tuple #[.int .u32 (be p F sz),.bool true])∧w'=w.drewN k):=fun k=>Load_sr w0 _ po m pcap F sz p F' hs h1 hm hmc hf hp hsrc (h.drewN k).gr hF
 generalize be p F sz=V at *
 clear h hz hs hsrc hf hF hp
 go_enter Tryz.func140,Tryz.ntmps140
 go_wp2
 go_quiet ((go_at_call 125;refine Calls.quiet_of_same (HA.out _)))
 go_wp2
 go_ret
 exact ⟨rfl,by repeat (first | exact HH.out | refine QM.drew ?_ | refine QM.drewN ?_ _)⟩
set_option maxHeartbeats 1000000 in
theorem qbytes_no (w0 w:World) (M KB SB OB UB:Nat) (po:Option Addr) (m pcap:Nat) (p:Nat→Int) (S:Flt) (en:Bool) (vd C F':Int) (sz F:Nat) (h:QM w0 w M KB SB OB UB (.slice po m pcap) S en vd) (hz:szmap C=some (.int .i64 sz)) (hs:sz≤4) (hm:m≤2000) (hF:F'=F) (hFb:F≤4611686018427387904) (hf:¬ F+sz≤m) :
  Calls Tryz.prog 140 #[.pointer (some ⟨M,0,none⟩),.int .i64 F',.int .i64 C] w fun e w'=>e=.returned (.int .u32 0)∧QM w0 w' M KB SB OB UB (.slice po m pcap) S true 0:=by
 obtain ⟨c0,c1,c2,c3,c4,c5,c6,c7,c8,c9⟩:=h.cells
 have HH:Hid (QM w0 w M KB SB OB UB (.slice po m pcap) S en vd):=h
 have hl:∀ k,(Instr.lookup 125 (.map (some SB)) (.int .i64 C) false).run Tryz.prog (w.drewN k)=.ok (.int .i64 sz) (w.drewN k):=fun k=>look_sz (h.drewN k).iz hz
 have hl0:=hl 0
 have HA:Hid (∀ k,Calls Tryz.prog 125 #[.slice po m pcap,.int .i64 F',.int .i64 sz] (w.drewN k) fun e w'=>e=.returned (.tuple #[.int .u32 0,.bool false])∧w'=w.drewN k):=fun k=>Load_sn po m pcap F sz F' _ hm hFb hs hf hF
 clear h hz hf hF
 go_enter Tryz.func140,Tryz.ntmps140
 go_wp2
 go_quiet ((go_at_call 125;refine Calls.quiet_of_same (HA.out _)))
 go_wp2_with (go_at_call 143;refine (end_any w0 _ M KB SB OB UB (.slice po m pcap) S en vd 0 (by repeat (first | exact HH.out | refine QM.drew ?_ | refine QM.drewN ?_ _))).mono ?_;rintro e w2 ⟨rfl,h2⟩)
 go_ret
 exact ⟨rfl,h2⟩
end Go.Proofs.YthbcfepbkkbjiaaGreatDoor
namespace Go.Proofs.YthbcfepbkkbjiaaGreatDoor
open Go.RowKit
theorem wp_region_tl {P:Program} {id:Nat} {Q:Exit→Act→World→Prop} {a:Act} {w:World} {l:List Oper} (n:Nat) (hm:P.follows .mixedOrders=true) (hB:Region.lexTailB .any l.toArray n=true)
  (h:wpStill P l.toArray w.drew (fun a'=>wpList P l.toArray Q (l.drop n) a' w.drew) (l.take n) a):(Code.region id l.toArray true).wp P Q a w:=wp_region_still_tail n hm hB h
theorem cell_else {w:World} {M i:Nat} {v u:Value} {B j:Nat} (hB:B≠M) (h:w.cell? ⟨B,j,none⟩=some u):(w.setCell ⟨M,i,none⟩ v).cell? ⟨B,j,none⟩=some u:=by
 have:=Below.heap_setCell w ⟨M,i,none⟩ v B hB
 rw [← h]
 simp [World.cell?,this]
set_option maxHeartbeats 400000 in
theorem become_ok2 (w0 w:World) (M KB SB OB UB:Nat) (pv:Value) (S:Flt) (en:Bool) (vd v:Int) (h:QM w0 w M KB SB OB UB pv S en vd) :
  Calls Tryz.prog 141 #[.pointer (some ⟨M,0,none⟩),.int .u32 v,.bool true] w fun e w'=>e=.returned (.tuple #[])∧QM w0 w' M KB SB OB UB pv ⟨S.pc,v,S.x,S.cs⟩ en vd∧∀ B j u,B≠M→w.cell? ⟨B,j,none⟩=some u→w'.cell? ⟨B,j,none⟩=some u:=by
 obtain ⟨c0,c1,c2,c3,c4,c5,c6,c7,c8,c9⟩:=h.cells
 obtain ⟨z1,z2,z3,z4,z5⟩:=h.free
 have HH:Hid (QM w0 w M KB SB OB UB pv S en vd):=h
 clear h
 go_enter Tryz.func141,Tryz.ntmps141
 go_wp2
 go_end0
 exact ⟨rfl,HH.out.setA v,fun B j u hB hc=>cell_else hB hc⟩
set_option maxHeartbeats 400000 in
theorem end_any2 (w0 w:World) (M KB SB OB UB:Nat) (pv:Value) (S:Flt) (en:Bool) (vd v:Int) (h:QM w0 w M KB SB OB UB pv S en vd) :
  Calls Tryz.prog 143 #[.pointer (some ⟨M,0,none⟩),.int .u32 v] w fun e w'=>e=.returned (.tuple #[])∧QM w0 w' M KB SB OB UB pv S true v∧∀ B j u,B≠M→w.cell? ⟨B,j,none⟩=some u→w'.cell? ⟨B,j,none⟩=some u:=by
 obtain ⟨c0,c1,c2,c3,c4,c5,c6,c7,c8,c9⟩:=h.cells
 obtain ⟨z1,z2,z3,z4,z5⟩:=h.free
 have HH:Hid (QM w0 w M KB SB OB UB pv S en vd):=h
 clear h
 go_enter Tryz.func143,Tryz.ntmps143
 go_wp2
 go_end0
 exact ⟨rfl,HH.out.fin v,fun B j u hB hc=>cell_else hB (cell_else hB hc)⟩
set_option maxHeartbeats 400000 in
theorem become_no2 (w0 w:World) (M KB SB OB UB:Nat) (pv:Value) (S:Flt) (en:Bool) (vd v:Int) (h:QM w0 w M KB SB OB UB pv S en vd) :
  Calls Tryz.prog 141 #[.pointer (some ⟨M,0,none⟩),.int .u32 v,.bool false] w fun e w'=>e=.returned (.tuple #[])∧QM w0 w' M KB SB OB UB pv ⟨S.pc,v,S.x,S.cs⟩ true 0∧∀ B j u,B≠M→w.cell? ⟨B,j,none⟩=some u→w'.cell? ⟨B,j,none⟩=some u:=by
 go_enter Tryz.func141,Tryz.ntmps141
 go_wp2_with (go_at_call 143;refine (end_any2 w0 _ M KB SB OB UB pv S en vd 0 h).mono ?_;rintro e w1 ⟨rfl,h1,k1⟩;obtain ⟨c0,c1,c2,c3,c4,c5,c6,c7,c8,c9⟩:=h1.cells;obtain ⟨z1,z2,z3,z4,z5⟩:=h1.free)
 go_end0
 exact ⟨rfl,h1.setA v,fun B j u hB hc=>cell_else hB (k1 B j u hB hc)⟩
end Go.Proofs.YthbcfepbkkbjiaaGreatDoor
