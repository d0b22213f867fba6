import Derived.WalkKit
import Derived.WalkSpells
import Derived.WalkLawsBesides
import Derived.Deep.AppendLies
import Derived.ArgAppend
import Derived.Laws.CopyOwn
import Derived.MapKept
namespace Go.Proofs.YthbcfepbkkbjiaaGreatDoor
open Go.RowKit
def Row (w:World) (k:IntKind) (b off n:Nat) (g:Nat→Int):Prop:=∀ j,j<n→w.cell? ⟨b,off+j,none⟩=some (.int k (g j))
def Oct (g:Nat→Int):Prop:=∀ j,0≤g j∧g j≤255
def le (g:Nat→Int):Nat→Int
 | 0=>0
 | n+1=>le g n+g n*2 ^ (8*n)
theorem le_bd {g:Nat→Int} (hg:Oct g):∀ n,0≤le g n∧le g n<2 ^ (8*n)
 | 0=>by simp [le]
 | n+1=>by
  have ih:=le_bd hg n
  have h:=hg n
  have e:(2:Int) ^ (8*(n+1))=2 ^ (8*n)*256:=by rw [Nat.mul_add,Int.pow_add];rfl
  have p:(0:Int)<2 ^ (8*n):=Int.pow_pos (by decide)
  simp only [le]
  rw [e]
  have a1:0≤g n*2 ^ (8*n):=Int.mul_nonneg h.1 (by omega)
  have a2:g n*2 ^ (8*n)≤255*2 ^ (8*n):=Int.mul_le_mul_of_nonneg_right h.2 (by omega)
  omega
theorem wraps_i64 (n:Int) (h₀:0≤n) (h₁:n<2 ^ 63):IntKind.i64.wrap n=n:=by rw [IntKind.wrap_i64];omega
theorem or_comm (x y:Int):bits .or .i64 x y=bits .or .i64 y x:=by simp only [bits];rw [BitVec.or_comm]
theorem or_step {g:Nat→Int} (hg:Oct g) (k:Nat) (hk:k<4):bits .or .i64 (le g k) (wrap64 (g k*2 ^ (8*k)))=le g (k+1):=by
 have b:=le_bd hg k
 have h:=hg k
 have p:(0:Int)<2 ^ (8*k):=Int.pow_pos (by decide)
 have q:(2:Int) ^ (8*k)≤16777216:=by
  have e1:(2:Int) ^ (8*k)=((2 ^ (8*k):Nat):Int):=by rw [Int.natCast_pow];rfl
  have e2:=Nat.pow_le_pow_right (n:=2) (by decide) (show 8*k≤24 by omega)
  have e3:(2:Nat) ^ 24=16777216:=by decide
  rw [e1];omega
 have a1:0≤g k*2 ^ (8*k):=Int.mul_nonneg h.1 (by omega)
 have a2:g k*2 ^ (8*k)≤255*2 ^ (8*k):=Int.mul_le_mul_of_nonneg_right h.2 (by omega)
 rw [IntWalk.wrap64_in _ ⟨by omega,by omega⟩,or_comm,
  bits_join .i64 63 (by decide) wraps_i64 (8*k) _ _ a1 (Int.mul_emod_left _ _) (by omega) b.1 b.2 (by omega)]
 simp only [le]
 omega
def num2 (g:Nat→Int) (o:Nat):Int:=g o+g (o+1)*256
def num4 (g:Nat→Int) (o:Nat):Int:=g o+g (o+1)*256+g (o+2)*65536+g (o+3)*16777216
theorem le_four (g:Nat→Int) (o:Nat):le (fun j=>g (o+j)) 4=num4 g o:=by simp [le,num4]
def hr (g:Nat→Int):Nat→Nat→Int
 | 0,_=>0
 | m+1,k=>g k+256*hr g m (k+1)
theorem hr_bd {g:Nat→Int} (hg:Oct g):∀ m k,m≤4→0≤hr g m k∧hr g m k<256 ^ m
 | 0,_,_=>by simp [hr]
 | m+1,k,hm=>by
  have ih:=hr_bd hg m (k+1) (by omega)
  have h:=hg k
  have e:(256:Int) ^ (m+1)=256 ^ m*256:=Int.pow_succ _ _
  simp only [hr]
  omega
theorem hr_bd4 {g:Nat→Int} (hg:Oct g) (m k:Nat) (hm:m≤4):0≤hr g m k∧hr g m k<4294967296:=by
 have h:=hr_bd hg m k hm
 have e1:(256:Int) ^ m=((256 ^ m:Nat):Int):=by rw [Int.natCast_pow];rfl
 have e2:=Nat.pow_le_pow_right (n:=256) (by decide) hm
 have e3:(256:Nat) ^ 4=4294967296:=by decide
 omega
theorem hr_two (g:Nat→Int) (o:Nat):hr g 2 o=num2 g o:=by simp [hr,num2];omega
theorem hr_four (g:Nat→Int) (o:Nat):hr g 4 o=num4 g o:=by
 simp only [hr,num4]
 show g o+256*(g (o+1)+256*(g (o+1+1)+256*(g (o+1+1+1)+256*0)))=g o+g (o+1)*256+g (o+1+1)*65536+g (o+1+1+1)*16777216
 omega
end Go.Proofs.YthbcfepbkkbjiaaGreatDoor
namespace Go.Proofs.YthbcfepbkkbjiaaGreatDoor
open Go.RowKit
def Blk (w:World) (b:Nat) (e:TypeId) (N n:Nat) (f:Nat→Value):Prop :=
 ∃ c:Array Value,w.heap[b]?=some (.cells c e (0,0))∧c.size=N∧n≤N∧∀ j,j<n→c[j]?=some (f j)
def ints (k:IntKind) (g:Nat→Int):Nat→Value:=fun j=>.int k (g j)
section
variable {w w':World} {b:Nat} {e:TypeId} {N n:Nat} {f:Nat→Value}
theorem Blk.lt (h:Blk w b e N n f):b<w.heap.size:=by
 obtain ⟨c,h1,_⟩:=h
 exact (Array.getElem?_eq_some_iff.1 h1).1
theorem Blk.le (h:Blk w b e N n f):n≤N:=by obtain ⟨c,_,_,h3,_⟩:=h;exact h3
theorem Blk.cell (h:Blk w b e N n f) {j:Nat} (hj:j<n):w.cell? ⟨b,j,none⟩=some (f j):=by
 obtain ⟨c,h1,_,_,h4⟩:=h
 rw [cell_of_row w b j c e (0,0) h1]
 exact h4 j hj
theorem Blk.frozen (h:Blk w b e N n f) (j:Nat):w.frozen? ⟨b,j,none⟩=false:=by
 obtain ⟨c,h1,_⟩:=h
 simp [World.frozen?,h1]
theorem Blk.congr (h:Blk w b e N n f) {f':Nat→Value} (hf:∀ j,j<n→f j=f' j):Blk w b e N n f':=by
 obtain ⟨c,h1,h2,h3,h4⟩:=h
 exact ⟨c,h1,h2,h3,fun j hj=>by rw [h4 j hj,hf j hj]⟩
theorem Blk.less (h:Blk w b e N n f) {m:Nat} (hm:m≤n):Blk w b e N m f:=by
 obtain ⟨c,h1,h2,h3,h4⟩:=h
 exact ⟨c,h1,h2,by omega,fun j hj=>h4 j (by omega)⟩
theorem Blk.same (h:Blk w b e N n f) (hb:w'.heap[b]?=w.heap[b]?):Blk w' b e N n f:=by
 obtain ⟨c,h1,r⟩:=h
 exact ⟨c,by rw [hb];exact h1,r⟩
theorem Blk.keep {row:Option Nat} (h:Blk w b e N n f) (hg:w.grownBy w' row) (hr:some b≠row):Blk w' b e N n f :=
 h.same (hg.block b h.lt hr)
theorem Blk.alloc (h:Blk w b e N n f) (o:Obj):Blk (w.alloc o) b e N n f:=h.keep (World.grownBy_alloc w o none) (by simp)
theorem Blk.drewN (h:Blk w b e N n f) (k:Nat):Blk (w.drewN k) b e N n f:=h.same rfl
theorem Blk.drew (h:Blk w b e N n f):Blk w.drew b e N n f:=h.same rfl
theorem Blk.set (h:Blk w b e N n f) {j:Nat} (hj:j≤n) (hN:j<N) (v:Value):Blk (w.setCell ⟨b,j,none⟩ v) b e N (max n (j+1)) (fun i=>if i=j then v else f i):=by
 obtain ⟨c,h1,h2,h3,h4⟩:=h
 have hlt:=(Array.getElem?_eq_some_iff.1 h1).1
 refine ⟨c.setIfInBounds j v,?_,by simpa using h2,by omega,fun i hi=>?_⟩
 ·have e1:=(Array.getElem?_eq_some_iff.1 h1).2
  simp only [World.setCell,Array.getElem?_modify]
  simp [h1]
 ·rw [Array.getElem?_setIfInBounds]
  by_cases e1:i=j
  ·subst e1;simp;omega
  ·rw [if_neg (by omega)]
   show _=some (if i=j then v else f i)
   rw [if_neg e1,h4 i (by omega)]
theorem Blk.set' (h:Blk w b e N n f) {j:Nat} (hj:j<n) (v:Value):Blk (w.setCell ⟨b,j,none⟩ v) b e N n (fun i=>if i=j then v else f i):=by
 have:=h.set (by omega:j≤n) (by have:=h.le;omega) v
 rwa [show max n (j+1)=n by omega] at this
theorem Blk.setOther (h:Blk w b e N n f) {a:Addr} (ha:a.block≠b) (v:Value):Blk (w.setCell a v) b e N n f :=
 h.same (Below.heap_setCell _ _ _ _ (fun e=>ha e.symm))
theorem blk_new (w:World) (c:Array Value) (e:TypeId):Blk (w.alloc (.cells c e)) w.heap.size e c.size c.size (fun j=>c.getD j .nilFunc) :=
 ⟨c,heap_alloc_new w _,rfl,Nat.le_refl _,fun j hj=>by simp [Array.getD,hj]⟩
end
theorem Row.keep {w w':World} {row:Option Nat} {k:IntKind} {b off n:Nat} {g:Nat→Int} (h:Row w k b off n g) (hg:w.grownBy w' row) (hr:some b≠row):Row w' k b off n g :=
 fun j hj=>hg.cell (h j hj) hr
theorem Row.alloc {w:World} {k:IntKind} {b off n:Nat} {g:Nat→Int} (h:Row w k b off n g) (o:Obj):Row (w.alloc o) k b off n g:=h.keep (World.grownBy_alloc w o none) (by simp)
theorem Row.drewN {w:World} {k:IntKind} {b off n:Nat} {g:Nat→Int} (h:Row w k b off n g) (m:Nat):Row (w.drewN m) k b off n g:=h
theorem Row.part {w:World} {k:IntKind} {b off n:Nat} {g:Nat→Int} (h:Row w k b off n g) {o m:Nat} (hm:o+m≤n):Row w k b (off+o) m (fun j=>g (o+j)) :=
 fun j hj=>by rw [Nat.add_assoc];exact h (o+j) (by omega)
theorem Row.insn {w:World} {b off n:Nat} {q:Nat→Int} (h:Row w .i64 b off (4*n) q) {k:Nat} (hk:k<n) :
  w.cell? ⟨b,off+k*4,none⟩=some (.int .i64 (q (4*k)))∧w.cell? ⟨b,off+k*4+1,none⟩=some (.int .i64 (q (4*k+1))) ∧
  w.cell? ⟨b,off+k*4+2,none⟩=some (.int .i64 (q (4*k+2)))∧w.cell? ⟨b,off+k*4+3,none⟩=some (.int .i64 (q (4*k+3))):=by
 have e:∀ i,off+(4*k+i)=off+k*4+i:=fun i=>by omega
 refine ⟨?_,?_,?_,?_⟩
 ·have:=h (4*k) (by omega);rwa [show off+4*k=off+k*4 by omega] at this
 ·have:=h (4*k+1) (by omega);rwa [e] at this
 ·have:=h (4*k+2) (by omega);rwa [e] at this
 ·have:=h (4*k+3) (by omega);rwa [e] at this
theorem Blk.insn {w:World} {b:Nat} {e:TypeId} {N n:Nat} {q:Nat→Int} (h:Blk w b e N (n*4) (ints .i64 q)) {k:Nat} (hk:k<n) :
  w.cell? ⟨b,k*4,none⟩=some (.int .i64 (q (4*k)))∧w.cell? ⟨b,k*4+1,none⟩=some (.int .i64 (q (4*k+1))) ∧
  w.cell? ⟨b,k*4+2,none⟩=some (.int .i64 (q (4*k+2)))∧w.cell? ⟨b,k*4+3,none⟩=some (.int .i64 (q (4*k+3))):=by
 have e:∀ i,w.cell? ⟨b,4*k+i,none⟩=w.cell? ⟨b,k*4+i,none⟩:=fun i=>by rw [Nat.mul_comm]
 refine ⟨?_,?_,?_,?_⟩
 ·rw [Nat.mul_comm k 4];exact h.cell (by omega)
 ·rw [← e];exact h.cell (by omega)
 ·rw [← e];exact h.cell (by omega)
 ·rw [← e];exact h.cell (by omega)
theorem grown_refl (w:World) (row:Option Nat):w.grownBy w row:=⟨rfl,rfl,rfl,Nat.le_refl _,fun _ _ _=>rfl⟩
theorem grown_trans {a b c:World} {row:Option Nat} (h:a.grownBy b row) (k:b.grownBy c row):a.grownBy c row :=
 ⟨k.os.trans h.os,k.tape.trans h.tape,k.output.trans h.output,Nat.le_trans h.size k.size,fun i hi hr=>(k.block i (Nat.lt_of_lt_of_le hi h.size) hr).trans (h.block i hi hr)⟩
theorem grown_weak {a b:World} (h:a.grownBy b none) (row:Option Nat):a.grownBy b row:=⟨h.os,h.tape,h.output,h.size,fun i hi _=>h.block i hi (by simp)⟩
theorem grown_new {a b c:World} {g:Nat} (row:Option Nat) (h:a.grownBy b row) (k:b.grownBy c (some g)) (hg:a.heap.size≤g):a.grownBy c row :=
 ⟨k.os.trans h.os,k.tape.trans h.tape,k.output.trans h.output,Nat.le_trans h.size k.size,fun i hi hr=>(k.block i (Nat.lt_of_lt_of_le hi h.size) (by simp;omega)).trans (h.block i hi hr)⟩
theorem grown_none {a b c:World} {row:Option Nat} (h:a.grownBy b row) (k:b.grownBy c none):a.grownBy c row:=grown_trans h (grown_weak k row)
theorem grown_drewN (w:World) (n:Nat) (row:Option Nat):w.grownBy (w.drewN n) row:=⟨rfl,rfl,rfl,Nat.le_refl _,fun _ _ _=>rfl⟩
theorem grown_drew {a b:World} {row:Option Nat} (h:a.grownBy b row):a.grownBy b.drew row:=⟨h.os,h.tape,h.output,h.size,h.block⟩
theorem grown_alloc {a b:World} {row:Option Nat} (h:a.grownBy b row) (o:Obj):a.grownBy (b.alloc o) row:=grown_none h (World.grownBy_alloc b o none)
theorem grown_undrew {w w':World} {row:Option Nat} (h:w.drew.grownBy w' row):w.grownBy w' row:=⟨h.os,h.tape,h.output,h.size,h.block⟩
theorem grown_setCell (w:World) (a:Addr) (v:Value):w.grownBy (w.setCell a v) (some a.block) :=
 ⟨rfl,rfl,rfl,by simp [World.setCell],fun i _ hr=>Below.heap_setCell _ _ _ _ (by simpa using hr)⟩
theorem box_of {w wr:World} {arr:Array Value} {t:TypeId} {row:Option Nat} (hg:(w.alloc (.cells arr t)).grownBy wr row) (hr:∀ g,row=some g→g<w.heap.size) {j:Nat} {u:Value} (hj:arr[j]?=some u):wr.cell? ⟨w.heap.size,j,none⟩=some u:=by
 refine hg.cell (by rw [World.cell?_alloc_new];exact hj) (fun e=>?_)
 exact Nat.lt_irrefl _ (hr _ e.symm)
theorem box_four {w wr:World} {a b c d:Value} {t:TypeId} {row:Option Nat} (hg:(w.alloc (.cells #[a,b,c,d] t)).grownBy wr row) (hr:∀ g,row=some g→g<w.heap.size) :
  wr.cell? ⟨w.heap.size,0,none⟩=some a∧wr.cell? ⟨w.heap.size,1,none⟩=some b∧wr.cell? ⟨w.heap.size,2,none⟩=some c∧wr.cell? ⟨w.heap.size,3,none⟩=some d :=
 ⟨box_of hg hr rfl,box_of hg hr rfl,box_of hg hr rfl,box_of hg hr rfl⟩
theorem alloc_lt {w wr:World} {o:Obj} {row:Option Nat} (hg:(w.alloc o).grownBy wr row):w.heap.size<wr.heap.size:=by have:=hg.size;simp at this;omega
def quad (f:Nat→Value) (j:Nat) (a b c d:Value):Nat→Value:=fun i=>if i=j+3 then d else if i=j+2 then c else if i=j+1 then b else if i=j then a else f i
theorem Blk.quad {w:World} {B:Nat} {e:TypeId} {N n:Nat} {f:Nat→Value} (h:Blk w B e N n f) {j:Nat} (hj:j+3<n) (a b c d:Value) :
  Blk ((((w.setCell ⟨B,j,none⟩ a).setCell ⟨B,j+1,none⟩ b).setCell ⟨B,j+2,none⟩ c).setCell ⟨B,j+3,none⟩ d) B e N n (quad f j a b c d) ∧
  w.grownBy ((((w.setCell ⟨B,j,none⟩ a).setCell ⟨B,j+1,none⟩ b).setCell ⟨B,j+2,none⟩ c).setCell ⟨B,j+3,none⟩ d) (some B) :=
 ⟨(((h.set' (by omega) a).set' (by omega) b).set' (by omega) c).set' (by omega) d,
  grown_trans (grown_trans (grown_trans (grown_setCell w ⟨B,j,none⟩ a) (grown_setCell _ ⟨B,j+1,none⟩ b)) (grown_setCell _ ⟨B,j+2,none⟩ c)) (grown_setCell _ ⟨B,j+3,none⟩ d)⟩
theorem grown_set {a b:World} (h:a.grownBy b none) {p:Addr} (hp:a.heap.size≤p.block) (v:Value):a.grownBy (b.setCell p v) none:=grown_new none h (grown_setCell b p v) hp
theorem grown_below {w w':World} (h:w.grownBy w' none):Below w.heap.size w w':=⟨h.os,h.tape,h.output,h.size,fun k hk=>h.block k hk (by simp)⟩
theorem below_grown {w w':World} (h:Below w.heap.size w w'):w.grownBy w' none:=⟨h.os,h.tape,h.output,h.size,fun k hk _=>h.block k hk⟩
theorem blk_of_owns {w:World} {base:Nat} {e:TypeId} {size:Nat} {g n cap:Nat} {xs:List Value} (h:w.ownsRow base e size (.slice (some ⟨g,0,none⟩) n cap) n xs) :
  base≤g∧n≤cap∧cap≤maxLen∧Blk w g e (cap*size) (n*size) (fun j=>xs.getD j .nilFunc):=by
 obtain ⟨h1,h2⟩:=h
 rcases h2 with ⟨h2,_⟩ | ⟨g',cap',cur,hv,hb,hh,hn,hm,hs,ht⟩
 ·cases h2
 ·cases hv
  refine ⟨hb,hn,hm,cur,hh,hs,Nat.mul_le_mul_right _ hn,fun j hj=>?_⟩
  have e1:xs[j]?=cur[j]?:=by rw [← ht,List.getElem?_take,if_pos hj];simp
  rw [← e1]
  simp [List.getD,List.getElem?_eq_getElem (by omega:j<xs.length)]
theorem owns_of_blk {w:World} {e:TypeId} {size:Nat} {g n cap:Nat} {f:Nat→Value} (h:Blk w g e (cap*size) (n*size) f) (hn:n≤cap) (hm:cap≤maxLen) :
  w.ownsRow g e size (.slice (some ⟨g,0,none⟩) n cap) n ((List.range (n*size)).map f):=by
 obtain ⟨c,h1,h2,h3,h4⟩:=h
 refine ⟨by simp,Or.inr ⟨g,cap,c,rfl,Nat.le_refl _,h1,hn,hm,h2,?_⟩⟩
 apply List.ext_getElem?
 intro j
 rw [List.getElem?_take]
 by_cases hj:j<n*size
 ·rw [if_pos hj,List.getElem?_map,List.getElem?_range hj]
  have:=h4 j hj
  simpa using this
 ·rw [if_neg hj,List.getElem?_eq_none (by simp;omega)]
theorem wpList_make_blk {P:Program} (w:World) {ops:Array Oper} {rest:List Oper} {o:Oper} {a:Act} {Q:Exit→Act→World→Prop}
  (hg:o.guard=none) (l c:Operand) (t:TypeId) (hop:o.op=Op.makeSlice t l c)
  (e:TypeId) (i:TypeInfo) (z:Value) (size:Nat) (h1:P.underlying t=some (.slice e)) (h2:P.info? e=some i) (h3:i.zero=some z) (h4:i.size=size)
  (kl kc:IntKind) (L C:Int) (n:Nat) (hl:a.eval l=.int kl L) (hc:a.eval c=.int kc C) (hL:L=(n:Int)) (hC:C=(n:Int)) (b2:i.bytes*n≤281474976710656) (b3:n≤maxLen)
  (z0:Value) (hz:∀ j,z.cells[j%z.cells.size]! = z0)
  (hK:∀ w',Blk w' w.heap.size e (n*size) (n*size) (fun _=>z0)→w.grownBy w' none→wpList P ops Q rest (a.put o.dst (.slice (some ⟨w.heap.size,0,none⟩) n n)) w') :
  wpList P ops Q (o::rest) a w:=by
 refine wpList_make_full w hg l c t hop w.heap.size e i z size h1 h2 h3 h4 kl kc L C n hl hc hL hC b2 b3 (Nat.le_refl _) fun w' hw hgr=>hK w' ?_ hgr
 refine (blk_of_owns hw).2.2.2.congr fun j hj=>?_
 simp [madeCells,List.getD,hj,hz]
theorem run_append_blk {P:Program} (w:World) (t ty:TypeId)
  (e:TypeId) (i:TypeInfo) (z:Value) (size bytes:Nat) (ht:P.underlying t=some (.slice e)) (hi:P.info? e=some i) (hz:i.zero=some z)
  (hsize:i.size=size) (hby:i.bytes=bytes) (hzs:z.cells.size=size) (hsz:0<size)
  (ao:Option Addr) (n cap:Nat) (f:Nat→Value)
  (hv:(ao=none∧n=0∧cap=0)∨∃ g,ao=some ⟨g,0,none⟩∧Blk w g e (cap*size) (n*size) f∧n≤cap∧cap≤maxLen)
  (B m c:Nat) (arr:Array Value) (te:TypeId) (hB:w.heap[B]?=some (.cells arr te (0,0))) (hl:arr.size=m*size) (h1:∀ u ∈ arr.toList,u.oneCell'=true)
  (hm:0<m) (h63:n+m≤maxLen) (hbytes:(n+m)*bytes≤140737488355328) :
  ∃ g' cap' w',(Builtin.append_ #[t,t] ty #[.slice ao n cap,.slice (some ⟨B,0,none⟩) m c]).run P w=.ok (.slice (some ⟨g',0,none⟩) (n+m) cap') w' ∧
   Blk w' g' e (cap'*size) ((n+m)*size) (fun j=>if j<n*size then f j else arr.getD (j-n*size) .nilFunc)∧n+m≤cap'∧cap'≤maxLen ∧
   ((n+m≤cap∧ao=some ⟨g',0,none⟩∧cap'=cap∧w.grownBy w' (some g'))∨(cap<n+m∧w.heap.size≤g'∧w.grownBy w' none)):=by
 have key:∀ (olds:List Value) (g' cap':Nat) (w':World),olds.length=n*size→(∀ j,j<n*size→olds.getD j .nilFunc=f j)→Blk w' g' e (cap'*size) ((n+m)*size) (fun j=>(olds++arr.toList).getD j .nilFunc) →
   Blk w' g' e (cap'*size) ((n+m)*size) (fun j=>if j<n*size then f j else arr.getD (j-n*size) .nilFunc):=by
  intro olds g' cap' w' hlen hol hb
  refine hb.congr fun j hj=>?_
  by_cases hjn:j<n*size
  ·rw [if_pos hjn,← hol j hjn]
   simp [List.getD,List.getElem?_append_left (by omega:j<olds.length)]
  ·rw [if_neg hjn]
   simp [List.getD,List.getElem?_append_right (by omega:olds.length≤j),hlen,Array.getD_eq_getD_getElem?]
 have grow:∀ (olds:List Value) v' w',olds.length=n*size→(∀ j,j<n*size→olds.getD j .nilFunc=f j)→cap<n+m→w'.ownsRow w.heap.size e size v' (n+m) (olds++arr.toList)→w.grownBy w' none →
   ∃ g' cap',v'=.slice (some ⟨g',0,none⟩) (n+m) cap'∧Blk w' g' e (cap'*size) ((n+m)*size) (fun j=>if j<n*size then f j else arr.getD (j-n*size) .nilFunc)∧n+m≤cap'∧cap'≤maxLen ∧
   ((n+m≤cap∧ao=some ⟨g',0,none⟩∧cap'=cap∧w.grownBy w' (some g'))∨(cap<n+m∧w.heap.size≤g'∧w.grownBy w' none)):=by
  intro olds v' w' hlen hol hcap how hgr
  have how2:=how
  rcases how.2 with ⟨_,h0⟩ | ⟨g',cap',cur,rfl,hb,_,hn',hm',_⟩
  ·omega
  ·have q:=blk_of_owns how2
   exact ⟨g',cap',rfl,key olds g' cap' w' hlen hol q.2.2.2,hn',hm',Or.inr ⟨hcap,hb,hgr⟩⟩
 rcases hv with ⟨rfl,rfl,rfl⟩ | ⟨g,rfl,hblk,hn,hcm⟩
 ·obtain ⟨v',w',hr,how,hgr,_⟩:=run_append_own_at (P:=P) w w.heap.size t ty e i z size bytes ht hi hz hsize hby hzs hsz (.slice none 0 0) 0 [] (World.ownsRow_nil _ _ _ _) ⟨B,0,none⟩ m c arr.toList (by simpa using hl) (World.news_of_block hB) h1 h63 hbytes (Nat.le_refl _)
  obtain ⟨g',cap',rfl,r⟩:=grow [] v' w' (by simp) (fun j hj=>by simp at hj) (by omega) how hgr
  exact ⟨g',cap',w',hr,r⟩
 ·by_cases hroom:n+m≤cap
  ·obtain ⟨w',hr,how,hgr⟩:=run_append_fits (P:=P) w g t ty e i size ht hi hsize g n cap _ (owns_of_blk hblk hn hcm) ⟨B,0,none⟩ m c arr.toList (by simpa using hl) (World.news_of_block hB) h1 hroom
   have q:=blk_of_owns how
   exact ⟨g,cap,w',hr,key _ g cap w' (by simp) (fun j hj=>by simp [List.getD,hj]) q.2.2.2,hroom,hcm,Or.inl ⟨hroom,rfl,rfl,hgr⟩⟩
  ·obtain ⟨v',w',hr,how,hgr⟩:=run_append_arg_grows (P:=P) w t ty e i z size bytes ht hi hz hsize hby hzs hsz ⟨g,0,none⟩ n cap ((List.range (n*size)).map f) (by simp) (fun j u hu=>(owns_of_blk hblk hn hcm).cells rfl j u hu) ⟨B,0,none⟩ m c arr.toList (by simpa using hl) (World.news_of_block hB) (by omega) h63 hbytes
   obtain ⟨g',cap',rfl,r⟩:=grow _ v' w' (by simp) (fun j hj=>by simp [List.getD,hj]) (by omega) how hgr
   exact ⟨g',cap',w',hr,r⟩
theorem wp_append_blk {P:Program} (w:World) {o:Oper} {a:Act} {K:Act→World→Prop} {Q:Exit→Act→World→Prop}
  (s x:Operand) (t:TypeId) (ho:o.op=.call { callee:=.builtin .append,args:=#[s,x],argTypes:=#[t,t] })
  (e:TypeId) (i:TypeInfo) (z:Value) (size bytes:Nat) (ht:P.underlying t=some (.slice e)) (hi:P.info? e=some i) (hz:i.zero=some z)
  (hsize:i.size=size) (hby:i.bytes=bytes) (hzs:z.cells.size=size) (hsz:0<size)
  (ao:Option Addr) (n cap:Nat) (f:Nat→Value) (hs:a.eval s=.slice ao n cap)
  (hv:(ao=none∧n=0∧cap=0)∨∃ g,ao=some ⟨g,0,none⟩∧Blk w g e (cap*size) (n*size) f∧n≤cap∧cap≤maxLen)
  (B m c:Nat) (arr:Array Value) (te:TypeId) (hx:a.eval x=.slice (some ⟨B,0,none⟩) m c) (hB:w.heap[B]?=some (.cells arr te (0,0))) (hl:arr.size=m*size) (h1:∀ u ∈ arr.toList,u.oneCell'=true)
  (hm:0<m) (h63:n+m≤maxLen) (hbytes:(n+m)*bytes≤140737488355328)
  (h:∀ g' cap' w',Blk w' g' e (cap'*size) ((n+m)*size) (fun j=>if j<n*size then f j else arr.getD (j-n*size) .nilFunc)→n+m≤cap'→cap'≤maxLen →
   ((n+m≤cap∧ao=some ⟨g',0,none⟩∧cap'=cap∧w.grownBy w' (some g'))∨(cap<n+m∧w.heap.size≤g'∧w.grownBy w' none)) →
   K (a.put o.dst (.slice (some ⟨g',0,none⟩) (n+m) cap')) w'):o.wp P a w K Q:=by
 obtain ⟨g',cap',w',hr,r1,r2,r3,r4⟩:=run_append_blk (P:=P) w t o.type e i z size bytes ht hi hz hsize hby hzs hsz ao n cap f hv B m c arr te hB hl h1 hm h63 hbytes
 unfold Oper.wp execOp
 simp only [ho,resolve,invoke,builtin,Sem.run_bind,Sem.run_pure,Result.andThen_ok,List.map_toArray,List.map_cons,List.map_nil,hs,hx,hr]
 exact h g' cap' w' r1 r2 r3 r4
theorem heap_top (w:World) (o:Obj) (B:Nat) (h:B=w.heap.size):(w.alloc o).heap[B]?=some o:=by subst h;exact heap_alloc_new w o
def patch (f:Nat→Value) (off m:Nat) (h:Nat→Value):Nat→Value:=fun j=>if off≤j∧j<off+m then h (j-off) else f j
theorem patch_zero (f:Nat→Value) (off:Nat) (h:Nat→Value) (j:Nat):patch f off 0 h j=f j:=by unfold patch;rw [if_neg (by omega)]
theorem patch_succ (f:Nat→Value) (off m:Nat) (h:Nat→Value) (j:Nat):(if j=off+m then h m else patch f off m h j)=patch f off (m+1) h j:=by
 unfold patch
 by_cases e:j=off+m
 ·subst e;rw [if_pos rfl,if_pos (by omega)];simp
 ·rw [if_neg e]
  by_cases e2:off≤j∧j<off+m
  ·rw [if_pos e2,if_pos (by omega)]
  ·rw [if_neg e2,if_neg (by omega)]
theorem run_copy_blk {P:Program} (w:World) (dT sT ty elem e:TypeId) (size:Nat) (hu:P.underlying dT=some (.slice elem)) (hs:(P.info? elem).map (·.size)=some size)
  (g dLen dCap N n:Nat) (f:Nat→Value) (hb:Blk w g e N n f) (sp:Option Addr) (sLen sCap:Nat) (hle:sLen≤dLen) (hfit:sLen*size≤n)
  (f':Nat→Value) (h1:∀ j,j<sLen*size→(f' j).oneCell'=true) (hpos:0<sLen→∃ b off,sp=some ⟨b,off,none⟩∧∀ j,j<sLen*size→w.cell? ⟨b,off+j,none⟩=some (f' j)) :
  ∃ w',(Builtin.copy_ #[dT,sT] ty #[.slice (some ⟨g,0,none⟩) dLen dCap,.slice sp sLen sCap]).run P w=.ok (goInt sLen) w'∧Blk w' g e N n (patch f 0 (sLen*size) f')∧w.grownBy w' (some g):=by
 cases hq:P.info? elem with
 | none=>simp [hq] at hs
 | some i =>
  have hi:i.size=size:=by simpa [hq] using hs
  have hmin:Nat.min sLen dLen=sLen:=Nat.min_eq_left hle
  by_cases h0:sLen=0
  ·subst h0
   refine ⟨w,?_,hb.congr fun j _=>?_,grown_refl _ _⟩
   ·cases sp with
    | none=>simp [Builtin.copy_,run_underlying hu,Builtin.lenOf,Builtin.firstCells,sizeOf,typeInfo,hq,storeCells]
    | some a =>
     have hl:=run_loadCells_list (P:=P) w a [] (by simp)
     simp [Builtin.copy_,run_underlying hu,Builtin.lenOf,Builtin.firstCells,sizeOf,typeInfo,hq] at hl ⊢
     simp [hl,storeCells]
   ·simp [patch]
  ·obtain ⟨b,off,rfl,hc⟩:=hpos (by omega)
   obtain ⟨cur,k1,k2,k3,k4⟩:=hb
   have hlen:((List.range (sLen*size)).map f').length=sLen*size:=by simp
   have hsrc:∀ j v,((List.range (sLen*size)).map f')[j]?=some v→w.cell? ((⟨b,off,none⟩:Addr).add j)=some v:=by
    intro j v hj
    have hadd:(⟨b,off,none⟩:Addr).add j=⟨b,off+j,none⟩:=by unfold Addr.add;split <;> simp_all
    rw [hadd]
    have hj2:j<sLen*size:=by have:=(List.getElem?_eq_some_iff.1 hj).1;simpa using this
    rw [hc j hj2]
    simpa [hj2] using hj
   have hl:=run_loadCells_list (P:=P) w ⟨b,off,none⟩ _ hsrc
   have hst:=run_storeCells_at P g 0 e ((List.range (sLen*size)).map f') 0 cur w k1 (by simp;omega) (by
    intro v hv
    obtain ⟨j,hj,rfl⟩:=List.mem_map.1 hv
    exact h1 j (by simpa using hj))
   rw [hlen] at hl hst
   refine ⟨w.setRow g ((List.range (sLen*size)).map f'++cur.toList.drop (sLen*size)).toArray,?_,⟨_,setRow_heap w g cur _ e _ k1,?_,k3,?_⟩,?_⟩
   ·simp only [Nat.zero_add,List.take_zero,List.nil_append] at hst
    simp [Builtin.copy_,run_underlying hu,Builtin.lenOf,Builtin.firstCells,sizeOf,typeInfo,hq,hi,hmin,hl,hst]
   ·simp;omega
   ·intro j hj
    simp only [List.getElem?_toArray,List.getElem?_append,hlen]
    by_cases hjl:j<sLen*size
    ·rw [if_pos hjl];simp [hjl,patch]
    ·rw [if_neg hjl,List.getElem?_drop,show sLen*size+(j-sLen*size)=j by omega]
     have:=k4 j hj
     simp only [patch,Nat.zero_add]
     rw [if_neg (by omega)]
     simpa using this
   ·exact ⟨rfl,rfl,rfl,by simp [World.setRow],fun k _ hr=>setRow_other w g k _ (by simpa using fun e=>hr (by rw [e]))⟩
def Out (w:World) (base:Nat) (e:TypeId) (size:Nat) (v:Value) (n:Nat) (f:Nat→Value):Prop :=
 ∃ ao cap,v=.slice ao n cap∧((ao=none∧n=0∧cap=0)∨∃ g,ao=some ⟨g,0,none⟩∧base≤g∧Blk w g e (cap*size) (n*size) f∧n≤cap∧cap≤maxLen)
theorem out_nil (w:World) (base:Nat) (e:TypeId) (size:Nat) (f:Nat→Value):Out w base e size (.slice none 0 0) 0 f:=⟨none,0,rfl,Or.inl ⟨rfl,rfl,rfl⟩⟩
theorem Out.keep {w w':World} {base:Nat} {e:TypeId} {size:Nat} {v:Value} {n:Nat} {f:Nat→Value} {row:Option Nat} (h:Out w base e size v n f) (hg:w.grownBy w' row) (hr:∀ k,row=some k→k<base):Out w' base e size v n f:=by
 obtain ⟨ao,cap,h1,h2⟩:=h
 refine ⟨ao,cap,h1,?_⟩
 rcases h2 with h2 | ⟨g,h3,h4,h5,h6⟩
 ·exact Or.inl h2
 ·exact Or.inr ⟨g,h3,h4,h5.keep hg (fun e=>by have:=hr g e.symm;omega),h6⟩
theorem Out.alloc {w:World} {base:Nat} {e:TypeId} {size:Nat} {v:Value} {n:Nat} {f:Nat→Value} (h:Out w base e size v n f) (o:Obj):Out (w.alloc o) base e size v n f:=h.keep (World.grownBy_alloc w o none) (by simp)
theorem Out.drew {w:World} {base:Nat} {e:TypeId} {size:Nat} {v:Value} {n:Nat} {f:Nat→Value} (h:Out w base e size v n f):Out w.drew base e size v n f:=h.keep (grown_drew (grown_refl w none)) (by simp)
theorem heap_topd (w:World) (o:Obj) (B:Nat) (h:B=w.heap.size):(w.alloc o).drew.heap[B]?=some o:=heap_top w o B h
theorem Out.congr {w:World} {base:Nat} {e:TypeId} {size:Nat} {v:Value} {n:Nat} {f f':Nat→Value} (h:Out w base e size v n f) (hf:∀ j,j<n*size→f j=f' j):Out w base e size v n f':=by
 obtain ⟨ao,cap,h1,h2⟩:=h
 refine ⟨ao,cap,h1,?_⟩
 rcases h2 with h2 | ⟨g,h3,h4,h5,h6⟩
 ·exact Or.inl h2
 ·exact Or.inr ⟨g,h3,h4,h5.congr hf,h6⟩
theorem Out.own {w:World} {base:Nat} {e:TypeId} {size:Nat} {v:Value} {n:Nat} {f:Nat→Value} (h:Out w base e size v n f):∀ g,v.ownBlock=some g→base≤g∧g<w.heap.size:=by
 obtain ⟨ao,cap,rfl,h2⟩:=h
 intro g hg
 rcases h2 with ⟨rfl,_⟩ | ⟨g',rfl,h4,h5,_⟩
 ·cases hg
 ·cases hg;exact ⟨h4,h5.lt⟩
theorem Out.box {w w1:World} {base:Nat} {e:TypeId} {size:Nat} {v:Value} {n:Nat} {f:Nat→Value} {arr:Array Value} {t:TypeId} {o:Obj} (h:Out w base e size v n f)
  (hg:((w.alloc (.cells arr t)).alloc o).grownBy w1 v.ownBlock) {j:Nat} {u:Value} (hj:arr[j]?=some u):w1.cell? ⟨w.heap.size,j,none⟩=some u:=by
 refine hg.cell ?_ (fun hc=>Nat.lt_irrefl _ (h.own _ hc.symm).2)
 have e1:((w.alloc (.cells arr t)).alloc o).cell? ⟨w.heap.size,j,none⟩=(w.alloc (.cells arr t)).cell? ⟨w.heap.size,j,none⟩:=World.cell?_alloc_past _ _ _ (by simp)
 rw [e1,World.cell?_alloc_new]
 exact hj
theorem wp_append_out {P:Program} (w w0:World) {o:Oper} {a:Act} {K:Act→World→Prop} {Q:Exit→Act→World→Prop}
  (s x:Operand) (t:TypeId) (ho:o.op=.call { callee:=.builtin .append,args:=#[s,x],argTypes:=#[t,t] })
  (e:TypeId) (i:TypeInfo) (z:Value) (size bytes:Nat) (ht:P.underlying t=some (.slice e)) (hi:P.info? e=some i) (hz:i.zero=some z)
  (hsize:i.size=size) (hby:i.bytes=bytes) (hzs:z.cells.size=size) (hsz:0<size)
  (v:Value) (n:Nat) (f:Nat→Value) (hs:a.eval s=v) (hv:Out w w0.heap.size e size v n f) (hgr:w0.grownBy w none)
  (B m c:Nat) (arr:Array Value) (te:TypeId) (hx:a.eval x=.slice (some ⟨B,0,none⟩) m c) (hB:w.heap[B]?=some (.cells arr te (0,0))) (hl:arr.size=m*size) (h1:∀ u ∈ arr.toList,u.oneCell'=true)
  (hm:0<m) (h63:n+m≤maxLen) (hbytes:(n+m)*bytes≤140737488355328)
  (h:∀ g' cap' w',Out w' w0.heap.size e size (.slice (some ⟨g',0,none⟩) (n+m) cap') (n+m) (fun j=>if j<n*size then f j else arr.getD (j-n*size) .nilFunc)→w0.grownBy w' none→w.grownBy w' v.ownBlock →
   K (a.put o.dst (.slice (some ⟨g',0,none⟩) (n+m) cap')) w'):o.wp P a w K Q:=by
 obtain ⟨ao,cap,rfl,h2⟩:=hv
 refine wp_append_blk w s x t ho e i z size bytes ht hi hz hsize hby hzs hsz ao n cap f hs ?_ B m c arr te hx hB hl h1 hm h63 hbytes fun g' cap' w' hb hc hm' hor=>?_
 ·rcases h2 with h2 | ⟨g,h3,h4,h5,h6⟩
  ·exact Or.inl h2
  ·exact Or.inr ⟨g,h3,h5,h6⟩
 ·rcases hor with ⟨_,e1,rfl,hg⟩ | ⟨_,hlt,hg⟩
  ·rcases h2 with ⟨e2,_⟩ | ⟨g,h3,h4,h5,h6⟩
   ·rw [e2] at e1;cases e1
   ·rw [h3] at e1;cases e1
    exact h g' cap' w' ⟨_,cap',rfl,Or.inr ⟨g',rfl,h4,hb,hc,hm'⟩⟩ (grown_new none hgr hg h4) (by rw [h3];exact hg)
  ·exact h g' cap' w' ⟨_,cap',rfl,Or.inr ⟨g',rfl,Nat.le_trans hgr.size hlt,hb,hc,hm'⟩⟩ (grown_trans hgr hg) (grown_weak hg _)
theorem wpList_append_out {P:Program} (w w0:World) {ops:Array Oper} {rest:List Oper} {o:Oper} {a:Act} {Q:Exit→Act→World→Prop}
  (hgd:o.guard=none) (s x:Operand) (t:TypeId) (ho:o.op=.call { callee:=.builtin .append,args:=#[s,x],argTypes:=#[t,t] })
  (e:TypeId) (i:TypeInfo) (z:Value) (size bytes:Nat) (ht:P.underlying t=some (.slice e)) (hi:P.info? e=some i) (hz:i.zero=some z)
  (hsize:i.size=size) (hby:i.bytes=bytes) (hzs:z.cells.size=size) (hsz:0<size)
  (v:Value) (n:Nat) (f:Nat→Value) (hs:a.eval s=v) (hv:Out w w0.heap.size e size v n f) (hgr:w0.grownBy w none)
  (B m c:Nat) (arr:Array Value) (te:TypeId) (hx:a.eval x=.slice (some ⟨B,0,none⟩) m c) (hB:w.heap[B]?=some (.cells arr te (0,0))) (hl:arr.size=m*size) (h1:∀ u ∈ arr.toList,u.oneCell'=true)
  (hm:0<m) (h63:n+m≤maxLen) (hbytes:(n+m)*bytes≤140737488355328)
  (h:∀ g' cap' w',Out w' w0.heap.size e size (.slice (some ⟨g',0,none⟩) (n+m) cap') (n+m) (fun j=>if j<n*size then f j else arr.getD (j-n*size) .nilFunc)→w0.grownBy w' none→w.grownBy w' v.ownBlock →
   wpList P ops Q rest (a.put o.dst (.slice (some ⟨g',0,none⟩) (n+m) cap')) w'):wpList P ops Q (o::rest) a w :=
 wpList_plain hgd fun _ hK=>wp_append_out w w0 s x t ho e i z size bytes ht hi hz hsize hby hzs hsz v n f hs hv hgr B m c arr te hx hB hl h1 hm h63 hbytes fun g' cap' w' h2 h3 h4=>hK _ _ (h g' cap' w' h2 h3 h4)
theorem step_append_out {P:Program} (w w0:World) {ops:Array Oper} {o:Oper} {a:Act} {K:Act→World→Prop} {Q:Exit→Act→World→Prop} {E:Prop} (hgd:o.guard=none)
  (s x:Operand) (t:TypeId) (ho:o.op=.call { callee:=.builtin .append,args:=#[s,x],argTypes:=#[t,t] })
  (e:TypeId) (i:TypeInfo) (z:Value) (size bytes:Nat) (ht:P.underlying t=some (.slice e)) (hi:P.info? e=some i) (hz:i.zero=some z)
  (hsize:i.size=size) (hby:i.bytes=bytes) (hzs:z.cells.size=size) (hsz:0<size)
  (v:Value) (n:Nat) (f:Nat→Value) (hs:a.eval s=v) (hv:Out w w0.heap.size e size v n f) (hgr:w0.grownBy w none)
  (B m c:Nat) (arr:Array Value) (te:TypeId) (hx:a.eval x=.slice (some ⟨B,0,none⟩) m c) (hB:w.heap[B]?=some (.cells arr te (0,0))) (hl:arr.size=m*size) (h1:∀ u ∈ arr.toList,u.oneCell'=true)
  (hm:0<m) (h63:n+m≤maxLen) (hbytes:(n+m)*bytes≤140737488355328)
  (h:∀ g' cap' w',Out w' w0.heap.size e size (.slice (some ⟨g',0,none⟩) (n+m) cap') (n+m) (fun j=>if j<n*size then f j else arr.getD (j-n*size) .nilFunc)→w0.grownBy w' none→w.grownBy w' v.ownBlock →
   K (a.put o.dst (.slice (some ⟨g',0,none⟩) (n+m) cap')) w') :
  if Region.wanted o (yielded ops a.tmps)=true then Oper.wp P o a w K Q else E:=by
 have hw:Region.wanted o (yielded ops a.tmps)=true:=by simp [Region.wanted,hgd]
 rw [if_pos hw]
 exact wp_append_out w w0 s x t ho e i z size bytes ht hi hz hsize hby hzs hsz v n f hs hv hgr B m c arr te hx hB hl h1 hm h63 hbytes h
end Go.Proofs.YthbcfepbkkbjiaaGreatDoor
namespace Go.Proofs.YthbcfepbkkbjiaaGreatDoor
open Go.RowKit
structure KR where
 code:Int
 kind:Int
 n:Int
 x:Bool
 o:Int
 cls:Nat
def tab:List KR:=[
 ⟨32,1,4,false,0,1⟩,
 ⟨40,1,2,false,0,1⟩,
 ⟨48,1,1,false,0,1⟩,
 ⟨64,1,4,true,0,1⟩,
 ⟨72,1,2,true,0,1⟩,
 ⟨80,1,1,true,0,1⟩,
 ⟨0,2,0,false,0,2⟩,
 ⟨1,2,0,true,0,2⟩,
 ⟨96,3,0,false,0,3⟩,
 ⟨97,3,0,true,0,3⟩,
 ⟨128,4,0,false,0,2⟩,
 ⟨129,4,0,true,0,2⟩,
 ⟨177,5,0,false,0,1⟩,
 ⟨2,6,0,false,0,4⟩,
 ⟨3,6,0,true,0,4⟩,
 ⟨7,7,0,true,0,5⟩,
 ⟨135,7,0,false,0,5⟩,
 ⟨132,9,0,false,0,6⟩,
 ⟨5,10,0,false,0,9⟩,
 ⟨6,12,0,false,0,11⟩,
 ⟨22,12,0,true,0,11⟩,
 ⟨4,8,0,false,0,6⟩,
 ⟨20,8,0,false,1,6⟩,
 ⟨36,8,0,false,2,6⟩,
 ⟨52,8,0,false,3,7⟩,
 ⟨148,8,0,false,4,7⟩,
 ⟨68,8,0,false,5,6⟩,
 ⟨84,8,0,false,6,6⟩,
 ⟨164,8,0,false,7,6⟩,
 ⟨100,8,0,false,8,8⟩,
 ⟨116,8,0,false,9,8⟩,
 ⟨12,8,0,true,0,6⟩,
 ⟨28,8,0,true,1,6⟩,
 ⟨44,8,0,true,2,6⟩,
 ⟨60,8,0,true,3,6⟩,
 ⟨156,8,0,true,4,6⟩,
 ⟨76,8,0,true,5,6⟩,
 ⟨92,8,0,true,6,6⟩,
 ⟨172,8,0,true,7,6⟩,
 ⟨108,8,0,true,8,6⟩,
 ⟨124,8,0,true,9,6⟩,
 ⟨21,11,0,false,0,10⟩,
 ⟨37,11,0,false,1,10⟩,
 ⟨53,11,0,false,2,10⟩,
 ⟨69,11,0,false,3,10⟩,
 ⟨29,11,0,true,0,10⟩,
 ⟨45,11,0,true,1,10⟩,
 ⟨61,11,0,true,2,10⟩,
 ⟨77,11,0,true,3,10⟩]
def look (C:Int):Option KR:=tab.find? (fun r=>r.code == C)
def kd (C:Int):KR:=(look C).getD ⟨C,0,0,false,0,0⟩
def kv (r:KR):Value:=.agg #[.int .i64 r.code,.int .i64 r.kind,.int .i64 r.n,.bool r.x,.int .i64 r.o]
theorem kd_all (P:KR→Prop) (h:∀ r ∈ tab,P r) (C:Int) (h0:P ⟨C,0,0,false,0,0⟩):P (kd C):=by
 unfold kd
 cases e:look C with
 | none=>exact h0
 | some r=>exact h r (List.mem_of_find?_eq_some e)
theorem kd_code (C:Int):(kd C).code=C:=by
 unfold kd
 cases e:look C with
 | none=>rfl
 | some r =>
  have:=List.find?_some e
  simpa using this
theorem kd_none (C:Int) (h:∀ r ∈ tab,r.code≠C):kd C=⟨C,0,0,false,0,0⟩:=by
 unfold kd look
 rw [List.find?_eq_none.2 (fun r hr=>by simpa using h r hr)]
 rfl
def sums (k:Nat):Int:=([4,20,36,52,148,68,84,164,100,116]:List Int).getD k 0
theorem kv_sum (k:Nat) (hk:k<10):kv (kd (sums k))=.agg #[.int .i64 (sums k),.int .i64 8,.int .i64 0,.bool false,.int .i64 k]:=by
 match k,hk with
 | 0,_=>rfl
 | 1,_=>rfl
 | 2,_=>rfl
 | 3,_=>rfl
 | 4,_=>rfl
 | 5,_=>rfl
 | 6,_=>rfl
 | 7,_=>rfl
 | 8,_=>rfl
 | 9,_=>rfl
theorem kv_sumx (k:Nat) (hk:k<10):kv (kd (sums k+8))=.agg #[.int .i64 (sums k+8),.int .i64 8,.int .i64 0,.bool true,.int .i64 k]:=by
 match k,hk with
 | 0,_=>rfl
 | 1,_=>rfl
 | 2,_=>rfl
 | 3,_=>rfl
 | 4,_=>rfl
 | 5,_=>rfl
 | 6,_=>rfl
 | 7,_=>rfl
 | 8,_=>rfl
 | 9,_=>rfl
theorem kv_ask (k:Nat) (hk:k<4):kv (kd (21+16*(k:Int)))=.agg #[.int .i64 (21+16*(k:Int)),.int .i64 11,.int .i64 0,.bool false,.int .i64 k]:=by
 match k,hk with
 | 0,_=>rfl
 | 1,_=>rfl
 | 2,_=>rfl
 | 3,_=>rfl
theorem kv_askx (k:Nat) (hk:k<4):kv (kd (29+16*(k:Int)))=.agg #[.int .i64 (29+16*(k:Int)),.int .i64 11,.int .i64 0,.bool true,.int .i64 k]:=by
 match k,hk with
 | 0,_=>rfl
 | 1,_=>rfl
 | 2,_=>rfl
 | 3,_=>rfl
def okk (C:Int):Bool:=(kd C).cls != 0
theorem okk_sum (k:Nat) (hk:k<10):okk (sums k)=true:=by
 match k,hk with
 | 0,_=>rfl
 | 1,_=>rfl
 | 2,_=>rfl
 | 3,_=>rfl
 | 4,_=>rfl
 | 5,_=>rfl
 | 6,_=>rfl
 | 7,_=>rfl
 | 8,_=>rfl
 | 9,_=>rfl
theorem okk_sumx (k:Nat) (hk:k<10):okk (sums k+8)=true:=by
 match k,hk with
 | 0,_=>rfl
 | 1,_=>rfl
 | 2,_=>rfl
 | 3,_=>rfl
 | 4,_=>rfl
 | 5,_=>rfl
 | 6,_=>rfl
 | 7,_=>rfl
 | 8,_=>rfl
 | 9,_=>rfl
theorem okk_ask (k:Nat) (hk:k<4):okk (21+16*(k:Int))=true:=by
 match k,hk with
 | 0,_=>rfl
 | 1,_=>rfl
 | 2,_=>rfl
 | 3,_=>rfl
theorem okk_askx (k:Nat) (hk:k<4):okk (29+16*(k:Int))=true:=by
 match k,hk with
 | 0,_=>rfl
 | 1,_=>rfl
 | 2,_=>rfl
 | 3,_=>rfl
def Other (C:Int):Prop:=∀ r ∈ tab.take 21,r.code≠C
theorem kd_other (C:Int) (h:Other C) (h1:∀ j,j<10→C≠sums j∧C≠sums j+8) (h2:∀ j:Nat,j<4→C≠21+16*(j:Int)∧C≠29+16*(j:Int)):kd C=⟨C,0,0,false,0,0⟩:=by
 refine kd_none C fun r hr=>?_
 rw [← List.take_append_drop 21 tab] at hr
 rcases List.mem_append.1 hr with hr | hr
 ·exact h r hr
 ·have s0:=h1 0 (by omega)
  have s1:=h1 1 (by omega)
  have s2:=h1 2 (by omega)
  have s3:=h1 3 (by omega)
  have s4:=h1 4 (by omega)
  have s5:=h1 5 (by omega)
  have s6:=h1 6 (by omega)
  have s7:=h1 7 (by omega)
  have s8:=h1 8 (by omega)
  have s9:=h1 9 (by omega)
  have a0:=h2 0 (by omega)
  have a1:=h2 1 (by omega)
  have a2:=h2 2 (by omega)
  have a3:=h2 3 (by omega)
  simp [sums] at s0 s1 s2 s3 s4 s5 s6 s7 s8 s9 a0 a1 a2 a3
  simp only [tab,List.drop,List.mem_cons,List.not_mem_nil,or_false] at hr
  rcases hr with rfl | rfl | rfl | rfl | rfl | rfl | rfl | rfl | rfl | rfl | rfl | rfl | rfl | rfl | rfl | rfl | rfl | rfl | rfl | rfl | rfl | rfl | rfl | rfl | rfl | rfl | rfl | rfl <;> (dsimp only;omega)
end Go.Proofs.YthbcfepbkkbjiaaGreatDoor
namespace Go.Proofs.YthbcfepbkkbjiaaGreatDoor
open Go.RowKit
def IMap (w:World) (b:Nat) (f:Int→Option Value):Prop :=
 ∃ (es:Array MapEntry) (clock:Nat),w.heap[b]?=some (.map es clock)∧(∀ e ∈ es.toList,∃ a,e.key=.int .i64 a) ∧
  (∀ (i j:Nat) (e e':MapEntry),es.toList[i]?=some e→es.toList[j]?=some e'→e.key=e'.key→i=j) ∧
  ∀ C v,f C=some v↔∃ e ∈ es.toList,e.key=.int .i64 C∧e.val=v
theorem IMap.lt {w:World} {b:Nat} {f:Int→Option Value} (h:IMap w b f):b<w.heap.size:=by
 obtain ⟨es,clock,h1,_⟩:=h
 exact (Array.getElem?_eq_some_iff.1 h1).1
theorem IMap.same {w w':World} {b:Nat} {f:Int→Option Value} (h:IMap w b f) (hb:w'.heap[b]?=w.heap[b]?):IMap w' b f:=by
 obtain ⟨es,clock,h1,h2⟩:=h
 exact ⟨es,clock,by rw [hb];exact h1,h2⟩
theorem IMap.keep {w w':World} {b:Nat} {f:Int→Option Value} {row:Option Nat} (h:IMap w b f) (hg:w.grownBy w' row) (hr:some b≠row):IMap w' b f:=h.same (hg.block b h.lt hr)
theorem imap_new (w:World):IMap (w.alloc (.map #[] 0)) w.heap.size (fun _=>none) :=
 ⟨#[],0,heap_top _ _ _ rfl,fun e he=>by simp at he,fun i j e e' h=>by simp at h,fun C v=>by simp⟩
theorem isKey_int (C:Int):MapKept.IsKey (.int .i64) (.int .i64 C):=rfl
theorem IMap.look {P:Program} {w:World} {b:Nat} {f:Int→Option Value} (h:IMap w b f) {t k e:TypeId} (ht:P.underlying t=some (.map k e)) (hk:P.underlying k=some (.int .i64)) {z:Value} (hz:(zeroValue e).run P w=.ok z w) (C:Int) (c:Bool) :
  (Instr.lookup t (.map (some b)) (.int .i64 C) c).run P w=.ok (if c then .tuple #[(f C).getD z,.bool (f C).isSome] else (f C).getD z) w:=by
 obtain ⟨es,clock,h1,h2,h3,h4⟩:=h
 have hkeys:∀ x ∈ es.toList,MapKept.IsKey (.int .i64) x.key:=fun x hx=>by
  obtain ⟨a,ha⟩:=h2 x hx
  rw [ha];exact isKey_int a
 rcases MapKept.findNow_spec (isKey_int C) es.toList 0 hkeys with ⟨a1,a2⟩ | ⟨j,e0,a1,a2,a3⟩
 ·have hn:f C=none:=by
   cases hf:f C with
   | none=>rfl
   | some v =>
    obtain ⟨x,hx,hxk,_⟩:=(h4 C v).1 hf
    exact absurd hxk (a2 x hx)
  rw [hn]
  simp [Instr.lookup,run_underlying ht,MapKept.run_getObj_map h1,MapKept.run_checkKey hk (isKey_int C),Instr.findKey,run_underlying hk,a1,hz,Result.andThen]
 ·have hs:f C=some e0.val:=(h4 C e0.val).2 ⟨e0,List.mem_of_getElem? a2,a3,rfl⟩
  rw [hs]
  simp [Instr.lookup,run_underlying ht,MapKept.run_getObj_map h1,MapKept.run_checkKey hk (isKey_int C),Instr.findKey,run_underlying hk,a1,Result.andThen]
theorem heap_put (w:World) {b:Nat} (h:b<w.heap.size) (o:Obj):(w.heap.setIfInBounds b o)[b]?=some o:=by simp [h]
theorem IMap.store {P:Program} {w:World} {b:Nat} {f:Int→Option Value} (h:IMap w b f) {t k e:TypeId} (ht:P.underlying t=some (.map k e)) (hk:P.underlying k=some (.int .i64)) (C:Int) (v:Value) :
  ∃ w',(Instr.mapUpdate t (.map (some b)) (.int .i64 C) v).run P w=.ok () w'∧IMap w' b (fun D=>if D=C then some v else f D)∧w.grownBy w' (some b):=by
 obtain ⟨es,clock,h1,h2,h3,h4⟩:=h
 have hlt:=(Array.getElem?_eq_some_iff.1 h1).1
 have hkeys:∀ x ∈ es.toList,MapKept.IsKey (.int .i64) x.key:=fun x hx=>by
  obtain ⟨a,ha⟩:=h2 x hx
  rw [ha];exact isKey_int a
 have hgrow:∀ o,w.grownBy { w with heap:=w.heap.setIfInBounds b o } (some b):=fun o =>
  ⟨rfl,rfl,rfl,by simp,fun i _ hr=>by simp only [Array.getElem?_setIfInBounds];rw [if_neg (fun e=>hr (by rw [e]))]⟩
 rcases MapKept.findNow_spec (isKey_int C) es.toList 0 hkeys with ⟨a1,a2⟩ | ⟨j,e0,a1,a2,a3⟩
 ·refine ⟨{ w with heap:=w.heap.setIfInBounds b (.map (es.push { key:=.int .i64 C,val:=v,born:=clock }) (clock+1)) },?_,?_,hgrow _⟩
  ·simp [Instr.mapUpdate,run_underlying ht,MapKept.run_getObj_map h1,MapKept.run_checkKey hk (isKey_int C),Instr.findKey,run_underlying hk,a1,MapKept.run_setObj_map _ h1,Result.andThen]
  ·refine ⟨es.push { key:=.int .i64 C,val:=v,born:=clock },clock+1,heap_put w hlt _,?_,?_,?_⟩
   ·intro x hx
    simp only [Array.toList_push,List.mem_append,List.mem_singleton] at hx
    rcases hx with hx | rfl
    ·exact h2 x hx
    ·exact ⟨C,rfl⟩
   ·intro i j x y hx hy hxy
    simp only [Array.toList_push] at hx hy
    by_cases hi:i<es.toList.length
    ·rw [List.getElem?_append_left hi] at hx
     by_cases hj:j<es.toList.length
     ·rw [List.getElem?_append_left hj] at hy
      exact h3 i j x y hx hy hxy
     ·rw [List.getElem?_append_right (by omega)] at hy
      obtain ⟨q1,q2⟩:=List.getElem?_eq_some_iff.1 hy
      simp at q2
      rw [← q2] at hxy
      exact absurd hxy (a2 x (List.mem_of_getElem? hx))
    ·rw [List.getElem?_append_right (by omega)] at hx
     obtain ⟨q1,q2⟩:=List.getElem?_eq_some_iff.1 hx
     by_cases hj:j<es.toList.length
     ·rw [List.getElem?_append_left hj] at hy
      simp at q2
      rw [← q2] at hxy
      exact absurd hxy.symm (a2 y (List.mem_of_getElem? hy))
     ·rw [List.getElem?_append_right (by omega)] at hy
      obtain ⟨q3,_⟩:=List.getElem?_eq_some_iff.1 hy
      simp only [List.length_cons,List.length_nil] at q1 q3
      omega
   ·intro D u
    simp only [Array.toList_push,List.mem_append,List.mem_singleton]
    by_cases hD:D=C
    ·subst hD
     rw [if_pos rfl]
     constructor
     ·intro hu
      cases hu
      exact ⟨_,Or.inr rfl,rfl,rfl⟩
     ·rintro ⟨x,hx | rfl,hk,hv⟩
      ·exact absurd hk (a2 x hx)
      ·rw [← hv]
    ·rw [if_neg hD,h4 D u]
     constructor
     ·rintro ⟨x,hx,r⟩
      exact ⟨x,Or.inl hx,r⟩
     ·rintro ⟨x,hx | rfl,hk,hv⟩
      ·exact ⟨x,hx,hk,hv⟩
      ·cases hk
       exact absurd rfl hD
 ·have hj:es[j]?=some e0:=by simpa using a2
  have hmod:∀ i,(es.modify j fun e=>{ e with key:=.int .i64 C,val:=v }).toList[i]?=if j=i then (es.toList[i]?).map (fun e=>{ e with key:=.int .i64 C,val:=v }) else es.toList[i]?:=fun i=>by
   simp only [Array.toList_modify,List.getElem?_modify]
   by_cases e:j=i <;> simp [e]
  refine ⟨{ w with heap:=w.heap.setIfInBounds b (.map (es.modify j fun e=>{ e with key:=.int .i64 C,val:=v }) clock) },?_,?_,hgrow _⟩
  ·simp [Instr.mapUpdate,run_underlying ht,MapKept.run_getObj_map h1,MapKept.run_checkKey hk (isKey_int C),MapKept.run_findKey hk a1,hj,a3,MapKept.run_keyThatStays (isKey_int C),MapKept.run_setObj_map _ h1,Result.andThen]
  ·refine ⟨es.modify j fun e=>{ e with key:=.int .i64 C,val:=v },clock,heap_put w hlt _,?_,?_,?_⟩
   ·intro x hx
    obtain ⟨i,hi⟩:=List.getElem?_of_mem hx
    rw [hmod] at hi
    by_cases e:j=i
    ·subst e
     rw [if_pos rfl,a2] at hi
     cases hi
     exact ⟨C,rfl⟩
    ·rw [if_neg e] at hi
     exact h2 x (List.mem_of_getElem? hi)
   ·intro i l x y hx hy hxy
    rw [hmod] at hx hy
    by_cases ei:j=i
    ·by_cases el:j=l
     ·omega
     ·subst ei
      rw [if_pos rfl,a2] at hx
      rw [if_neg el] at hy
      cases hx
      exact absurd (h3 j l e0 y a2 hy (by rw [a3];exact hxy)) el
    ·rw [if_neg ei] at hx
     by_cases el:j=l
     ·subst el
      rw [if_pos rfl,a2] at hy
      cases hy
      exact absurd (h3 i j x e0 hx a2 (by rw [a3];exact hxy)).symm ei
     ·rw [if_neg el] at hy
      exact h3 i l x y hx hy hxy
   ·intro D u
    show (if D=C then some v else f D)=some u↔_
    by_cases hD:D=C
    ·subst hD
     rw [if_pos rfl]
     constructor
     ·intro hu
      cases hu
      refine ⟨{ e0 with key:=.int .i64 D,val:=v },List.mem_of_getElem? (i:=j) ?_,rfl,rfl⟩
      rw [hmod,if_pos rfl,a2];rfl
     ·rintro ⟨x,hx,hkx,hv⟩
      obtain ⟨i,hi⟩:=List.getElem?_of_mem hx
      rw [hmod] at hi
      by_cases e:j=i
      ·subst e
       rw [if_pos rfl,a2] at hi
       cases hi
       rw [← hv]
      ·rw [if_neg e] at hi
       exact absurd (h3 j i e0 x a2 hi (by rw [a3,hkx])) e
    ·rw [if_neg hD,h4 D u]
     constructor
     ·rintro ⟨x,hx,hkx,hv⟩
      obtain ⟨i,hi⟩:=List.getElem?_of_mem hx
      have e:j≠i:=fun e=>by
       subst e
       rw [a2] at hi
       cases hi
       rw [a3] at hkx
       cases hkx
       exact hD rfl
      refine ⟨x,List.mem_of_getElem? (i:=i) ?_,hkx,hv⟩
      rw [hmod,if_neg e];exact hi
     ·rintro ⟨x,hx,hkx,hv⟩
      obtain ⟨i,hi⟩:=List.getElem?_of_mem hx
      rw [hmod] at hi
      by_cases e:j=i
      ·subst e
       rw [if_pos rfl,a2] at hi
       cases hi
       cases hkx
       exact absurd rfl hD
      ·rw [if_neg e] at hi
       exact ⟨x,List.mem_of_getElem? hi,hkx,hv⟩
theorem wpList_put_imap {P:Program} (w:World) {ops:Array Oper} {rest:List Oper} {o:Oper} {a:Act} {Q:Exit→Act→World→Prop} (hgd:o.guard=none) (m x y:Operand) (t:TypeId)
  (ho:o.op=.insert t m x y∨o.op=.mapUpdate t m x y) (k e:TypeId) (ht:P.underlying t=some (.map k e)) (hk:P.underlying k=some (.int .i64)) (b:Nat) (C:Int) (v:Value) (f:Int→Option Value)
  (hm:a.eval m=.map (some b)) (hx:a.eval x=.int .i64 C) (hy:a.eval y=v) (h:IMap w b f)
  (hK:∀ w',IMap w' b (fun D=>if D=C then some v else f D)→w.grownBy w' (some b)→wpList P ops Q rest (a.put o.dst undef) w'):wpList P ops Q (o::rest) a w:=by
 refine wpList_plain hgd fun K hK'=>?_
 obtain ⟨w',hrun,r1,r2⟩:=h.store ht hk C v
 unfold Oper.wp
 rcases ho with ho | ho <;> (simp [execOp,ho,hm,hx,hy,hrun,Result.andThen];exact hK' _ _ (hK w' r1 r2))
theorem wpList_put_own {P:Program} (w w0:World) {ops:Array Oper} {rest:List Oper} {o:Oper} {a:Act} {Q:Exit→Act→World→Prop} (hgd:o.guard=none) (m x y:Operand) (t:TypeId)
  (ho:o.op=.insert t m x y) (k e:TypeId) (ht:P.underlying t=some (.map k e)) (hk:P.underlying k=some (.int .i64)) (b:Nat) (C:Int) (kd:IntKind) (V:Int) (f:Int→Option Value)
  (hm:a.eval m=.map (some b)) (hx:a.eval x=.int .i64 C) (hy:a.eval y=.int kd V) (h:IMap w b f∧w0.grownBy w none) (hb:w0.heap.size≤b)
  (hK:∀ w',IMap w' b (fun D=>if D=C then some (.int kd V) else f D)∧w0.grownBy w' none→wpList P ops Q rest (a.put o.dst undef) w'):wpList P ops Q (o::rest) a w :=
 wpList_put_imap w hgd m x y t (Or.inl ho) k e ht hk b C (.int kd V) f hm hx hy h.1 fun w' r1 r2=>hK w' ⟨r1,grown_new none h.2 r2 hb⟩
end Go.Proofs.YthbcfepbkkbjiaaGreatDoor
namespace Go.Proofs.YthbcfepbkkbjiaaGreatDoor
open Go.RowKit
def U32 (x:Int):Prop:=0≤x∧x<4294967296
theorem wrap_u32 (n:Int):IntKind.u32.wrap n=n%4294967296:=by simp [IntKind.wrap,IntKind.bits,IntKind.signed]
def opv (o x y:Int):Int :=
 if o=0 then (x+y)%4294967296 else if o=1 then (x-y)%4294967296 else if o=2 then x*y%4294967296 else if o=3 then x/y else if o=4 then x%y
 else if o=5 then bits .or .u32 x y else if o=6 then bits .and .u32 x y else if o=7 then bits .xor .u32 x y else if o=8 then x*2 ^ min y.toNat 32%4294967296 else x/2 ^ min y.toNat 32
def div0 (o y:Int):Bool:=(o == 3 || o == 4) && y == 0
theorem div0_iff (o y:Int):div0 o y=true↔(o=3∨o=4)∧y=0:=by simp [div0]
def opr (o x y:Int):Int:=if div0 o y=true then 0 else opv o x y
def askv (o x y:Int):Bool:=if o=0 then decide (x=y) else if o=1 then decide (y<x) else if o=2 then decide (y≤x) else bits .and .u32 x y != 0
theorem bits_u32 (op:BinOp) (x y:Int):U32 (bits op .u32 x y):=by
 show U32 (IntKind.u32.wrap _)
 rw [wrap_u32]
 unfold U32;omega
theorem nat_of {x:Int} (h:U32 x):∃ n:Nat,x=n∧n<4294967296:=⟨x.toNat,by have:=h.1;omega,by have:=h.2;omega⟩
theorem ofInt_toNat (k n:Nat) (h:n<2 ^ k):(BitVec.ofInt k (n:Int)).toNat=n:=by
 rw [BitVec.ofInt_natCast,BitVec.toNat_ofNat];exact Nat.mod_eq_of_lt h
theorem or_nat (a b:Nat) (ha:a<4294967296) (hb:b<4294967296):bits .or .u32 (a:Int) b=((a ||| b:Nat):Int)∧bits .or .i64 (a:Int) b=((a ||| b:Nat):Int):=by
 have hx:a ||| b<2 ^ 32:=Nat.or_lt_two_pow (by omega) (by omega)
 constructor
 ·show IntKind.u32.wrap ((BitVec.ofInt 32 (a:Int) ||| BitVec.ofInt 32 (b:Int)).toNat:Int)=_
  rw [BitVec.toNat_or,ofInt_toNat 32 a (by omega),ofInt_toNat 32 b (by omega),wrap_u32];omega
 ·show IntKind.i64.wrap ((BitVec.ofInt 64 (a:Int) ||| BitVec.ofInt 64 (b:Int)).toNat:Int)=_
  rw [BitVec.toNat_or,ofInt_toNat 64 a (by omega),ofInt_toNat 64 b (by omega),IntKind.wrap_i64];omega
theorem and_nat (a b:Nat) (ha:a<4294967296) (hb:b<4294967296):bits .and .u32 (a:Int) b=((a &&& b:Nat):Int)∧bits .and .i64 (a:Int) b=((a &&& b:Nat):Int):=by
 have hx:a &&& b<2 ^ 32:=Nat.and_lt_two_pow _ (by omega)
 constructor
 ·show IntKind.u32.wrap ((BitVec.ofInt 32 (a:Int) &&& BitVec.ofInt 32 (b:Int)).toNat:Int)=_
  rw [BitVec.toNat_and,ofInt_toNat 32 a (by omega),ofInt_toNat 32 b (by omega),wrap_u32];omega
 ·show IntKind.i64.wrap ((BitVec.ofInt 64 (a:Int) &&& BitVec.ofInt 64 (b:Int)).toNat:Int)=_
  rw [BitVec.toNat_and,ofInt_toNat 64 a (by omega),ofInt_toNat 64 b (by omega),IntKind.wrap_i64];omega
theorem xor_nat (a b:Nat) (ha:a<4294967296) (hb:b<4294967296):bits .xor .u32 (a:Int) b=((a ^^^ b:Nat):Int)∧bits .xor .i64 (a:Int) b=((a ^^^ b:Nat):Int):=by
 have hx:a ^^^ b<2 ^ 32:=Nat.xor_lt_two_pow (by omega) (by omega)
 constructor
 ·show IntKind.u32.wrap ((BitVec.ofInt 32 (a:Int) ^^^ BitVec.ofInt 32 (b:Int)).toNat:Int)=_
  rw [BitVec.toNat_xor,ofInt_toNat 32 a (by omega),ofInt_toNat 32 b (by omega),wrap_u32];omega
 ·show IntKind.i64.wrap ((BitVec.ofInt 64 (a:Int) ^^^ BitVec.ofInt 64 (b:Int)).toNat:Int)=_
  rw [BitVec.toNat_xor,ofInt_toNat 64 a (by omega),ofInt_toNat 64 b (by omega),IntKind.wrap_i64];omega
theorem or_same {x y:Int} (hx:U32 x) (hy:U32 y):bits .or .i64 x y=bits .or .u32 x y:=by
 obtain ⟨a,rfl,ha⟩:=nat_of hx
 obtain ⟨b,rfl,hb⟩:=nat_of hy
 rw [(or_nat a b ha hb).1,(or_nat a b ha hb).2]
theorem and_same {x y:Int} (hx:U32 x) (hy:U32 y):bits .and .i64 x y=bits .and .u32 x y:=by
 obtain ⟨a,rfl,ha⟩:=nat_of hx
 obtain ⟨b,rfl,hb⟩:=nat_of hy
 rw [(and_nat a b ha hb).1,(and_nat a b ha hb).2]
theorem xor_same {x y:Int} (hx:U32 x) (hy:U32 y):bits .xor .i64 x y=bits .xor .u32 x y:=by
 obtain ⟨a,rfl,ha⟩:=nat_of hx
 obtain ⟨b,rfl,hb⟩:=nat_of hy
 rw [(xor_nat a b ha hb).1,(xor_nat a b ha hb).2]
theorem shl8_or {x b:Int} (hx:0≤x) (hx2:x<16777216) (hb:0≤b) (hb2:b<256):bits .or .u32 (x*256) b=x*256+b:=by
 obtain ⟨a,rfl⟩:∃ n:Nat,x=n:=⟨x.toNat,by omega⟩
 obtain ⟨c,rfl⟩:∃ n:Nat,b=n:=⟨b.toNat,by omega⟩
 have h:=(or_nat (a*256) c (by omega) (by omega)).1
 have e:((a*256:Nat):Int)=(a:Int)*256:=by omega
 rw [e] at h
 rw [h]
 have e2:a*256 ||| c=a*256+c:=by
  have:=Nat.shiftLeft_add_eq_or_of_lt (show c<2 ^ 8 by omega) a
  rw [Nat.shiftLeft_eq] at this
  exact this.symm
 rw [e2,Int.natCast_add,Int.natCast_mul];rfl
theorem pow_pos2 (n:Nat):(0:Int)<2 ^ n:=Int.pow_pos (by decide)
theorem opv_u32 {o x y:Int} (hx:U32 x) (hy:U32 y) (h0:¬ div0 o y=true):U32 (opv o x y):=by
 have q:=pow_pos2 (min y.toNat 32)
 have hx':=hx
 unfold U32 at hx' hy
 unfold opv
 split
 ·unfold U32;omega
 split
 ·unfold U32;omega
 split
 ·exact ⟨Int.emod_nonneg _ (by decide),Int.emod_lt_of_pos _ (by decide)⟩
 split
 ·have:y≠0:=fun e=>h0 ((div0_iff _ _).2 ⟨Or.inl ‹_›,e⟩)
  exact ⟨Int.ediv_nonneg hx'.1 hy.1,Int.lt_of_le_of_lt (Int.ediv_le_self _ hx'.1) hx'.2⟩
 split
 ·have:y≠0:=fun e=>h0 ((div0_iff _ _).2 ⟨Or.inr ‹_›,e⟩)
  have h1:=Int.emod_nonneg x this
  have h2:=Int.emod_lt_of_pos x (show 0<y by omega)
  exact ⟨h1,by omega⟩
 split
 ·exact bits_u32 _ _ _
 split
 ·exact bits_u32 _ _ _
 split
 ·exact bits_u32 _ _ _
 split
 ·exact ⟨Int.emod_nonneg _ (by decide),Int.emod_lt_of_pos _ (by decide)⟩
 ·exact ⟨Int.ediv_nonneg hx'.1 (by omega),Int.lt_of_le_of_lt (Int.ediv_le_self _ hx'.1) hx'.2⟩
theorem opr_u32 {o x y:Int} (hx:U32 x) (hy:U32 y):U32 (opr o x y):=by
 unfold opr
 split
 ·exact ⟨by decide,by decide⟩
 ·exact opv_u32 hx hy ‹_›
theorem mul_halves (x y:Int):(x%65536*y+x/65536*(y%65536)%65536*65536)%4294967296=x*y%4294967296:=by
 have h1:x/65536*(y%65536)%65536=x/65536*y%65536:=by rw [Int.mul_emod,Int.emod_emod_of_dvd _ (Int.dvd_refl _),← Int.mul_emod]
 have h2:x*y=x%65536*y+x/65536*y*65536:=by
  have e:x=x%65536+x/65536*65536:=by omega
  have f:(x%65536+x/65536*65536)*y=x%65536*y+x/65536*y*65536:=by rw [Int.add_mul,Int.mul_assoc,Int.mul_comm 65536 y,← Int.mul_assoc]
  rw [← e] at f
  exact f
 rw [h1,h2]
 generalize x%65536*y=a
 generalize x/65536*y=b
 omega
theorem shl_far {x y:Int} (h:31<y):x*2 ^ min y.toNat 32%4294967296=0:=by
 rw [show min y.toNat 32=32 by omega,show (2:Int) ^ 32=4294967296 by rfl]
 exact Int.mul_emod_left _ _
theorem shr_far {x y:Int} (hx:U32 x) (h:31<y):x/2 ^ min y.toNat 32=0:=by
 rw [show min y.toNat 32=32 by omega,show (2:Int) ^ 32=4294967296 by rfl]
 exact Int.ediv_eq_zero_of_lt hx.1 hx.2
theorem shl_step (x:Int) (k:Nat):x*2 ^ k%4294967296*2%4294967296=x*2 ^ (k+1)%4294967296:=by
 rw [Int.pow_succ,← Int.mul_assoc]
 generalize x*2 ^ k=a
 omega
theorem shr_step (x:Int) (k:Nat):x/2 ^ k/2=x/2 ^ (k+1):=by
 rw [Int.pow_succ,Int.ediv_ediv_of_nonneg (Int.le_of_lt (pow_pos2 k))]
def be (g:Nat→Int) (o:Nat):Nat→Int
 | 0=>0
 | n+1=>256*be g o n+g (o+n)
theorem be_bd {g:Nat→Int} (hg:Oct g) (o:Nat):∀ n,n≤4→0≤be g o n∧be g o n<256 ^ n
 | 0,_=>by simp [be]
 | n+1,hn=>by
  have ih:=be_bd hg o n (by omega)
  have h:=hg (o+n)
  have e:(256:Int) ^ (n+1)=256 ^ n*256:=Int.pow_succ _ _
  simp only [be]
  omega
theorem be_u32 {g:Nat→Int} (hg:Oct g) (o n:Nat) (hn:n≤4):U32 (be g o n):=by
 have h:=be_bd hg o n hn
 have e1:(256:Int) ^ n=((256 ^ n:Nat):Int):=by rw [Int.natCast_pow];rfl
 have e2:=Nat.pow_le_pow_right (n:=256) (by decide) hn
 have e3:(256:Nat) ^ 4=4294967296:=by decide
 exact ⟨h.1,by omega⟩
theorem be_shift (g:Nat→Int) (o d:Nat):∀ n,be (fun j=>g (d+j)) o n=be g (d+o) n
 | 0=>rfl
 | n+1=>by simp only [be];rw [be_shift g o d n,Nat.add_assoc]
end Go.Proofs.YthbcfepbkkbjiaaGreatDoor
namespace Go.Proofs.YthbcfepbkkbjiaaGreatDoor
open Go.RowKit
structure Shp where
 wh:Nat
 nb:Nat
 po:Nat
 pu:Nat
def shp (c:Int):Option Shp :=
 if c=1 then some ⟨0,4,0,1⟩ else if c=2 then some ⟨1,0,0,1⟩ else if c=3 then some ⟨1,0,1,0⟩ else if c=4 then some ⟨1,0,2,1⟩ else if c=5 then some ⟨1,0,2,1⟩
 else if c=6 then some ⟨0,0,0,1⟩ else if c=7 then some ⟨0,2,0,0⟩ else if c=8 then some ⟨1,2,2,0⟩ else if c=9 then some ⟨0,0,1,0⟩ else none
theorem shp_cases {c:Int} {s:Shp} (h:shp c=some s) :
  (c=1∧s=⟨0,4,0,1⟩)∨(c=2∧s=⟨1,0,0,1⟩)∨(c=3∧s=⟨1,0,1,0⟩)∨(c=4∧s=⟨1,0,2,1⟩)∨(c=5∧s=⟨1,0,2,1⟩)∨(c=6∧s=⟨0,0,0,1⟩)∨(c=7∧s=⟨0,2,0,0⟩)∨(c=8∧s=⟨1,2,2,0⟩)∨(c=9∧s=⟨0,0,1,0⟩):=by
 unfold shp at h
 split at h
 ·exact Or.inl ⟨‹_›,by cases h;rfl⟩
 split at h
 ·exact Or.inr (Or.inl ⟨‹_›,by cases h;rfl⟩)
 split at h
 ·exact Or.inr (Or.inr (Or.inl ⟨‹_›,by cases h;rfl⟩))
 split at h
 ·exact Or.inr (Or.inr (Or.inr (Or.inl ⟨‹_›,by cases h;rfl⟩)))
 split at h
 ·exact Or.inr (Or.inr (Or.inr (Or.inr (Or.inl ⟨‹_›,by cases h;rfl⟩))))
 split at h
 ·exact Or.inr (Or.inr (Or.inr (Or.inr (Or.inr (Or.inl ⟨‹_›,by cases h;rfl⟩)))))
 split at h
 ·exact Or.inr (Or.inr (Or.inr (Or.inr (Or.inr (Or.inr (Or.inl ⟨‹_›,by cases h;rfl⟩))))))
 split at h
 ·exact Or.inr (Or.inr (Or.inr (Or.inr (Or.inr (Or.inr (Or.inr (Or.inl ⟨‹_›,by cases h;rfl⟩)))))))
 split at h
 ·exact Or.inr (Or.inr (Or.inr (Or.inr (Or.inr (Or.inr (Or.inr (Or.inr ⟨‹_›,by cases h;rfl⟩)))))))
 ·cases h
def knw (c o:Int):Bool:=if c=2∨c=3 then decide (o≤17) else if c=4 then decide (o≤9) else if c=5 then decide (o=1∨o=2∨o=4) else if c=8 then decide (o≤3) else true
structure Mst where
 pc:Nat
 sp:Nat
 st:Nat→Int
 cs:Nat→Int
def fitB (g:Nat→Int) (n:Nat) (S:Mst):Bool :=
 decide (S.pc<n) && (match shp (g S.pc) with
  | none=>false
  | some s=>decide (S.pc+1+s.wh+s.nb≤n) && decide (s.po≤S.sp) && decide (S.sp-s.po+s.pu≤8) && knw (g S.pc) (g (S.pc+1)))
theorem fit_none {g:Nat→Int} {n:Nat} {S:Mst} (h:shp (g S.pc)=none):fitB g n S=false:=by simp [fitB,h]
theorem fit_end {g:Nat→Int} {n:Nat} {S:Mst} (h:¬ S.pc<n):fitB g n S=false:=by simp [fitB,h]
theorem fit_some {g:Nat→Int} {n:Nat} {S:Mst} {s:Shp} (hlt:S.pc<n) (h:shp (g S.pc)=some s) :
  fitB g n S=(decide (S.pc+1+s.wh+s.nb≤n) && decide (s.po≤S.sp) && decide (S.sp-s.po+s.pu≤8) && knw (g S.pc) (g (S.pc+1))):=by simp [fitB,h,hlt]
theorem fit_true {g:Nat→Int} {n:Nat} {S:Mst} (h:fitB g n S=true) :
  S.pc<n∧∃ s,shp (g S.pc)=some s∧S.pc+1+s.wh+s.nb≤n∧s.po≤S.sp∧S.sp-s.po+s.pu≤8∧knw (g S.pc) (g (S.pc+1))=true:=by
 have hlt:S.pc<n:=by
  by_cases e:S.pc<n
  ·exact e
  ·rw [fit_end e] at h;cases h
 refine ⟨hlt,?_⟩
 cases e:shp (g S.pc) with
 | none=>rw [fit_none e] at h;cases h
 | some s =>
  rw [fit_some hlt e] at h
  simp only [Bool.and_eq_true,decide_eq_true_eq] at h
  exact ⟨s,rfl,h.1.1.1,h.1.1.2,h.1.2,h.2⟩
def upd (f:Nat→Int) (i:Nat) (v:Int):Nat→Int:=fun j=>if j=i then v else f j
def Mst.push (S:Mst) (v:Int) (d:Nat):Mst:=⟨S.pc+d,S.sp+1,upd S.st S.sp v,S.cs⟩
structure Res where
 S:Mst
 v:Int
 done:Bool
def stepM (g:Nat→Int) (p:Nat→Int) (m:Nat) (S:Mst):Res :=
 let c:=g S.pc
 let o:=g (S.pc+1)
 let y:=S.st (S.sp-1)
 let x:=S.st (S.sp-2)
 if c=1 then ⟨S.push (be g (S.pc+1) 4) 5,0,false⟩
 else if c=2 then ⟨S.push (S.cs o.toNat) 2,0,false⟩
 else if c=3 then ⟨⟨S.pc+2,S.sp-1,S.st,upd S.cs o.toNat y⟩,0,false⟩
 else if c=4 then ⟨⟨S.pc+2,S.sp-1,upd S.st (S.sp-2) (opr o x y),S.cs⟩,0,div0 o y⟩
 else if c=5 then
  if (x+y).toNat+o.toNat≤m then ⟨⟨S.pc+2,S.sp-1,upd S.st (S.sp-2) (be p (x+y).toNat o.toNat),S.cs⟩,0,false⟩
  else ⟨⟨S.pc+2,S.sp-1,upd S.st (S.sp-2) 0,S.cs⟩,0,true⟩
 else if c=6 then ⟨S.push m 1,0,false⟩
 else if c=7 then ⟨⟨S.pc+3+(be g (S.pc+1) 2).toNat,S.sp,S.st,S.cs⟩,0,false⟩
 else if c=8 then ⟨⟨S.pc+4+(if askv o x y=true then (be g (S.pc+2) 2).toNat else 0),S.sp-2,S.st,S.cs⟩,0,false⟩
 else ⟨⟨S.pc+1,S.sp-1,S.st,S.cs⟩,y,true⟩
def execM (g:Nat→Int) (n:Nat) (p:Nat→Int) (m:Nat):Nat→Nat→Mst→Int × Nat × Int
 | 0,k,_=>(0,k,9)
 | f+1,k,S=>if fitB g n S=true then (if (stepM g p m S).done=true then ((stepM g p m S).v,k+1,0) else execM g n p m f (k+1) (stepM g p m S).S) else (0,k,9)
structure Inv (n:Nat) (S:Mst):Prop where
 pc:S.pc≤n+65539
 sp:S.sp≤8
 st:∀ j,j<S.sp→U32 (S.st j)
 cs:∀ j,U32 (S.cs j)
def S0:Mst:=⟨0,0,fun _=>0,fun _=>0⟩
theorem u32_zero:U32 0:=⟨by decide,by decide⟩
theorem inv0 (n:Nat):Inv n S0:=⟨Nat.zero_le _,Nat.zero_le _,fun _ h=>absurd h (Nat.not_lt_zero _),fun _=>u32_zero⟩
theorem upd_all {f:Nat→Int} {i:Nat} {v:Int} (P:Int→Prop) (h:∀ j,P (f j)) (hv:P v) (j:Nat):P (upd f i v j):=by
 unfold upd;split
 ·exact hv
 ·exact h j
theorem upd_lt {f:Nat→Int} {i n:Nat} {v:Int} (P:Int→Prop) (h:∀ j,j<n→P (f j)) (hv:P v) (hi:i≤n) (j:Nat) (hj:j<i+1):P (upd f i v j):=by
 unfold upd;split
 ·exact hv
 ·exact h j (by omega)
theorem step_inv {g:Nat→Int} {n:Nat} {p:Nat→Int} {m:Nat} {S:Mst} (hg:Oct g) (hp:Oct p) (hm:m≤2000) (h:Inv n S) (hf:fitB g n S=true):Inv n (stepM g p m S).S:=by
 obtain ⟨h1,h2,h3,h4⟩:=h
 obtain ⟨f1,s,f2,f3,f4,f5,f6⟩:=fit_true hf
 have b4:=be_u32 hg (S.pc+1) 4 (by omega)
 have hm':U32 (m:Int):=⟨by omega,by omega⟩
 have bd:∀ o,0≤be g o 2∧be g o 2<65536:=fun o=>be_bd hg o 2 (by omega)
 rcases shp_cases f2 with ⟨c,rfl⟩ | ⟨c,rfl⟩ | ⟨c,rfl⟩ | ⟨c,rfl⟩ | ⟨c,rfl⟩ | ⟨c,rfl⟩ | ⟨c,rfl⟩ | ⟨c,rfl⟩ | ⟨c,rfl⟩
 all_goals (simp only at f3 f4 f5;simp only [stepM,c];simp only [Int.reduceEq,if_true,if_false])
 ·exact ⟨by simp only [Mst.push];omega,by simp only [Mst.push];omega,upd_lt U32 h3 b4 (Nat.le_refl _),h4⟩
 ·exact ⟨by simp only [Mst.push];omega,by simp only [Mst.push];omega,upd_lt U32 h3 (h4 _) (Nat.le_refl _),h4⟩
 ·exact ⟨by simp only;omega,by simp only;omega,fun j hj=>h3 j (by simp only at hj;omega),upd_all U32 h4 (h3 _ (by omega))⟩
 ·exact ⟨by simp only;omega,by simp only;omega,fun j hj=>by
   simp only at hj ⊢
   exact upd_lt U32 h3 (opr_u32 (h3 _ (by omega)) (h3 _ (by omega))) (by omega) j (by omega),h4⟩
 ·have ho:(g (S.pc+1)).toNat≤4:=by
   rw [c] at f6
   simp [knw] at f6
   omega
  split
  ·exact ⟨by simp only;omega,by simp only;omega,fun j hj=>by
    simp only at hj ⊢
    exact upd_lt U32 h3 (be_u32 hp _ _ ho) (by omega) j (by omega),h4⟩
  ·exact ⟨by simp only;omega,by simp only;omega,fun j hj=>by
    simp only at hj ⊢
    exact upd_lt U32 h3 u32_zero (by omega) j (by omega),h4⟩
 ·exact ⟨by simp only [Mst.push];omega,by simp only [Mst.push];omega,upd_lt U32 h3 hm' (Nat.le_refl _),h4⟩
 ·have:=bd (S.pc+1)
  exact ⟨by simp only;omega,by simp only;omega,h3,h4⟩
 ·have:=bd (S.pc+2)
  refine ⟨?_,by simp only;omega,fun j hj=>h3 j (by simp only at hj;omega),h4⟩
  simp only
  split <;> omega
 ·exact ⟨by simp only;omega,by simp only;omega,fun j hj=>h3 j (by simp only at hj;omega),h4⟩
end Go.Proofs.YthbcfepbkkbjiaaGreatDoor
