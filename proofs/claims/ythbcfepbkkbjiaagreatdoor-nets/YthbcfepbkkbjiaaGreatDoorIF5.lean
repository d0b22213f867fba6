import Derived.Test.YthbcfepbkkbjiaaGreatDoorIE6
set_option linter.unusedVariables false
namespace Go.Proofs.YthbcfepbkkbjiaaGreatDoor
open Go.RowKit
def execR (g:Nat→Int) (n:Nat) (p:Nat→Int) (m:Nat):Int × Nat × Int:=execM g n p m 65536 0 S0
theorem execR_start (g:Nat→Int) (n:Nat) (p:Nat→Int) (m:Nat):execM g n p m (65536-0) 0 S0=execR g n p m:=by unfold execR;rw [Nat.sub_zero]
theorem exec_no {g:Nat→Int} {n:Nat} {p:Nat→Int} {m k:Nat} {S:Mst} {R:Int × Nat × Int} (hk:k<65536) (h:execM g n p m (65536-k) k S=R) (hf:fitB g n S=false):R=(0,k,9):=by
 rw [show 65536-k=(65535-k)+1 by omega] at h
 unfold execM at h
 rw [hf] at h
 exact h.symm.trans (by simp)
theorem exec_stop {g:Nat→Int} {n:Nat} {p:Nat→Int} {m k:Nat} {S:Mst} {R:Int × Nat × Int} (hk:k<65536) (h:execM g n p m (65536-k) k S=R) (hf:fitB g n S=true) (hd:(stepM g p m S).done=true):R=((stepM g p m S).v,k+1,0):=by
 rw [show 65536-k=(65535-k)+1 by omega] at h
 unfold execM at h
 rw [if_pos hf,if_pos hd] at h
 exact h.symm
theorem exec_go {g:Nat→Int} {n:Nat} {p:Nat→Int} {m k:Nat} {S:Mst} {R:Int × Nat × Int} (hk:k<65536) (h:execM g n p m (65536-k) k S=R) (hf:fitB g n S=true) (hd:(stepM g p m S).done=false):execM g n p m (65536-(k+1)) (k+1) (stepM g p m S).S=R:=by
 rw [show 65536-k=(65535-k)+1 by omega] at h
 unfold execM at h
 rw [if_pos hf,if_neg (by rw [hd];simp)] at h
 rw [show 65536-(k+1)=65535-k by omega]
 exact h
theorem exec_end {g:Nat→Int} {n:Nat} {p:Nat→Int} {m:Nat} {S:Mst} {R:Int × Nat × Int} (h:execM g n p m (65536-65536) 65536 S=R):R=(0,65536,9):=h.symm
end Go.Proofs.YthbcfepbkkbjiaaGreatDoor
