import Derived.Test.YthbcfepbkkbjiaaGreatDoorIDP
set_option linter.unusedVariables false
namespace Go.Proofs.YthbcfepbkkbjiaaGreatDoor
open Go.RowKit
theorem owns_blk {w:World} {base g n cap:Nat} {e:TypeId} {l:List Int} (h:w.ownsRow base e 1 (.slice (some ⟨g,0,none⟩) n cap) n (vals l)):Blk w g e cap n (ints .u8 fun j=>l.getD j 0)∧cap≤maxLen∧base≤g:=by
 have hl:=h.1
 rw [Nat.mul_one,vals_len] at hl
 rcases h.2 with ⟨h2,_⟩ | ⟨g',cap',cur,hv,hb,hh,hn,hm,hs,ht⟩
 ·cases h2
 ·cases hv
  rw [Nat.mul_one] at hs ht
  refine ⟨⟨cur,hh,hs,hn,fun j hj=>?_⟩,hm,hb⟩
  have:(cur.toList.take n)[j]?=(vals l)[j]?:=by rw [ht]
  rw [List.getElem?_take_of_lt hj] at this
  have hjl:j<l.length:=by omega
  rw [Array.getElem?_toList] at this
  rw [this]
  simp [vals,ints,hjl]
theorem Chk.len {g:Nat→Int} {n:Nat} (h:Chk g n 0 0):∃ j,1≤j∧j≤256∧n=8*j:=by
 rcases h with ⟨_,h,_⟩ | ⟨h,_⟩
 ·omega
 ·unfold badSize at h
  exact ⟨n/8,by omega,by omega,by omega⟩
end Go.Proofs.YthbcfepbkkbjiaaGreatDoor
