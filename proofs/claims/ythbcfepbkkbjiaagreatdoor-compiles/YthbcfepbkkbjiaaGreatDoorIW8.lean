import Derived.Test.YthbcfepbkkbjiaaGreatDoorI2
namespace Go.Proofs.YthbcfepbkkbjiaaGreatDoor
open Go.RowKit
attribute [local go_sem ↓] Go.wp_at_zero Go.wp_at_succ
theorem take_mid {w0 wj : World} {O CB t : Nat} {A : Nat → Prop} {n c : Nat} {f : Nat → Value} (hB : Books w0 O A w0.heap.size t) (Gj : w0.grownBy wj none) (hCB : w0.heap.size ≤ CB) (hbc : Blk wj CB 5 c n f) (hcm : c ≤ maxLen) (ht : t ≤ 1000000) (hn : n ≤ 140737488355320) :
    Calls Tryz.prog 18 #[.pointer (some ⟨O, 0, none⟩), .slice (some ⟨CB, 0, none⟩) n c] wj
      fun e wk => e = .returned (.tuple #[]) ∧ ∃ A', (∀ k, A k → A' k) ∧ (∀ k, w0.heap.size ≤ k → k < wj.heap.size → k ≠ CB → A' k) ∧ Books wk O A' wk.heap.size (t + 1) ∧ Kept (fun k => A k ∨ (w0.heap.size ≤ k ∧ k < wj.heap.size ∧ k ≠ CB)) wj wk := by
  have hA8 : ∀ k, A k → k < w0.heap.size := by obtain ⟨_, _, _, _, _, _, _, _, _, _, _, _, _, h8, _⟩ := hB; exact h8
  refine (take_any O (fun k => A k ∨ (w0.heap.size ≤ k ∧ k < wj.heap.size ∧ k ≠ CB)) w0.heap.size t (some ⟨CB, 0, none⟩) n c f wj ht hn (hB.grow Gj (Nat.le_refl _) (fun k h => Or.inl h) (fun k h => h.imp id fun h => ⟨h.1, h.2.1⟩)) (Or.inr ⟨CB, rfl, by simpa using hbc, hbc.le, hcm⟩) ?_).mono ?_
  · intro k hk
    cases hk
    refine ⟨hCB, fun h => ?_⟩
    rcases h with h | h
    · have := hA8 _ h
      have : CB < w0.heap.size := this
      omega
    · exact h.2.2 rfl
  · rintro e wk ⟨rfl, A', h1, _, h3, h4⟩
    exact ⟨rfl, A', fun k h => h1 k (Or.inl h), fun k a b c => h1 k (Or.inr ⟨a, b, c⟩), h3, h4⟩
end Go.Proofs.YthbcfepbkkbjiaaGreatDoor
