import Derived.Test.YthbcfepbkkbjiabGreatDoorIA8
import Derived.Test.YthbcfepbkkbjiabGreatDoorIF5
namespace Go.Proofs.YthbcfepbkkbjiabGreatDoor
open Go.RowKit
set_option linter.unusedVariables false
set_option maxRecDepth 100000 in
set_option maxHeartbeats 1000000 in
theorem gexec_big (cv : Value) (po : Option Addr) (m pc : Nat) (w : World) (hm : 2000 < m) (hm2 : m ≤ 140737488355328) :
    Calls Tryz.prog 18 #[cv, .slice po m pc] w fun e w' => e = .returned (.tuple #[.int .i64 0, .int .i64 0, .int .i64 10]) ∧ w.grownBy w' none := by
  go_enter Tryz.func18, Tryz.ntmps18
  go_wp2
  go_ret3
  exact ⟨rfl, grown_refl _ _⟩
theorem exec_out {g : Nat → Int} {n : Nat} {p : Nat → Int} {m : Nat} (hg : Oct g) (hp : Oct p) (hm : m ≤ 2000) : ∀ f k S, Inv n S → ((execM g n p m f k S).2.2 = 9 ∧ (execM g n p m f k S).1 = 0) ∨ ((execM g n p m f k S).2.2 = 0 ∧ U32 (execM g n p m f k S).1)
  | 0, k, S, _ => Or.inl ⟨rfl, rfl⟩
  | f + 1, k, S, hI => by
    unfold execM
    by_cases hf : fitB g n S = true
    · rw [if_pos hf]
      by_cases hd : (stepM g p m S).done = true
      · rw [if_pos hd]
        refine Or.inr ⟨rfl, ?_⟩
        show U32 (stepM g p m S).v
        obtain ⟨f1, s, f2, f3, f4, f5, f6⟩ := fit_true hf
        rcases shp_cases f2 with ⟨c, rfl⟩ | ⟨c, rfl⟩ | ⟨c, rfl⟩ | ⟨c, rfl⟩ | ⟨c, rfl⟩ | ⟨c, rfl⟩ | ⟨c, rfl⟩ | ⟨c, rfl⟩ | ⟨c, rfl⟩
        all_goals simp only [stepM, c]
        all_goals simp only [Int.reduceEq, if_true, if_false]
        all_goals first | exact u32_zero | (split <;> exact u32_zero) | exact hI.st _ (by dsimp only at f4; omega)
      · rw [if_neg hd]
        exact exec_out hg hp hm f (k + 1) _ (step_inv hg hp hm hI hf)
    · rw [if_neg hf]
      exact Or.inl ⟨rfl, rfl⟩
theorem execR_out {g : Nat → Int} {n : Nat} {p : Nat → Int} {m : Nat} (hg : Oct g) (hp : Oct p) (hm : m ≤ 2000) : ((execR g n p m).2.2 = 9 ∧ (execR g n p m).1 = 0) ∨ ((execR g n p m).2.2 = 0 ∧ U32 (execR g n p m).1) :=
  exec_out hg hp hm 65536 0 S0 (inv0 n)
set_option maxRecDepth 100000 in
set_option maxHeartbeats 1000000 in
theorem gexec_any (co : Option Addr) (n c : Nat) (g : Nat → Int) (po : Option Addr) (m pc : Nat) (p : Nat → Int) (w : World) (hn : n ≤ 140737488355328) (hc : n ≤ c) (hm : m ≤ 2000) (hmc : m ≤ pc) (hg : Oct g) (hp : Oct p) (hs : Src w .u8 co n g) (hq : Src w .u8 po m p) :
    Calls Tryz.prog 18 #[.slice co n c, .slice po m pc] w fun e w' => e = .returned (.tuple #[.int .i64 (execR g n p m).1, .int .i64 (execR g n p m).2.1, .int .i64 (execR g n p m).2.2]) ∧ w.grownBy w' none := by
  have HS : Hid (∀ w', w.grownBy w' none → Calls Tryz.prog 28 #[.slice co n c, .slice po m pc] w' fun e w'' => e = .returned (.tuple #[.int .u32 (execR g n p m).1, .int .i64 (execR g n p m).2.1, .bool ((execR g n p m).2.2 == 0)]) ∧ w'.grownBy w'' none) :=
    fun w' hg' => sexec_any co n c g po m pc p w' hn hc hm hmc hg hp (hs.keep hg') (hq.keep hg')
  have hO := execR_out (n := n) hg hp hm
  clear hs hq
  generalize execR g n p m = R at *
  obtain ⟨v, k, e⟩ := R
  dsimp only at *
  rcases hO with ⟨rfl, rfl⟩ | ⟨rfl, v0, v1⟩
  · go_enter Tryz.func18, Tryz.ntmps18
    go_wp2_with (go_at_call 28; refine (HS.out _ (grown_refl _ _)).mono ?_; rintro e w1 ⟨rfl, hg1⟩)
    go_ret3
    exact ⟨rfl, hg1⟩
  · go_enter Tryz.func18, Tryz.ntmps18
    go_wp2_with (go_at_call 28; refine (HS.out _ (grown_refl _ _)).mono ?_; rintro e w1 ⟨rfl, hg1⟩)
    go_ret3
    exact ⟨rfl, hg1⟩
def execV (g : Nat → Int) (n : Nat) (p : Nat → Int) (m : Nat) : Int × Nat × Int := if m ≤ 2000 then execR g n p m else (0, 0, 10)
theorem gexec_all (co : Option Addr) (n c : Nat) (g : Nat → Int) (po : Option Addr) (m pc : Nat) (p : Nat → Int) (w : World) (hn : n ≤ 140737488355328) (hc : n ≤ c) (hm : m ≤ 140737488355328) (hmc : m ≤ pc) (hg : Oct g) (hp : Oct p) (hs : Src w .u8 co n g) (hq : Src w .u8 po m p) :
    Calls Tryz.prog 18 #[.slice co n c, .slice po m pc] w fun e w' => e = .returned (.tuple #[.int .i64 (execV g n p m).1, .int .i64 (execV g n p m).2.1, .int .i64 (execV g n p m).2.2]) ∧ w.grownBy w' none := by
  unfold execV
  by_cases h : m ≤ 2000
  · rw [if_pos h]; exact gexec_any co n c g po m pc p w hn hc h hmc hg hp hs hq
  · rw [if_neg h]; exact gexec_big _ po m pc w (by omega) hm
end Go.Proofs.YthbcfepbkkbjiabGreatDoor
