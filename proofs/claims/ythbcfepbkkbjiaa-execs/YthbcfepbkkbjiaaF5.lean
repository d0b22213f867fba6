/- The walk of the reference machine's step, whole; of the reference's Exec. -/
import Derived.Test.YthbcfepbkkbjiaaE9
import Derived.Test.YthbcfepbkkbjiaaF1
import Derived.Test.YthbcfepbkkbjiaaF2
import Derived.Test.YthbcfepbkkbjiaaF3
import Derived.Test.YthbcfepbkkbjiaaF4
namespace Go.Proofs.Ythbcfepbkkbjiaa
open Go.RowKit
set_option linter.unusedVariables false

theorem rstep_any (w0 w : World) (M CB b off n c : Nat) (g : Nat → Int) (po : Option Addr) (m pc' : Nat) (p : Nat → Int) (sv : Value) (S : Mst) (h : Fst w0 w M CB b off n c g po m pc' p sv S) :
    Calls Try.prog 23 #[.pointer (some ⟨M, 0, none⟩)] w fun e w' => e = .returned (.tuple #[.int .i64 (stepM g p m S).v, .bool (stepM g p m S).done]) ∧ ∃ sv', RM w0 w' M CB (.slice (some ⟨b, off, none⟩) n c) (.slice po m pc') sv' (stepM g p m S).S := by
  obtain ⟨f1, s, f2, f3, f4, f5, f6⟩ := fit_true h.fit
  rcases shp_cases f2 with ⟨c, rfl⟩ | ⟨c, rfl⟩ | ⟨c, rfl⟩ | ⟨c, rfl⟩ | ⟨c, rfl⟩ | ⟨c, rfl⟩ | ⟨c, rfl⟩ | ⟨c, rfl⟩ | ⟨c, rfl⟩
  · refine (rstep_1 w0 w M CB b off n _ g po m pc' p sv S h c).mono ?_
    rintro e w' ⟨rfl, sv', hr⟩
    simp only [stepM, c, if_true]
    exact ⟨trivial, sv', hr⟩
  · refine (rstep_2 w0 w M CB b off n _ g po m pc' p sv S h c).mono ?_
    rintro e w' ⟨rfl, sv', hr⟩
    simp only [stepM, c, Int.reduceEq, if_true, if_false]
    exact ⟨trivial, sv', hr⟩
  · refine (rstep_3 w0 w M CB b off n _ g po m pc' p sv S h c).mono ?_
    rintro e w' ⟨rfl, sv', hr⟩
    simp only [stepM, c, Int.reduceEq, if_true, if_false]
    exact ⟨trivial, sv', hr⟩
  · refine (rstep_4 w0 w M CB b off n _ g po m pc' p sv S h c).mono ?_
    rintro e w' ⟨rfl, sv', hr⟩
    dsimp only at f4
    simp only [stepM, c, Int.reduceEq, if_true, if_false, Bool.not_not]
    rw [show S.sp - 1 - 1 = S.sp - 2 by omega, show S.sp - 2 + 1 = S.sp - 1 by omega] at hr
    exact ⟨trivial, sv', hr⟩
  · dsimp only at f4
    by_cases h5 : (S.st (S.sp - 1 - 1) + S.st (S.sp - 1)).toNat + (g (S.pc + 1)).toNat ≤ m
    · refine (rstep_5a w0 w M CB b off n _ g po m pc' p sv S h c h5).mono ?_
      rintro e w' ⟨rfl, sv', hr⟩
      rw [show S.sp - 1 - 1 = S.sp - 2 by omega] at hr h5
      rw [show S.sp - 2 + 1 = S.sp - 1 by omega] at hr
      simp only [stepM, c, Int.reduceEq, if_true, if_false, if_pos h5]
      exact ⟨trivial, sv', hr⟩
    · refine (rstep_5b w0 w M CB b off n _ g po m pc' p sv S h c h5).mono ?_
      rintro e w' ⟨rfl, sv', hr⟩
      rw [show S.sp - 1 - 1 = S.sp - 2 by omega] at hr h5
      rw [show S.sp - 2 + 1 = S.sp - 1 by omega] at hr
      simp only [stepM, c, Int.reduceEq, if_true, if_false, if_neg h5]
      exact ⟨trivial, sv', hr⟩
  · refine (rstep_6 w0 w M CB b off n _ g po m pc' p sv S h c).mono ?_
    rintro e w' ⟨rfl, sv', hr⟩
    simp only [stepM, c, Int.reduceEq, if_true, if_false]
    exact ⟨trivial, sv', hr⟩
  · refine (rstep_7 w0 w M CB b off n _ g po m pc' p sv S h c).mono ?_
    rintro e w' ⟨rfl, sv', hr⟩
    simp only [stepM, c, Int.reduceEq, if_true, if_false]
    exact ⟨trivial, sv', hr⟩
  · refine (rstep_8 w0 w M CB b off n _ g po m pc' p sv S h c).mono ?_
    rintro e w' ⟨rfl, sv', hr⟩
    dsimp only at f4
    simp only [stepM, c, Int.reduceEq, if_true, if_false]
    rw [show S.sp - 1 - 1 = S.sp - 2 by omega] at hr
    exact ⟨trivial, sv', hr⟩
  · refine (rstep_9 w0 w M CB b off n _ g po m pc' p sv S h c).mono ?_
    rintro e w' ⟨rfl, sv', hr⟩
    simp only [stepM, c, Int.reduceEq, if_false]
    exact ⟨trivial, sv', hr⟩

/-- what all of Exec comes to -/
def execR (g : Nat → Int) (n : Nat) (p : Nat → Int) (m : Nat) : Int × Nat × Int := execM g n p m 65536 0 S0

theorem execR_start (g : Nat → Int) (n : Nat) (p : Nat → Int) (m : Nat) : execM g n p m (65536 - 0) 0 S0 = execR g n p m := by unfold execR; rw [Nat.sub_zero]

theorem exec_no {g : Nat → Int} {n : Nat} {p : Nat → Int} {m k : Nat} {S : Mst} {R : Int × Nat × Int} (hk : k < 65536) (h : execM g n p m (65536 - k) k S = R) (hf : fitB g n S = false) : R = (0, k, 9) := by
  rw [show 65536 - k = (65535 - k) + 1 by omega] at h
  unfold execM at h
  rw [hf] at h
  exact h.symm.trans (by simp)

theorem exec_stop {g : Nat → Int} {n : Nat} {p : Nat → Int} {m k : Nat} {S : Mst} {R : Int × Nat × Int} (hk : k < 65536) (h : execM g n p m (65536 - k) k S = R) (hf : fitB g n S = true) (hd : (stepM g p m S).done = true) : R = ((stepM g p m S).v, k + 1, 0) := by
  rw [show 65536 - k = (65535 - k) + 1 by omega] at h
  unfold execM at h
  rw [if_pos hf, if_pos hd] at h
  exact h.symm

theorem exec_go {g : Nat → Int} {n : Nat} {p : Nat → Int} {m k : Nat} {S : Mst} {R : Int × Nat × Int} (hk : k < 65536) (h : execM g n p m (65536 - k) k S = R) (hf : fitB g n S = true) (hd : (stepM g p m S).done = false) : execM g n p m (65536 - (k + 1)) (k + 1) (stepM g p m S).S = R := by
  rw [show 65536 - k = (65535 - k) + 1 by omega] at h
  unfold execM at h
  rw [if_pos hf, if_neg (by rw [hd]; simp)] at h
  rw [show 65536 - (k + 1) = 65535 - k by omega]
  exact h

theorem exec_end {g : Nat → Int} {n : Nat} {p : Nat → Int} {m : Nat} {S : Mst} {R : Int × Nat × Int} (h : execM g n p m (65536 - 65536) 65536 S = R) : R = (0, 65536, 9) := h.symm

end Go.Proofs.Ythbcfepbkkbjiaa
