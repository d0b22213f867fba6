import Derived.Test.YthbcfepbkkbjiaaGreatDoorIE9
import Derived.Test.YthbcfepbkkbjiaaGreatDoorIF1
import Derived.Test.YthbcfepbkkbjiaaGreatDoorIF2
import Derived.Test.YthbcfepbkkbjiaaGreatDoorIF3
import Derived.Test.YthbcfepbkkbjiaaGreatDoorIF4
namespace Go.Proofs.YthbcfepbkkbjiaaGreatDoor
open Go.RowKit
set_option linter.unusedVariables false
theorem rstep_any (w0 w : World) (M CB b off n c : Nat) (g : Nat → Int) (po : Option Addr) (m pc' : Nat) (p : Nat → Int) (sv : Value) (S : Mst) (h : Fst w0 w M CB b off n c g po m pc' p sv S) :
    Calls Tryz.prog 51 #[.pointer (some ⟨M, 0, none⟩)] w fun e w' => e = .returned (.tuple #[.int .i64 (stepM g p m S).v, .bool (stepM g p m S).done]) ∧ ∃ sv', RM w0 w' M CB (.slice (some ⟨b, off, none⟩) n c) (.slice po m pc') sv' (stepM g p m S).S := by
  obtain ⟨f1, s, f2, f3, f4, f5, f6⟩ := fit_true h.fit
  rcases shp_cases f2 with ⟨c, rfl⟩ | ⟨c, rfl⟩ | ⟨c, rfl⟩ | ⟨c, rfl⟩ | ⟨c, rfl⟩ | ⟨c, rfl⟩ | ⟨c, rfl⟩ | ⟨c, rfl⟩ | ⟨c, rfl⟩
  · refine (rstep_1 w0 w M CB b off n _ g po m pc' p sv S h c).mono ?_
    rintro e w' ⟨rfl, sv', hr⟩
    simp only [stepM, c, if_true]
    exact ⟨trivial, sv', hr⟩
  · refine (rstep_2 w0 w M CB b off n _ g po m pc' p sv S h c).mono ?_
    rintro e w' ⟨rfl, sv', hr⟩
    simp only [stepM, c, Int.reduceEq, if_true, if_false]
    exact ⟨trivial, sv', hr⟩
  · refine (rstep_3 w0 w M CB b off n _ g po m pc' p sv S h c).mono ?_
    rintro e w' ⟨rfl, sv', hr⟩
    simp only [stepM, c, Int.reduceEq, if_true, if_false]
    exact ⟨trivial, sv', hr⟩
  · refine (rstep_4 w0 w M CB b off n _ g po m pc' p sv S h c).mono ?_
    rintro e w' ⟨rfl, sv', hr⟩
    dsimp only at f4
    simp only [stepM, c, Int.reduceEq, if_true, if_false, Bool.not_not]
    rw [show S.sp - 1 - 1 = S.sp - 2 by omega, show S.sp - 2 + 1 = S.sp - 1 by omega] at hr
    exact ⟨trivial, sv', hr⟩
  · dsimp only at f4
    by_cases h5 : (S.st (S.sp - 1 - 1) + S.st (S.sp - 1)).toNat + (g (S.pc + 1)).toNat ≤ m
    · refine (rstep_5a w0 w M CB b off n _ g po m pc' p sv S h c h5).mono ?_
      rintro e w' ⟨rfl, sv', hr⟩
      rw [show S.sp - 1 - 1 = S.sp - 2 by omega] at hr h5
      rw [show S.sp - 2 + 1 = S.sp - 1 by omega] at hr
      simp only [stepM, c, Int.reduceEq, if_true, if_false, if_pos h5]
      exact ⟨trivial, sv', hr⟩
    · refine (rstep_5b w0 w M CB b off n _ g po m pc' p sv S h c h5).mono ?_
      rintro e w' ⟨rfl, sv', hr⟩
      rw [show S.sp - 1 - 1 = S.sp - 2 by omega] at hr h5
      rw [show S.sp - 2 + 1 = S.sp - 1 by omega] at hr
      simp only [stepM, c, Int.reduceEq, if_true, if_false, if_neg h5]
      exact ⟨trivial, sv', hr⟩
  · refine (rstep_6 w0 w M CB b off n _ g po m pc' p sv S h c).mono ?_
    rintro e w' ⟨rfl, sv', hr⟩
    simp only [stepM, c, Int.reduceEq, if_true, if_false]
    exact ⟨trivial, sv', hr⟩
  · refine (rstep_7 w0 w M CB b off n _ g po m pc' p sv S h c).mono ?_
    rintro e w' ⟨rfl, sv', hr⟩
    simp only [stepM, c, Int.reduceEq, if_true, if_false]
    exact ⟨trivial, sv', hr⟩
  · refine (rstep_8 w0 w M CB b off n _ g po m pc' p sv S h c).mono ?_
    rintro e w' ⟨rfl, sv', hr⟩
    dsimp only at f4
    simp only [stepM, c, Int.reduceEq, if_true, if_false]
    rw [show S.sp - 1 - 1 = S.sp - 2 by omega] at hr
    exact ⟨trivial, sv', hr⟩
  · refine (rstep_9 w0 w M CB b off n _ g po m pc' p sv S h c).mono ?_
    rintro e w' ⟨rfl, sv', hr⟩
    simp only [stepM, c, Int.reduceEq, if_false]
    exact ⟨trivial, sv', hr⟩
def execR (g : Nat → Int) (n : Nat) (p : Nat → Int) (m : Nat) : Int × Nat × Int := execM g n p m 65536 0 S0
theorem exec_no {g : Nat → Int} {n : Nat} {p : Nat → Int} {m k : Nat} {S : Mst} {R : Int × Nat × Int} (hk : k < 65536) (h : execM g n p m (65536 - k) k S = R) (hf : fitB g n S = false) : R = (0, k, 9) := by
  rw [show 65536 - k = (65535 - k) + 1 by omega] at h
  unfold execM at h
  rw [hf] at h
  exact h.symm.trans (by simp)
theorem exec_stop {g : Nat → Int} {n : Nat} {p : Nat → Int} {m k : Nat} {S : Mst} {R : Int × Nat × Int} (hk : k < 65536) (h : execM g n p m (65536 - k) k S = R) (hf : fitB g n S = true) (hd : (stepM g p m S).done = true) : R = ((stepM g p m S).v, k + 1, 0) := by
  rw [show 65536 - k = (65535 - k) + 1 by omega] at h
  unfold execM at h
  rw [if_pos hf, if_pos hd] at h
  exact h.symm
theorem exec_go {g : Nat → Int} {n : Nat} {p : Nat → Int} {m k : Nat} {S : Mst} {R : Int × Nat × Int} (hk : k < 65536) (h : execM g n p m (65536 - k) k S = R) (hf : fitB g n S = true) (hd : (stepM g p m S).done = false) : execM g n p m (65536 - (k + 1)) (k + 1) (stepM g p m S).S = R := by
  rw [show 65536 - k = (65535 - k) + 1 by omega] at h
  unfold execM at h
  rw [if_pos hf, if_neg (by rw [hd]; simp)] at h
  rw [show 65536 - (k + 1) = 65535 - k by omega]
  exact h
theorem exec_end {g : Nat → Int} {n : Nat} {p : Nat → Int} {m : Nat} {S : Mst} {R : Int × Nat × Int} (h : execM g n p m (65536 - 65536) 65536 S = R) : R = (0, 65536, 9) := h.symm
end Go.Proofs.YthbcfepbkkbjiaaGreatDoor
namespace Go.Proofs.YthbcfepbkkbjiaaGreatDoor
open Go.RowKit
set_option linter.unusedVariables false
theorem zero1 (j : Nat) : (Value.int IntKind.i64 0).cells[j % (Value.int IntKind.i64 0).cells.size]! = Value.int .i64 0 := by simp [Value.cells, Nat.mod_one]
theorem rm_new {w0 w1 : World} {cv pv : Value} (hb : Blk w1 w0.heap.size 3 (18 * 1) (18 * 1) (fun _ => .int .i64 0)) (hg : w0.grownBy w1 none) :
    RM w0 (w1.alloc (.cells #[cv, pv, .slice none 0 0, .slice (some ⟨w0.heap.size, 0, none⟩) 18 18, .int .i64 0] 90)) w1.heap.size w0.heap.size cv pv (.slice none 0 0) S0 := by
  have hl := hb.lt
  refine ⟨grown_alloc hg _, hg.size, Nat.le_refl _, by omega, (blk_new w1 _ _).congr fun j hj => ?_, out_nil _ _ _ _ _, fun g e => (by cases e), (hb.alloc _).congr fun j _ => rfl⟩
  match j, hj with
  | 0, _ => rfl
  | 1, _ => rfl
  | 2, _ => rfl
  | 3, _ => rfl
  | 4, _ => rfl
set_option maxRecDepth 100000 in
set_option maxHeartbeats 1000000 in
theorem rexec_big (cv : Value) (po : Option Addr) (m pc : Nat) (w : World) (hm : 2000 < m) (hm2 : m ≤ 140737488355328) :
    Calls Tryz.prog 19 #[cv, .slice po m pc] w fun e w' => e = .returned (.tuple #[.int .i64 0, .int .i64 0, .int .i64 10]) ∧ w.grownBy w' none := by
  go_enter Tryz.func19, Tryz.ntmps19
  go_wp2
  go_ret3
  exact ⟨rfl, grown_refl _ _⟩
set_option maxRecDepth 100000 in
set_option maxHeartbeats 2000000 in
theorem rexec_any (co : Option Addr) (n c : Nat) (g : Nat → Int) (po : Option Addr) (m pc : Nat) (p : Nat → Int) (w : World) (hn : n ≤ 140737488355328) (hc : n ≤ c) (hm : m ≤ 2000) (hg : Oct g) (hp : Oct p) (hs : Src w .u8 co n g) (hq : Src w .u8 po m p) :
    Calls Tryz.prog 19 #[.slice co n c, .slice po m pc] w fun e w' => e = .returned (.tuple #[.int .i64 (execR g n p m).1, .int .i64 (execR g n p m).2.1, .int .i64 (execR g n p m).2.2]) ∧ w.grownBy w' none := by
  obtain ⟨i0, hi, hz0, hz1, hz2⟩ := info_parts Tryz.infoInt1
  obtain ⟨R, hR⟩ : ∃ R, R = execR g n p m := ⟨_, rfl⟩
  rw [← hR]
  have HR : Hid (execM g n p m (65536 - 0) 0 S0 = R) := hR.symm
  clear hR
  go_enter Tryz.func19, Tryz.ntmps19
  go_wp2_with (at_make; refine wpList_make_blk _ rfl _ _ 66 rfl 3 i0 (.int .i64 0) 1 Tryz.underlying66 hi hz0 hz1 _ _ _ _ 18 rfl rfl (by omega) (by omega) (by rw [hz2]; omega) (by unfold maxLen; omega) (.int .i64 0) zero1 ?_; intro w1 hb1 hg1)
  go_loopw [8] (fun i wr => ∃ (k : Nat) (sv : Value) (S : Mst), k ≤ 65536 ∧ i = .int .i64 k ∧ RM w wr w1.heap.size w.heap.size (.slice co n c) (.slice po m pc) sv S ∧ Inv n S ∧ Hid (execM g n p m (65536 - k) k S = R)) (fun i _ => 65536 - (intOf i).toNat)
  case atStart => exact ⟨0, _, S0, by omega, rfl, rm_new hb1 hg1, inv0 n, HR⟩
  case round =>
    clear HR
    obtain ⟨k, sv, S, hk, rfl, hM, hI, hX⟩ := hrel
    by_cases hlt : k < 65536
    · cases hf : fitB g n S with
      | false =>
        have HE : Hid (R = (0, k, 9)) := exec_no hlt hX.out hf
        have HF : Hid (fitB g n S = false) := hf
        have hlt' : (k : Int) < 65536 := by omega
        clear hf hX hlt
        go_wp2_with (go_at_call 50; refine (rfits_any w _ _ _ co n c g _ sv S hn hI.sp hM (hs.keep hM.gr) hg).mono ?_; rw [HF.out]; rintro e w2 ⟨rfl, hg2⟩)
        go_ret3
        exact ⟨by rw [HE.out]; rfl, grown_trans hM.gr hg2⟩
      | true =>
        obtain ⟨f1, _⟩ := fit_true hf
        obtain ⟨b, off, rfl, hrow⟩ := hs (by omega)
        have HI : Hid (Inv n (stepM g p m S).S) := step_inv hg hp hm hI hf
        cases hd : (stepM g p m S).done with
        | true =>
          have HE : Hid (R = ((stepM g p m S).v, k + 1, 0)) := exec_stop hlt hX.out hf hd
          have HF : Hid (fitB g n S = true) := hf
          have HD : Hid ((stepM g p m S).done = true) := hd
          have hlt' : (k : Int) < 65536 := by omega
          clear hf hd hX hlt
          go_wp2_with (first | (go_at_call 50; refine (rfits_any w _ _ _ _ n c g _ sv S hn hI.sp hM (hs.keep hM.gr) hg).mono ?_; rw [HF.out]; rintro e w2 ⟨rfl, hg2⟩) | (go_at_call 51; refine (rstep_any w _ _ _ b off n c g po m pc p sv S ⟨hn, hm, hc, hg, hp, hI, HF.out, hM.keep hg2, hrow, hq⟩).mono ?_; rw [HD.out]; rintro e w3 ⟨rfl, sv', hM'⟩))
          go_ret3
          exact ⟨by rw [HE.out]; rfl, hM'.gr⟩
        | false =>
          have HE : Hid (execM g n p m (65536 - (k + 1)) (k + 1) (stepM g p m S).S = R) := exec_go hlt hX.out hf hd
          have HF : Hid (fitB g n S = true) := hf
          have HD : Hid ((stepM g p m S).done = false) := hd
          have hlt' : (k : Int) < 65536 := by omega
          clear hf hd hX hlt
          go_wp2_with (first | (go_at_call 50; refine (rfits_any w _ _ _ _ n c g _ sv S hn hI.sp hM (hs.keep hM.gr) hg).mono ?_; rw [HF.out]; rintro e w2 ⟨rfl, hg2⟩) | (go_at_call 51; refine (rstep_any w _ _ _ b off n c g po m pc p sv S ⟨hn, hm, hc, hg, hp, hI, HF.out, hM.keep hg2, hrow, hq⟩).mono ?_; rw [HD.out]; rintro e w3 ⟨rfl, sv', hM'⟩))
          go_roundw
          case rel => exact ⟨k + 1, sv', _, by omega, by go_num, hM', HI.out, HE⟩
          case measure => simp [intOf]; omega
    · have hke : k = 65536 := by omega
      subst hke
      have HE : Hid (R = (0, 65536, 9)) := exec_end hX.out
      go_wp2
      go_ret3
      exact ⟨by rw [HE.out]; rfl, hM.gr⟩
end Go.Proofs.YthbcfepbkkbjiaaGreatDoor
