/- The walk of the reference's Exec. -/
import Derived.Test.YthbcfepbkkbjiaaF5
namespace Go.Proofs.Ythbcfepbkkbjiaa
open Go.RowKit
set_option linter.unusedVariables false

theorem zero1 (j : Nat) : (Value.int IntKind.i64 0).cells[j % (Value.int IntKind.i64 0).cells.size]! = Value.int .i64 0 := by simp [Value.cells, Nat.mod_one]

theorem rm_new {w0 w1 : World} {cv pv : Value} (hb : Blk w1 w0.heap.size 3 (18 * 1) (18 * 1) (fun _ => .int .i64 0)) (hg : w0.grownBy w1 none) :
    RM w0 (w1.alloc (.cells #[cv, pv, .slice none 0 0, .slice (some ⟨w0.heap.size, 0, none⟩) 18 18, .int .i64 0] 52)) w1.heap.size w0.heap.size cv pv (.slice none 0 0) S0 := by
  have hl := hb.lt
  refine ⟨grown_alloc hg _, hg.size, Nat.le_refl _, by omega, (blk_new w1 _ _).congr fun j hj => ?_, out_nil _ _ _ _ _, fun g e => (by cases e), (hb.alloc _).congr fun j _ => rfl⟩
  match j, hj with
  | 0, _ => rfl
  | 1, _ => rfl
  | 2, _ => rfl
  | 3, _ => rfl
  | 4, _ => rfl

set_option maxRecDepth 100000 in
set_option maxHeartbeats 1000000 in
theorem rexec_big (cv : Value) (po : Option Addr) (m pc : Nat) (w : World) (hm : 2000 < m) (hm2 : m ≤ 140737488355328) :
    Calls Try.prog 17 #[cv, .slice po m pc] w fun e w' => e = .returned (.tuple #[.int .i64 0, .int .i64 0, .int .i64 10]) ∧ w.grownBy w' none := by
  go_enter Try.func17, Try.ntmps17
  go_wp2
  go_ret3
  exact ⟨rfl, grown_refl _ _⟩

set_option maxRecDepth 100000 in
set_option maxHeartbeats 2000000 in
theorem rexec_any (co : Option Addr) (n c : Nat) (g : Nat → Int) (po : Option Addr) (m pc : Nat) (p : Nat → Int) (w : World) (hn : n ≤ 140737488355328) (hc : n ≤ c) (hm : m ≤ 2000) (hg : Oct g) (hp : Oct p) (hs : Src w .u8 co n g) (hq : Src w .u8 po m p) :
    Calls Try.prog 17 #[.slice co n c, .slice po m pc] w fun e w' => e = .returned (.tuple #[.int .i64 (execR g n p m).1, .int .i64 (execR g n p m).2.1, .int .i64 (execR g n p m).2.2]) ∧ w.grownBy w' none := by
  obtain ⟨i0, hi, hz0, hz1, hz2⟩ := info_parts Try.infoInt1
  obtain ⟨R, hR⟩ : ∃ R, R = execR g n p m := ⟨_, rfl⟩
  rw [← hR]
  have HR : Hid (execM g n p m (65536 - 0) 0 S0 = R) := hR.symm
  clear hR
  go_enter Try.func17, Try.ntmps17
  go_wp2_with (at_make; refine wpList_make_blk _ rfl _ _ 50 rfl 3 i0 (.int .i64 0) 1 Try.underlying50 hi hz0 hz1 _ _ _ _ 18 rfl rfl (by omega) (by omega) (by rw [hz2]; omega) (by unfold maxLen; omega) (.int .i64 0) zero1 ?_; intro w1 hb1 hg1)
  go_loopw [8] (fun i wr => ∃ (k : Nat) (sv : Value) (S : Mst), k ≤ 65536 ∧ i = .int .i64 k ∧ RM w wr w1.heap.size w.heap.size (.slice co n c) (.slice po m pc) sv S ∧ Inv n S ∧ Hid (execM g n p m (65536 - k) k S = R)) (fun i _ => 65536 - (intOf i).toNat)
  case atStart => exact ⟨0, _, S0, by omega, rfl, rm_new hb1 hg1, inv0 n, HR⟩
  case round =>
    clear HR
    obtain ⟨k, sv, S, hk, rfl, hM, hI, hX⟩ := hrel
    by_cases hlt : k < 65536
    · cases hf : fitB g n S with
      | false =>
        have HE : Hid (R = (0, k, 9)) := exec_no hlt hX.out hf
        have HF : Hid (fitB g n S = false) := hf
        have hlt' : (k : Int) < 65536 := by omega
        clear hf hX hlt
        go_wp2_with (go_at_call 22; refine (rfits_any w _ _ _ co n c g _ sv S hn hI.sp hM (hs.keep hM.gr) hg).mono ?_; rw [HF.out]; rintro e w2 ⟨rfl, hg2⟩)
        go_ret3
        exact ⟨by rw [HE.out]; rfl, grown_trans hM.gr hg2⟩
      | true =>
        obtain ⟨f1, _⟩ := fit_true hf
        obtain ⟨b, off, rfl, hrow⟩ := hs (by omega)
        have HI : Hid (Inv n (stepM g p m S).S) := step_inv hg hp hm hI hf
        cases hd : (stepM g p m S).done with
        | true =>
          have HE : Hid (R = ((stepM g p m S).v, k + 1, 0)) := exec_stop hlt hX.out hf hd
          have HF : Hid (fitB g n S = true) := hf
          have HD : Hid ((stepM g p m S).done = true) := hd
          have hlt' : (k : Int) < 65536 := by omega
          clear hf hd hX hlt
          go_wp2_with (first | (go_at_call 22; refine (rfits_any w _ _ _ _ n c g _ sv S hn hI.sp hM (hs.keep hM.gr) hg).mono ?_; rw [HF.out]; rintro e w2 ⟨rfl, hg2⟩) | (go_at_call 23; refine (rstep_any w _ _ _ b off n c g po m pc p sv S ⟨hn, hm, hc, hg, hp, hI, HF.out, hM.keep hg2, hrow, hq⟩).mono ?_; rw [HD.out]; rintro e w3 ⟨rfl, sv', hM'⟩))
          go_ret3
          exact ⟨by rw [HE.out]; rfl, hM'.gr⟩
        | false =>
          have HE : Hid (execM g n p m (65536 - (k + 1)) (k + 1) (stepM g p m S).S = R) := exec_go hlt hX.out hf hd
          have HF : Hid (fitB g n S = true) := hf
          have HD : Hid ((stepM g p m S).done = false) := hd
          have hlt' : (k : Int) < 65536 := by omega
          clear hf hd hX hlt
          go_wp2_with (first | (go_at_call 22; refine (rfits_any w _ _ _ _ n c g _ sv S hn hI.sp hM (hs.keep hM.gr) hg).mono ?_; rw [HF.out]; rintro e w2 ⟨rfl, hg2⟩) | (go_at_call 23; refine (rstep_any w _ _ _ b off n c g po m pc p sv S ⟨hn, hm, hc, hg, hp, hI, HF.out, hM.keep hg2, hrow, hq⟩).mono ?_; rw [HD.out]; rintro e w3 ⟨rfl, sv', hM'⟩))
          go_roundw
          case rel => exact ⟨k + 1, sv', _, by omega, by go_num, hM', HI.out, HE⟩
          case measure => simp [intOf]; omega
    · have hke : k = 65536 := by omega
      subst hke
      have HE : Hid (R = (0, 65536, 9)) := exec_end hX.out
      go_wp2
      go_ret3
      exact ⟨by rw [HE.out]; rfl, hM.gr⟩

end Go.Proofs.Ythbcfepbkkbjiaa
