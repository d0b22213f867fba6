/- The walks of package stack's Exec and of gauge.Exec. -/
import Derived.Test.YthbcfepbkkbjiaaA8
import Derived.Test.YthbcfepbkkbjiaaB1
import Derived.Test.YthbcfepbkkbjiaaB2
import Derived.Laws.Tables
import Derived.Deep.WholeRow
import Derived.Great.Walk
namespace Go.Proofs.Ythbcfepbkkbjiaa
open Go.RowKit
set_option linter.unusedVariables false

theorem wpList_build_eq {P : Program} {ops : Array Oper} {rest : List Oper} {o : Oper} {a : Act} {w : World} {Q : Exit → Act → World → Prop} (hg : o.guard = none) (t : TypeId) (parts : Array (Nat × Operand)) (ho : o.op = .build t parts) (cells : Array Value)
    (hf : P.built t (parts.map fun (i, x) => (i, a.eval x)).toList = some cells)
    (h : wpList P ops Q rest (a.put o.dst (.agg cells)) w) : wpList P ops Q (o :: rest) a w :=
  wpList_build hg t parts ho (by rw [hf]; rfl) (by rw [hf]; exact h)

theorem Try.sizeMachine : (Try.prog.info? 62).map (·.size) = some 25 := by kernel_rfl

/-- a machine's cells at first -/
def mcells (co : Option Addr) (n c : Nat) (po : Option Addr) (m pc B : Nat) : Array Value := #[.slice co n c, .slice po m pc, .map (some B), .int .i64 0, .slice none 0 0, .int .u32 0, .int .u32 0, .int .u32 0, .int .u32 0, .int .u32 0, .int .u32 0, .int .u32 0, .int .u32 0, .int .u32 0, .int .u32 0, .int .u32 0, .int .u32 0, .int .u32 0, .int .u32 0, .int .u32 0, .int .u32 0, .int .u32 0, .int .u32 0, .bool false, .int .u32 0]
def zcells : Array Value := #[.slice none 0 0, .slice none 0 0, .map none, .int .i64 0, .slice none 0 0, .int .u32 0, .int .u32 0, .int .u32 0, .int .u32 0, .int .u32 0, .int .u32 0, .int .u32 0, .int .u32 0, .int .u32 0, .int .u32 0, .int .u32 0, .int .u32 0, .int .u32 0, .int .u32 0, .int .u32 0, .int .u32 0, .int .u32 0, .int .u32 0, .bool false, .int .u32 0]

theorem mcells_one (co : Option Addr) (n c : Nat) (po : Option Addr) (m pc B : Nat) : (mcells co n c po m pc B).all (·.oneCell') = true := by simp [mcells, Value.oneCell']

theorem Try.zeroMachine : (Try.prog.info? 62).map (fun i => (i.zero, i.size)) = some (some (.agg zcells), 25) := by kernel_rfl

theorem alloc_machine (w : World) (ρ : Operand → Value) (o : Oper) (ho : o.op = .alloc 62) : (execOp ρ o).run Try.prog w = .ok (.value (.pointer (some ⟨w.heap.size, 0, none⟩))) (w.alloc (.cells zcells 62)) := by
  have hz := (zero_of_info (P := Try.prog) Try.zeroMachine).1
  simp [execOp, ho, Instr.alloc, hz, newVar, newRow, Value.cells, Result.andThen]

theorem mcells_row (co : Option Addr) (n c : Nat) (po : Option Addr) (m pc B : Nat) (j : Nat) (hj : j < 25) : (mcells co n c po m pc B).getD j .nilFunc = prow (.slice co n c) (.slice po m pc) B 0 (.slice none 0 0) (fun _ => 0) false 0 j := by
  match j, hj with
  | 0, _ => rfl
  | 1, _ => rfl
  | 2, _ => rfl
  | 3, _ => rfl
  | 4, _ => rfl
  | 5, _ => rfl
  | 6, _ => rfl
  | 7, _ => rfl
  | 8, _ => rfl
  | 9, _ => rfl
  | 10, _ => rfl
  | 11, _ => rfl
  | 12, _ => rfl
  | 13, _ => rfl
  | 14, _ => rfl
  | 15, _ => rfl
  | 16, _ => rfl
  | 17, _ => rfl
  | 18, _ => rfl
  | 19, _ => rfl
  | 20, _ => rfl
  | 21, _ => rfl
  | 22, _ => rfl
  | 23, _ => rfl
  | 24, _ => rfl
  | k + 25, h => exact absurd h (by omega)

theorem fit_noin {g : Nat → Int} {n : Nat} {S : Mst} (h : ¬ S.pc < n ∨ (S.pc < n ∧ (shp (g S.pc) = none ∨ ∃ s, shp (g S.pc) = some s ∧ n < S.pc + 1 + s.wh + s.nb))) : fitB g n S = false := by
  rcases h with h | ⟨h, h1 | ⟨s, h1, h2⟩⟩
  · exact fit_end h
  · exact fit_none h1
  · rw [fit_some h h1, decide_eq_false (by omega)]; rfl

theorem fit_in {g : Nat → Int} {n : Nat} {S : Mst} (h : ¬ (¬ S.pc < n ∨ (S.pc < n ∧ (shp (g S.pc) = none ∨ ∃ s, shp (g S.pc) = some s ∧ n < S.pc + 1 + s.wh + s.nb)))) : S.pc < n ∧ ∃ s, shp (g S.pc) = some s ∧ S.pc + 1 + s.wh + s.nb ≤ n := by
  by_cases h1 : S.pc < n
  · refine ⟨h1, ?_⟩
    cases e : shp (g S.pc) with
    | none => exact absurd (Or.inr ⟨h1, Or.inl e⟩) h
    | some s =>
      refine ⟨s, rfl, ?_⟩
      by_cases h2 : S.pc + 1 + s.wh + s.nb ≤ n
      · exact h2
      · exact absurd (Or.inr ⟨h1, Or.inr ⟨s, e, by omega⟩⟩) h
  · exact absurd (Or.inl h1) h

theorem fetch_no (w0 w : World) (M MB : Nat) (co : Option Addr) (n c : Nat) (g : Nat → Int) (pv sv : Value) (S : Mst) (sd : Bool) (res : Int) (hn : n ≤ 140737488355328) (hc : n ≤ c) (hg : Oct g) (hs : Src w0 .u8 co n g)
    (h : PM w0 w M MB (.slice co n c) pv sv S sd res) (hpc : S.pc ≤ n + 65539) (hno : ¬ S.pc < n ∨ (S.pc < n ∧ (shp (g S.pc) = none ∨ ∃ s, shp (g S.pc) = some s ∧ n < S.pc + 1 + s.wh + s.nb))) :
    Calls Try.prog 27 #[.pointer (some ⟨M, 0, none⟩)] w fun e w' => NoIn w0 e w' := by
  rcases hno with h1 | ⟨h1, h2⟩
  · exact fetch_end w0 w M MB co n c pv sv S sd res hn h h1 hpc
  · obtain ⟨b, off, rfl, hrow⟩ := hs (by omega)
    rcases h2 with h2 | ⟨s, h2, h3⟩
    · exact fetch_none w0 w M MB b off n c g pv sv S sd res hn hc hg hrow h h1 h2
    · by_cases hw : S.pc + 1 + s.wh ≤ n
      · exact fetch_shortA w0 w M MB b off n c g pv sv S sd res s hn hc hg hrow h h1 h2 h3 hw
      · exact fetch_shortB w0 w M MB b off n c g pv sv S sd res s hn hc hg hrow h h1 h2 h3 (by omega)

theorem step_v {g : Nat → Int} {n : Nat} {p : Nat → Int} {m : Nat} {S : Mst} (hf : fitB g n S = true) (hd : (stepM g p m S).done = false) : (stepM g p m S).v = 0 := by
  obtain ⟨f1, s, f2, f3, f4, f5, f6⟩ := fit_true hf
  rcases shp_cases f2 with ⟨c, rfl⟩ | ⟨c, rfl⟩ | ⟨c, rfl⟩ | ⟨c, rfl⟩ | ⟨c, rfl⟩ | ⟨c, rfl⟩ | ⟨c, rfl⟩ | ⟨c, rfl⟩ | ⟨c, rfl⟩
  all_goals simp only [stepM, c] at hd ⊢
  all_goals simp only [Int.reduceEq, if_true, if_false] at hd ⊢
  · split <;> rfl
  · cases hd

theorem pm_new {w0 w1 : World} {cv pv : Value} {MB : Nat} (hb : BMap w1 MB smap) (hB : w0.heap.size ≤ MB) (hg : w0.grownBy w1 none) (arr : Array Value) (ha : arr.size = 25) (hv : ∀ j, j < 25 → arr.getD j .nilFunc = prow cv pv MB 0 (.slice none 0 0) (fun _ => 0) false 0 j) :
    PM w0 (w1.alloc (.cells arr 62)) w1.heap.size MB cv pv (.slice none 0 0) S0 false 0 := by
  have hl := hb.lt
  have B := blk_new w1 arr 62
  rw [ha] at B
  exact ⟨grown_alloc hg _, hg.size, hB, by omega, B.congr hv, out_nil _ _ _ _ _, fun g e => (by cases e), hb.keep (World.grownBy_alloc w1 _ none) (by simp)⟩

set_option maxRecDepth 100000 in
set_option maxHeartbeats 2000000 in
theorem sexec_any (co : Option Addr) (n c : Nat) (g : Nat → Int) (po : Option Addr) (m pc : Nat) (p : Nat → Int) (w : World) (hn : n ≤ 140737488355328) (hc : n ≤ c) (hm : m ≤ 2000) (hmc : m ≤ pc) (hg : Oct g) (hp : Oct p) (hs : Src w .u8 co n g) (hq : Src w .u8 po m p) :
    Calls Try.prog 21 #[.slice co n c, .slice po m pc] w fun e w' => e = .returned (.tuple #[.int .u32 (execR g n p m).1, .int .i64 (execR g n p m).2.1, .bool ((execR g n p m).2.2 == 0)]) ∧ w.grownBy w' none := by
  obtain ⟨R, hR⟩ : ∃ R, R = execR g n p m := ⟨_, rfl⟩
  rw [← hR]
  have HR : Hid (execM g n p m (65536 - 0) 0 S0 = R) := (execR_start g n p m).trans hR.symm
  clear hR
  go_enter Try.func21, Try.ntmps21
  go_wp2_with (first | (go_at_call 26; refine (shapes_any _).mono ?_; rintro e w1 ⟨rfl, hb1, hg1⟩) | (refine wpList_build_eq rfl 62 _ rfl (mcells co n c po m pc w.heap.size) (by kernel_rfl) ?_; refine Go.Great.wpList_allocTo rfl _ rfl (.pointer (some ⟨w1.heap.size, 0, none⟩)) (.cells zcells 62) (alloc_machine w1 _ _ rfl) ?_; refine wpList_store_row rfl 62 _ _ rfl w1.heap.size (mcells co n c po m pc w.heap.size) rfl rfl 62 zcells (heap_top _ _ _ rfl) Try.sizeMachine rfl (mcells_one _ _ _ _ _ _ _) ?_; rw [World.setRow_alloc_new]))
  go_loopw [15] (fun i wr => ∃ (k : Nat) (sv : Value) (S : Mst), k ≤ 65536 ∧ i = .int .i64 k ∧ PM w wr w1.heap.size w.heap.size (.slice co n c) (.slice po m pc) sv S false 0 ∧ Inv n S ∧ Hid (execM g n p m (65536 - k) k S = R)) (fun i _ => 65536 - (intOf i).toNat)
  case atStart => exact ⟨0, _, S0, by omega, rfl, pm_new hb1 (Nat.le_refl _) hg1 _ rfl (mcells_row co n c po m pc w.heap.size), inv0 n, HR⟩
  case round =>
    clear HR
    obtain ⟨k, sv, S, hk, rfl, hM, hI, hX⟩ := hrel
    by_cases hlt : k < 65536
    · have hlt' : (k : Int) < 65536 := by omega
      by_cases hno : ¬ S.pc < n ∨ (S.pc < n ∧ (shp (g S.pc) = none ∨ ∃ s, shp (g S.pc) = some s ∧ n < S.pc + 1 + s.wh + s.nb))
      · have HE : Hid (R = (0, k, 9)) := exec_no hlt hX.out (fit_noin hno)
        have HN : Hid (Calls Try.prog 27 #[.pointer (some ⟨w1.heap.size, 0, none⟩)] wr fun e w' => NoIn w e w') := fetch_no w wr _ _ co n c g _ sv S false 0 hn hc hg hs hM hI.pc hno
        clear hno hX hlt
        go_wp2_with (go_at_call 27; refine HN.out.mono ?_; rintro e w2 ⟨⟨v1, v2, v3, rfl⟩, hg2⟩)
        go_ret3
        exact ⟨by rw [HE.out]; rfl, grown_alloc hg2 _⟩
      · obtain ⟨f1, s, hsh, f3⟩ := fit_in hno
        obtain ⟨b, off, rfl, hrow⟩ := hs (by omega)
        have HS : Hid (shp (g S.pc) = some s) := hsh
        have eF := fit_some (n := n) f1 hsh
        rw [decide_eq_true f3, Bool.true_and] at eF
        have bo : 0 ≤ be g (S.pc + 1) s.wh := (be_u32 hg _ _ (by have := (shp_bd hsh).1; omega)).1
        have bo1 : s.wh = 0 ∨ s.wh = 1 := by rcases shp_cases hsh with ⟨_, rfl⟩ | ⟨_, rfl⟩ | ⟨_, rfl⟩ | ⟨_, rfl⟩ | ⟨_, rfl⟩ | ⟨_, rfl⟩ | ⟨_, rfl⟩ | ⟨_, rfl⟩ | ⟨_, rfl⟩ <;> simp
        have KN : knw (g S.pc) (be g (S.pc + 1) s.wh) = knw (g S.pc) (g (S.pc + 1)) := by
          rcases bo1 with e | e
          · rcases shp_cases hsh with ⟨c1, rfl⟩ | ⟨c1, rfl⟩ | ⟨c1, rfl⟩ | ⟨c1, rfl⟩ | ⟨c1, rfl⟩ | ⟨c1, rfl⟩ | ⟨c1, rfl⟩ | ⟨c1, rfl⟩ | ⟨c1, rfl⟩ <;> first | (rw [c1]; rfl) | cases e
          · rw [e, be_one]
        rw [← KN] at eF
        have sp8 := hI.sp
        cases hf : fitB g n S with
        | false =>
          have HE : Hid (R = (0, k, 9)) := exec_no hlt hX.out hf
          have HF : Hid ((decide (s.po ≤ S.sp) && decide (S.sp - s.po + s.pu ≤ 8) && knw (g S.pc) (be g (S.pc + 1) s.wh)) = false) := (by rw [← eF]; exact hf)
          clear hno hX hlt hf eF KN hsh
          go_wp2_with (first | (go_at_call 27; refine (fetch_ok w _ _ _ b off n c g _ sv S false 0 s hn hc hg hrow hM f1 HS.out f3).mono ?_; rintro e w2 ⟨rfl, h2⟩) | (go_at_call 28; refine (pfits_any w _ _ _ _ _ sv _ false 0 _ _ _ s (h2.allo _) sp8 HS.out bo).mono ?_; dsimp only; rw [HF.out]; rintro e w3 ⟨rfl, hg3⟩))
          go_ret3
          exact ⟨by rw [HE.out]; rfl, grown_trans (h2.allo _).gr hg3⟩
        | true =>
          have HF : Hid ((decide (s.po ≤ S.sp) && decide (S.sp - s.po + s.pu ≤ 8) && knw (g S.pc) (be g (S.pc + 1) s.wh)) = true) := (by rw [← eF]; exact hf)
          have HFt : Hid (fitB g n S = true) := hf
          have HI : Hid (Inv n (stepM g p m S).S) := step_inv hg hp hm hI hf
          cases hd : (stepM g p m S).done with
          | true =>
            have HE : Hid (R = ((stepM g p m S).v, k + 1, 0)) := exec_stop hlt hX.out hf hd
            have HD : Hid ((stepM g p m S).done = true) := hd
            clear hno hX hlt hf eF KN hsh hd
            go_wp2_with (first | (go_at_call 27; refine (fetch_ok w _ _ _ b off n c g _ sv S false 0 s hn hc hg hrow hM f1 HS.out f3).mono ?_; rintro e w2 ⟨rfl, h2⟩) | (go_at_call 28; refine (pfits_any w _ _ _ _ _ sv _ false 0 _ _ _ s (h2.allo _) sp8 HS.out bo).mono ?_; dsimp only; rw [HF.out]; rintro e w3 ⟨rfl, hg3⟩; obtain ⟨x0, x1, x2, _, _, _⟩ := three (box_heap hg3)) | (go_at_call 29; refine (do_any w _ _ _ _ n g po m pc p sv S s hn hm hmc hg hp hI HFt.out HS.out hq ((h2.allo _).keep hg3)).mono ?_; rintro e w4 ⟨rfl, sv', S', hP, hS⟩; rw [HD.out] at hP hS; obtain ⟨d0, d1, d2, d3, d4, d5, d6⟩ := hP.cells))
            go_ret3
            exact ⟨by rw [HE.out]; rfl, hP.gr⟩
          | false =>
            have HE : Hid (execM g n p m (65536 - (k + 1)) (k + 1) (stepM g p m S).S = R) := exec_go hlt hX.out hf hd
            have HD : Hid ((stepM g p m S).done = false) := hd
            clear hno hX hlt hf eF KN hsh hd
            go_wp2_with (first | (go_at_call 27; refine (fetch_ok w _ _ _ b off n c g _ sv S false 0 s hn hc hg hrow hM f1 HS.out f3).mono ?_; rintro e w2 ⟨rfl, h2⟩) | (go_at_call 28; refine (pfits_any w _ _ _ _ _ sv _ false 0 _ _ _ s (h2.allo _) sp8 HS.out bo).mono ?_; dsimp only; rw [HF.out]; rintro e w3 ⟨rfl, hg3⟩; obtain ⟨x0, x1, x2, _, _, _⟩ := three (box_heap hg3)) | (go_at_call 29; refine (do_any w _ _ _ _ n g po m pc p sv S s hn hm hmc hg hp hI HFt.out HS.out hq ((h2.allo _).keep hg3)).mono ?_; rintro e w4 ⟨rfl, sv', S', hP, hS⟩; rw [HD.out] at hP hS; obtain ⟨d0, d1, d2, d3, d4, d5, d6⟩ := hP.cells))
            have eS : S' = (stepM g p m S).S := by first | exact hS rfl | exact hS trivial
            subst eS
            have hv : (stepM g p m S).v = 0 := step_v HFt.out HD.out
            rw [hv] at hP
            go_roundw
            case rel => exact ⟨k + 1, sv', _, by omega, by go_num, hP, HI.out, HE⟩
            case measure => simp [intOf]; omega
    · have hke : k = 65536 := by omega
      subst hke
      have HE : Hid (R = (0, 65536, 9)) := exec_end hX.out
      clear hX
      go_wp2
      go_ret3
      exact ⟨by rw [HE.out]; rfl, hM.gr⟩

end Go.Proofs.Ythbcfepbkkbjiaa
