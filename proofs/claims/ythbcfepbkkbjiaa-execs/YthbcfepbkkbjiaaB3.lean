/- The walks of gauge.Exec and of the law Execs. -/
import Derived.Test.YthbcfepbkkbjiaaA9
import Derived.Test.YthbcfepbkkbjiaaF6
namespace Go.Proofs.Ythbcfepbkkbjiaa
open Go.RowKit
set_option linter.unusedVariables false

set_option maxRecDepth 100000 in
set_option maxHeartbeats 1000000 in
theorem gexec_big (cv : Value) (po : Option Addr) (m pc : Nat) (w : World) (hm : 2000 < m) (hm2 : m ≤ 140737488355328) :
    Calls Try.prog 16 #[cv, .slice po m pc] w fun e w' => e = .returned (.tuple #[.int .i64 0, .int .i64 0, .int .i64 10]) ∧ w.grownBy w' none := by
  go_enter Try.func16, Try.ntmps16
  go_wp2
  go_ret3
  exact ⟨rfl, grown_refl _ _⟩

/-- what comes out of Exec: a word and no error, or 0 and a fault -/
theorem exec_out {g : Nat → Int} {n : Nat} {p : Nat → Int} {m : Nat} (hg : Oct g) (hp : Oct p) (hm : m ≤ 2000) : ∀ f k S, Inv n S → ((execM g n p m f k S).2.2 = 9 ∧ (execM g n p m f k S).1 = 0) ∨ ((execM g n p m f k S).2.2 = 0 ∧ U32 (execM g n p m f k S).1)
  | 0, k, S, _ => Or.inl ⟨rfl, rfl⟩
  | f + 1, k, S, hI => by
    unfold execM
    by_cases hf : fitB g n S = true
    · rw [if_pos hf]
      by_cases hd : (stepM g p m S).done = true
      · rw [if_pos hd]
        refine Or.inr ⟨rfl, ?_⟩
        show U32 (stepM g p m S).v
        obtain ⟨f1, s, f2, f3, f4, f5, f6⟩ := fit_true hf
        rcases shp_cases f2 with ⟨c, rfl⟩ | ⟨c, rfl⟩ | ⟨c, rfl⟩ | ⟨c, rfl⟩ | ⟨c, rfl⟩ | ⟨c, rfl⟩ | ⟨c, rfl⟩ | ⟨c, rfl⟩ | ⟨c, rfl⟩
        all_goals simp only [stepM, c]
        all_goals simp only [Int.reduceEq, if_true, if_false]
        all_goals first | exact u32_zero | (split <;> exact u32_zero) | exact hI.st _ (by dsimp only at f4; omega)
      · rw [if_neg hd]
        exact exec_out hg hp hm f (k + 1) _ (step_inv hg hp hm hI hf)
    · rw [if_neg hf]
      exact Or.inl ⟨rfl, rfl⟩

theorem execR_out {g : Nat → Int} {n : Nat} {p : Nat → Int} {m : Nat} (hg : Oct g) (hp : Oct p) (hm : m ≤ 2000) : ((execR g n p m).2.2 = 9 ∧ (execR g n p m).1 = 0) ∨ ((execR g n p m).2.2 = 0 ∧ U32 (execR g n p m).1) :=
  exec_out hg hp hm 65536 0 S0 (inv0 n)

set_option maxRecDepth 100000 in
set_option maxHeartbeats 1000000 in
theorem gexec_any (co : Option Addr) (n c : Nat) (g : Nat → Int) (po : Option Addr) (m pc : Nat) (p : Nat → Int) (w : World) (hn : n ≤ 140737488355328) (hc : n ≤ c) (hm : m ≤ 2000) (hmc : m ≤ pc) (hg : Oct g) (hp : Oct p) (hs : Src w .u8 co n g) (hq : Src w .u8 po m p) :
    Calls Try.prog 16 #[.slice co n c, .slice po m pc] w fun e w' => e = .returned (.tuple #[.int .i64 (execR g n p m).1, .int .i64 (execR g n p m).2.1, .int .i64 (execR g n p m).2.2]) ∧ w.grownBy w' none := by
  have HS : Hid (∀ w', w.grownBy w' none → Calls Try.prog 21 #[.slice co n c, .slice po m pc] w' fun e w'' => e = .returned (.tuple #[.int .u32 (execR g n p m).1, .int .i64 (execR g n p m).2.1, .bool ((execR g n p m).2.2 == 0)]) ∧ w'.grownBy w'' none) :=
    fun w' hg' => sexec_any co n c g po m pc p w' hn hc hm hmc hg hp (hs.keep hg') (hq.keep hg')
  have hO := execR_out (n := n) hg hp hm
  clear hs hq
  generalize execR g n p m = R at *
  obtain ⟨v, k, e⟩ := R
  dsimp only at *
  rcases hO with ⟨rfl, rfl⟩ | ⟨rfl, v0, v1⟩
  · go_enter Try.func16, Try.ntmps16
    go_wp2_with (go_at_call 21; refine (HS.out _ (grown_refl _ _)).mono ?_; rintro e w1 ⟨rfl, hg1⟩)
    go_ret3
    exact ⟨rfl, hg1⟩
  · go_enter Try.func16, Try.ntmps16
    go_wp2_with (go_at_call 21; refine (HS.out _ (grown_refl _ _)).mono ?_; rintro e w1 ⟨rfl, hg1⟩)
    go_ret3
    exact ⟨rfl, hg1⟩

theorem srcpad {w : World} {H : Nat} {e : TypeId} {N n : Nat} {g : Nat → Int} (h : Blk w H e N (n + 4) (ints .u8 (pad g n))) : Src w .u8 (some ⟨H, 0, none⟩) n g :=
  fun _ => ⟨H, 0, rfl, fun j hj => by
    rw [Nat.zero_add, h.cell (by omega)]
    show some (Value.int .u8 (pad g n j)) = _
    rw [show pad g n j = g j from if_pos hj]⟩

/-- Exec of both, told once -/
def execV (g : Nat → Int) (n : Nat) (p : Nat → Int) (m : Nat) : Int × Nat × Int := if m ≤ 2000 then execR g n p m else (0, 0, 10)

theorem gexec_all (co : Option Addr) (n c : Nat) (g : Nat → Int) (po : Option Addr) (m pc : Nat) (p : Nat → Int) (w : World) (hn : n ≤ 140737488355328) (hc : n ≤ c) (hm : m ≤ 140737488355328) (hmc : m ≤ pc) (hg : Oct g) (hp : Oct p) (hs : Src w .u8 co n g) (hq : Src w .u8 po m p) :
    Calls Try.prog 16 #[.slice co n c, .slice po m pc] w fun e w' => e = .returned (.tuple #[.int .i64 (execV g n p m).1, .int .i64 (execV g n p m).2.1, .int .i64 (execV g n p m).2.2]) ∧ w.grownBy w' none := by
  unfold execV
  by_cases h : m ≤ 2000
  · rw [if_pos h]; exact gexec_any co n c g po m pc p w hn hc h hmc hg hp hs hq
  · rw [if_neg h]; exact gexec_big _ po m pc w (by omega) hm

theorem rexec_all (co : Option Addr) (n c : Nat) (g : Nat → Int) (po : Option Addr) (m pc : Nat) (p : Nat → Int) (w : World) (hn : n ≤ 140737488355328) (hc : n ≤ c) (hm : m ≤ 140737488355328) (hg : Oct g) (hp : Oct p) (hs : Src w .u8 co n g) (hq : Src w .u8 po m p) :
    Calls Try.prog 17 #[.slice co n c, .slice po m pc] w fun e w' => e = .returned (.tuple #[.int .i64 (execV g n p m).1, .int .i64 (execV g n p m).2.1, .int .i64 (execV g n p m).2.2]) ∧ w.grownBy w' none := by
  unfold execV
  by_cases h : m ≤ 2000
  · rw [if_pos h]; exact rexec_any co n c g po m pc p w hn hc h hg hp hs hq
  · rw [if_neg h]; exact rexec_big _ po m pc w (by omega) hm

set_option maxRecDepth 100000 in
set_option maxHeartbeats 1000000 in
theorem law_execs (co : Option Addr) (n c : Nat) (g : Nat → Int) (po : Option Addr) (m pc : Nat) (p : Nat → Int) (w : World) (hn : n ≤ 140737488351232) (hm : m ≤ 140737488351232) (hc : n ≤ c) (hg : Oct g) (hp : Oct p) (hs : Src w .u8 co n g) (hq : Src w .u8 po m p) :
    Calls Try.prog 4 #[.slice co n c, .slice po m pc] w fun e w' => e = .returned (.bool true) ∧ w.grownBy w' none := by
  obtain ⟨R, hR⟩ : ∃ R, R = execV g n p m := ⟨_, rfl⟩
  have HG : Hid (∀ (H P : Nat) (w' : World), Src w' .u8 (some ⟨H, 0, none⟩) n g → Src w' .u8 (some ⟨P, 0, none⟩) m p → Calls Try.prog 16 #[.slice (some ⟨H, 0, none⟩) n (n + 4), .slice (some ⟨P, 0, none⟩) m (m + 4)] w' fun e w'' => e = .returned (.tuple #[.int .i64 R.1, .int .i64 R.2.1, .int .i64 R.2.2]) ∧ w'.grownBy w'' none) :=
    fun H P w' h1 h2 => by rw [hR]; exact gexec_all _ n _ g _ m _ p w' (by omega) (by omega) (by omega) (by omega) hg hp h1 h2
  have HF : Hid (∀ (w' : World), w.grownBy w' none → Calls Try.prog 17 #[.slice co n c, .slice po m pc] w' fun e w'' => e = .returned (.tuple #[.int .i64 R.1, .int .i64 R.2.1, .int .i64 R.2.2]) ∧ w'.grownBy w'' none) :=
    fun w' hg' => by rw [hR]; exact rexec_all co n c g po m pc p w' (by omega) hc (by omega) hg hp (hs.keep hg') (hq.keep hg')
  clear hR
  obtain ⟨v, k, x⟩ := R
  dsimp only at HG HF
  go_enter Try.func4, Try.ntmps4
  go_wp2_with (go_at_call 5; refine (bytes_any co n c g _ (by omega) hs).mono ?_; rintro e w1 ⟨H, rfl, hH, hg1, hb1⟩; go_wp2_with (go_at_call 5; refine (bytes_any po m pc p _ (by omega) (hq.keep hg1)).mono ?_; rintro e w2 ⟨P, rfl, hP, hg2, hb2⟩; go_wp2_with (first | (go_at_call 16; refine (HG.out H P _ (srcpad (hb1.keep hg2 (by simp))) (srcpad hb2)).mono ?_; rintro e w3 ⟨rfl, hg3⟩) | (go_at_call 17; refine (HF.out _ (grown_trans (grown_trans hg1 hg2) hg3)).mono ?_; rintro e w4 ⟨rfl, hg4⟩; have G4 := grown_trans (grown_trans (grown_trans hg1 hg2) hg3) hg4; go_wp2_with (go_at_call 13; refine (kept_any H co n c (n + 4) g _ _ (by omega) (by omega) (hb1.keep (grown_trans (grown_trans hg2 hg3) hg4) (by simp)) (hs.keep G4)).mono ?_; rintro e w5 ⟨rfl, hg5⟩; go_wp2_with (go_at_call 13; refine (kept_any P po m pc (m + 4) p _ _ (by omega) (by omega) (hb2.keep (grown_trans (grown_trans hg3 hg4) hg5) (by simp)) (hq.keep (grown_trans G4 hg5))).mono ?_; rintro e w6 ⟨rfl, hg6⟩))))))
  go_ret
  exact ⟨rfl, grown_trans (grown_trans G4 hg5) hg6⟩

end Go.Proofs.Ythbcfepbkkbjiaa
