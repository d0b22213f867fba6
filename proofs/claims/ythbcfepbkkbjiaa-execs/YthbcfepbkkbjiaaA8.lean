/- The program's machine of code: an instruction, whole. -/
import Derived.Test.YthbcfepbkkbjiaaA4
import Derived.Test.YthbcfepbkkbjiaaA6
import Derived.Test.YthbcfepbkkbjiaaA7
import Derived.Test.YthbcfepbkkbjiaaF5
namespace Go.Proofs.Ythbcfepbkkbjiaa
open Go.RowKit
set_option linter.unusedVariables false

/-- what a step of the program's machine has come to -/
def Did (w0 w' : World) (M MB : Nat) (cv pv : Value) (R : Res) : Prop := ∃ sv' S', PM w0 w' M MB cv pv sv' S' R.done R.v ∧ (R.done = false → S' = R.S)

theorem did_of {w0 w' : World} {M MB : Nat} {cv pv sv' : Value} {S' : Mst} {R : Res} {sd : Bool} {res : Int} (h : PM w0 w' M MB cv pv sv' S' sd res) (h1 : R.done = sd) (h2 : R.v = res) (h3 : sd = false → S' = R.S) : Did w0 w' M MB cv pv R :=
  ⟨sv', S', by rw [h1, h2]; exact h, fun e => h3 (by rw [← h1]; exact e)⟩

theorem be_zero (g : Nat → Int) (o : Nat) : be g o 0 = 0 := rfl

theorem do_any (w0 w : World) (M MB : Nat) (cv : Value) (n : Nat) (g : Nat → Int) (po : Option Addr) (m pc' : Nat) (p : Nat → Int) (sv : Value) (S : Mst) (s : Shp) (hn : n ≤ 140737488355328) (hm : m ≤ 2000) (hmc : m ≤ pc') (hg : Oct g) (hp : Oct p) (hI : Inv n S) (hf : fitB g n S = true) (hs : shp (g S.pc) = some s) (hsrc : Src w0 .u8 po m p)
    (h : PM w0 w M MB cv (.slice po m pc') sv ⟨S.pc + 1 + s.wh + s.nb, S.sp, S.st, S.cs⟩ false 0) :
    Calls Try.prog 29 #[.pointer (some ⟨M, 0, none⟩), .agg #[.int .u8 (g S.pc), .int .u32 (be g (S.pc + 1) s.wh), .int .u32 (be g (S.pc + 1 + s.wh) s.nb)]] w
      fun e w' => e = .returned (.tuple #[]) ∧ Did w0 w' M MB cv (.slice po m pc') (stepM g p m S) := by
  obtain ⟨f1, s', f2, f3, f4, f5, f6⟩ := fit_true hf
  have es : s' = s := by rw [hs] at f2; cases f2; rfl
  subst es
  obtain ⟨i1, i2, i3, i4⟩ := hI
  have ob := hg (S.pc + 1)
  obtain ⟨o, ho⟩ : ∃ o : Nat, g (S.pc + 1) = o := ⟨(g (S.pc + 1)).toNat, by omega⟩
  have b1 := be_one g (S.pc + 1)
  have n2 : ∀ k, ∃ x : Nat, be g k 2 = x ∧ x ≤ 65535 := fun k => by
    have := be_bd hg k 2 (by omega)
    exact ⟨(be g k 2).toNat, by omega, by omega⟩
  rcases shp_cases hs with ⟨c, rfl⟩ | ⟨c, rfl⟩ | ⟨c, rfl⟩ | ⟨c, rfl⟩ | ⟨c, rfl⟩ | ⟨c, rfl⟩ | ⟨c, rfl⟩ | ⟨c, rfl⟩ | ⟨c, rfl⟩
  all_goals dsimp only at *
  all_goals rw [c] at f6 ⊢
  · refine (do_1 w0 w M MB cv _ sv _ _ _ h i2).mono ?_
    rintro e w' ⟨rfl, sv', hr⟩
    refine ⟨rfl, did_of hr ?_ ?_ ?_⟩ <;> simp only [stepM, c, if_true] <;> intros <;> first | rfl | trivial
  · rw [b1, ho]
    refine (do_2 w0 w M MB cv _ sv _ o _ h i2 (by rw [ho] at f6; simp [knw] at f6; omega)).mono ?_
    rintro e w' ⟨rfl, sv', hr⟩
    refine ⟨rfl, did_of hr ?_ ?_ ?_⟩ <;> simp only [stepM, c, ho, Int.reduceEq, if_true, if_false] <;> intros <;> first | rfl | trivial
  · rw [b1, ho]
    refine (do_3 w0 w M MB cv _ sv _ o _ h f4 (by rw [ho] at f6; simp [knw] at f6; omega)).mono ?_
    rintro e w' ⟨rfl, sv', hr⟩
    refine ⟨rfl, did_of hr ?_ ?_ ?_⟩ <;> simp only [stepM, c, ho, Int.reduceEq, if_true, if_false] <;> intros <;> first | rfl | trivial
  · rw [b1, ho]
    have o9 : o ≤ 9 := by rw [ho] at f6; simp [knw] at f6; omega
    have ux : U32 (S.st (S.sp - 1 - 1)) := i3 _ (by omega)
    have uy : U32 (S.st (S.sp - 1)) := i3 _ (by omega)
    cases hd : div0 o (S.st (S.sp - 1)) with
    | false =>
      refine (do_4a w0 w M MB cv _ sv _ o _ h f4 i2 o9 ux uy hd).mono ?_
      rintro e w' ⟨rfl, sv', hr⟩
      dsimp only at hr
      rw [show S.sp - 1 - 1 = S.sp - 2 by omega, show S.sp - 2 + 1 = S.sp - 1 by omega] at hr
      refine ⟨rfl, did_of hr ?_ ?_ ?_⟩ <;> simp only [stepM, c, ho, hd, Int.reduceEq, if_true, if_false] <;> intros <;> first | rfl | trivial
    | true =>
      refine (do_4b w0 w M MB cv _ sv _ o _ h f4 i2 o9 ux uy hd).mono ?_
      rintro e w' ⟨rfl, sv', hr⟩
      refine ⟨rfl, did_of hr ?_ ?_ (fun e => by cases e)⟩ <;> simp only [stepM, c, ho, hd, Int.reduceEq, if_true, if_false]
  · rw [b1, ho]
    have o4 : o = 1 ∨ o = 2 ∨ o = 4 := by rw [ho] at f6; simp [knw] at f6; omega
    have ux : U32 (S.st (S.sp - 1 - 1)) := i3 _ (by omega)
    have uy : U32 (S.st (S.sp - 1)) := i3 _ (by omega)
    obtain ⟨X, hX, hx⟩ := nat_of ux
    obtain ⟨Y, hY, hy⟩ := nat_of uy
    have e2 : S.sp - 2 = S.sp - 1 - 1 := by omega
    have e3 : ((X : Int) + (Y : Int)).toNat = X + Y := by omega
    by_cases hfit : X + Y + o ≤ m
    · refine (do_5a w0 w M MB cv sv _ o _ po m pc' p h f4 i2 o4 X Y hX hY hx hy hm hmc hp hsrc hfit).mono ?_
      rintro e w' ⟨rfl, sv', hr⟩
      dsimp only at hr
      have hfit' : ((X : Int) + (Y : Int)).toNat + ((o : Int)).toNat ≤ m := by omega
      refine ⟨rfl, did_of hr ?_ ?_ ?_⟩ <;> simp only [stepM, c, ho, e2, hX, hY, Int.reduceEq, if_true, if_false, if_pos hfit'] <;> intros <;> (try rw [e3, show S.sp - 1 - 1 + 1 = S.sp - 1 by omega]; rfl)
    · refine (do_5b w0 w M MB cv sv _ o _ po m pc' p h f4 i2 o4 X Y hX hY hx hy hm hfit).mono ?_
      rintro e w' ⟨rfl, sv', hr⟩
      have hfit' : ¬ ((X : Int) + (Y : Int)).toNat + ((o : Int)).toNat ≤ m := by omega
      refine ⟨rfl, did_of hr ?_ ?_ (fun e => by cases e)⟩ <;> simp only [stepM, c, ho, e2, hX, hY, Int.reduceEq, if_true, if_false, if_neg hfit']
  · refine (do_6 w0 w M MB cv po m pc' sv _ _ _ h i2 hm).mono ?_
    rintro e w' ⟨rfl, sv', hr⟩
    refine ⟨rfl, did_of hr ?_ ?_ ?_⟩ <;> simp only [stepM, c, Int.reduceEq, if_true, if_false] <;> intros <;> first | rfl | trivial
  · obtain ⟨x, hx, hx2⟩ := n2 (S.pc + 1 + 0)
    rw [hx]
    refine (do_7 w0 w M MB cv _ sv _ _ x h hx2 (by dsimp only; omega)).mono ?_
    rintro e w' ⟨rfl, hr⟩
    have hx' : be g (S.pc + 1) 2 = x := hx
    refine ⟨rfl, did_of hr ?_ ?_ ?_⟩ <;> simp only [stepM, c, hx', Int.reduceEq, if_true, if_false] <;> intros <;> first | rfl | trivial
  · rw [b1, ho]
    have o3 : o ≤ 3 := by rw [ho] at f6; simp [knw] at f6; omega
    obtain ⟨x, hx, hx2⟩ := n2 (S.pc + 1 + 1)
    rw [hx]
    have hx' : be g (S.pc + 2) 2 = x := hx
    have e2 : S.sp - 2 = S.sp - 1 - 1 := by omega
    cases hq : askv o (S.st (S.sp - 1 - 1)) (S.st (S.sp - 1)) with
    | false =>
      refine (do_8a w0 w M MB cv _ sv _ o x h f4 o3 hq).mono ?_
      rintro e w' ⟨rfl, sv', hr⟩
      refine ⟨rfl, did_of hr ?_ ?_ ?_⟩ <;> simp only [stepM, c, ho, e2, hq, Int.reduceEq, if_true, if_false] <;> intros <;> first | rfl | trivial
    | true =>
      refine (do_8b w0 w M MB cv _ sv _ o x h f4 o3 hx2 (by dsimp only; omega) hq).mono ?_
      rintro e w' ⟨rfl, sv', hr⟩
      refine ⟨rfl, did_of hr ?_ ?_ ?_⟩ <;> simp only [stepM, c, ho, e2, hq, hx', Int.reduceEq, if_true, if_false] <;> intros <;> first | rfl | trivial
  · refine (do_9 w0 w M MB cv _ sv _ _ _ h f4).mono ?_
    rintro e w' ⟨rfl, sv', hr⟩
    refine ⟨rfl, did_of hr ?_ ?_ (fun e => by cases e)⟩ <;> simp only [stepM, c, Int.reduceEq, if_false]

end Go.Proofs.Ythbcfepbkkbjiaa
