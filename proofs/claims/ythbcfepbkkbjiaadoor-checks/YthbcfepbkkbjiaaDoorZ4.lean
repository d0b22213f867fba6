/- The walks of package check's cell, join. -/
import Derived.Test.YthbcfepbkkbjiaaDoorZ3
import Derived.Laws.BitsAllLaws
namespace Go.Proofs.YthbcfepbkkbjiaaDoor
open Go.RowKit
set_option linter.unusedVariables false

theorem wrap_bit (K : Nat) (hK : K < 16) : IntKind.u16.wrap (2 ^ K) = ((2 ^ K : Nat) : Int) := by
  rw [IntKind.wrap_u16]
  have : ∀ K, K < 16 → (2 ^ K : Int) % 65536 = ((2 ^ K : Nat) : Int) := by decide
  exact this K hK

theorem cell_any (K : Nat) (w : World) (hK : K < 16) : Calls Tryd.prog 46 #[.int .i64 K] w fun e w' => e = .returned (.int .u16 ((2 ^ K : Nat) : Int)) ∧ w' = w := by
  have h := wrap_bit K hK
  go_enter Tryd.func46, Tryd.ntmps46
  go_wp2
  go_ret
  exact ⟨ret_int (by rw [← wrap_bit K hK, h]; simp), rfl⟩

/-- A map of places: of each that is come to, the cells that are written on all ways to it. -/
def wm (W : Int → Option Nat) (C : Int) : Option Value := (W C).map fun v => .int .u16 (v : Int)

/-- one more way to a place -/
def joined (W : Int → Option Nat) (p : Int) (v : Nat) (D : Int) : Option Nat := if D = p then some (match W p with | some k => v &&& k | none => v) else W D

theorem wm_joined (W : Int → Option Nat) (p : Int) (v : Nat) : wm (joined W p v) = fun D => if D = p then some (.int .u16 ((match W p with | some k => v &&& k | none => v : Nat) : Int)) else wm W D := by
  funext D
  unfold wm joined
  by_cases h : D = p <;> simp [h]

theorem Tryd.zeroCells (w : World) : (zeroValue 112).run Tryd.prog w = .ok (.int .u16 0) w := by kernel_rfl

set_option maxRecDepth 100000 in
set_option maxHeartbeats 1000000 in
theorem join_any (b : Nat) (p : Int) (v : Nat) (W : Int → Option Nat) (w : World) (hv : v < 65536) (hW : ∀ C k, W C = some k → k < 65536) (h : IMap w b (wm W)) :
    Calls Tryd.prog 48 #[.map (some b), .int .i64 p, .int .u16 v] w fun e w' => e = .returned (.tuple #[]) ∧ IMap w' b (wm (joined W p v)) ∧ w.grownBy w' (some b) := by
  have hl := h.look (P := Tryd.prog) (t := 114) (k := 3) (e := 112) Tryd.underlying114 Tryd.underlying3 (Tryd.zeroCells _) p true
  cases hp : W p with
  | none =>
    have e0 : wm W p = none := by unfold wm; rw [hp]; rfl
    rw [e0] at hl
    obtain ⟨w', hrun, r1, r2⟩ := h.store (P := Tryd.prog) (t := 114) (k := 3) (e := 112) Tryd.underlying114 Tryd.underlying3 p (.int .u16 (v : Int))
    have R : Hid (IMap w' b (wm (joined W p v))) := by unfold Hid; rw [wm_joined, hp]; exact r1
    clear r1 h
    go_enter Tryd.func48, Tryd.ntmps48
    go_wp2
    go_end0
    exact ⟨rfl, R.out, r2⟩
  | some k =>
    have e0 : wm W p = some (.int .u16 (k : Int)) := by unfold wm; rw [hp]; rfl
    have hk := hW p k hp
    rw [e0] at hl
    have hb := u16_and_nat v k hv hk
    obtain ⟨w', hrun, r1, r2⟩ := h.store (P := Tryd.prog) (t := 114) (k := 3) (e := 112) Tryd.underlying114 Tryd.underlying3 p (.int .u16 ((v &&& k : Nat) : Int))
    have R : Hid (IMap w' b (wm (joined W p v))) := by unfold Hid; rw [wm_joined, hp]; exact r1
    clear r1 h
    go_enter Tryd.func48, Tryd.ntmps48
    go_wp2
    go_end0
    exact ⟨rfl, R.out, r2⟩

end Go.Proofs.YthbcfepbkkbjiaaDoor
