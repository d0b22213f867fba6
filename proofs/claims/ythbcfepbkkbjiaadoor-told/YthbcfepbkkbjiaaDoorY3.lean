/- The walks of gauge.Verify, gauge.Check. -/
import Derived.Test.YthbcfepbkkbjiaaDoorY2
namespace Go.Proofs.YthbcfepbkkbjiaaDoor
open Go.RowKit
set_option linter.unusedVariables false

/-- the package-level variables lie as their texts lay them -/
def Laid (w : World) (tb : TypeId) (pb : Value) : Prop := Tab w ∧ ErrT w ∧ w.cell? ⟨0, 0, none⟩ = some (.iface tb pb)

theorem Laid.keep {w w' : World} {tb : TypeId} {pb : Value} (h : Laid w tb pb) (hg : w.grownBy w' none) : Laid w' tb pb := ⟨h.1.keep hg, h.2.1.keep hg, hg.cell h.2.2 (by simp)⟩

theorem verify_any (ao : Option Addr) (n c : Nat) (g : Nat → Int) (tb : TypeId) (pb : Value) (w : World) (hm : n ≤ maxLen) (hc : n ≤ c) (hg : Oct g) (h : Src w .u8 ao n g) (hl : Laid w tb pb) :
    Calls Tryd.prog 10 #[.slice ao n c] w fun e w' => ErrS w w' e (Chk g n 0 0) (fun k E => Chk g n E k ∧ E ≠ 0) (.iface tb pb) ∧ w.grownBy w' none := by
  obtain ⟨l1, l2, l3⟩ := hl
  go_enter Tryd.func10, Tryd.ntmps10
  go_wp2_with (first | (go_at_call 19; refine (pfilter_any ao n c g tb pb _ hm hc hg h l1).mono ?_; rintro e w1 ⟨hE, hg1⟩; obtain ⟨v, hv⟩ : ∃ v, e = .returned v := hE.ret; subst hv))
  go_ret
  exact ⟨hE, hg1⟩

theorem box_frozen {w wr : World} {arr : Array Value} {t : TypeId} {j : Nat} (hg : (w.alloc (.cells arr t)).grownBy wr none) : wr.frozen? ⟨w.heap.size, j, none⟩ = false := by
  have : wr.heap[w.heap.size]? = some (.cells arr t (0, 0)) := by rw [hg.block w.heap.size (by simp) (by simp)]; exact heap_top _ _ _ rfl
  simp [World.frozen?, this]

/-- a fault's cells, behind a store into a box that is older -/
theorem fault_cells {w w3 : World} {F : Nat} {k c : Int} {bad v : Value} {o : Obj} (h : FaultS w3 F k c bad) (hlt : (w.alloc o).heap.size ≤ F) :
    (w3.setCell ⟨w.heap.size, 0, none⟩ v).cell? ⟨F, 0, none⟩ = some (.int .i64 k) ∧ (w3.setCell ⟨w.heap.size, 0, none⟩ v).cell? ⟨F, 1, none⟩ = some (.int .i64 c) ∧ F ≠ w.heap.size := by
  obtain ⟨R, s, h1, _⟩ := h
  have hne : F ≠ w.heap.size := by simp at hlt; omega
  have e : ∀ j, (w3.setCell ⟨w.heap.size, 0, none⟩ v).cell? ⟨F, j, none⟩ = w3.cell? ⟨F, j, none⟩ := fun j => by
    have := Below.heap_setCell w3 ⟨w.heap.size, 0, none⟩ v F hne
    simp [World.cell?, this]
  refine ⟨?_, ?_, hne⟩
  · rw [e, cell_of_row w3 F 0 _ _ (0, 0) h1]; rfl
  · rw [e, cell_of_row w3 F 1 _ _ (0, 0) h1]; rfl

set_option maxRecDepth 100000 in
set_option maxHeartbeats 1000000 in
theorem check_ok (ao : Option Addr) (n c : Nat) (g : Nat → Int) (tb : TypeId) (pb : Value) (w : World) (hm : n ≤ maxLen) (hc : n ≤ c) (hg : Oct g) (h : Src w .u8 ao n g) (hl : Laid w tb pb) (hok : Chk g n 0 0) :
    Calls Tryd.prog 7 #[.slice ao n c] w fun e w' => (∃ (E : Int) (p : Nat), e = .returned (.tuple #[.int .i64 E, .int .i64 p]) ∧ Chk g n E p) ∧ w.grownBy w' none := by
  have G0 := World.grownBy_alloc w (.cells #[.pointer none] 36) none
  go_enter Tryd.func7, Tryd.ntmps7
  go_wp2_with (first | (go_at_call 10; refine (verify_any ao n c g tb pb _ hm hc hg (h.keep G0) (hl.keep G0)).mono ?_; rintro e w1 ⟨hE, hg1⟩; obtain ⟨_, rfl⟩ := hE.nil (fun k E hP => hP.2 (hP.1.one hok).1)) | (go_at_call 12; refine (as_nil _ _).mono ?_; rintro e w2 ⟨rfl, rfl⟩))
  go_ret2
  exact ⟨⟨0, 0, rfl, hok⟩, grown_trans G0 hg1⟩

set_option maxRecDepth 100000 in
set_option maxHeartbeats 1000000 in
theorem check_err (ao : Option Addr) (n c : Nat) (g : Nat → Int) (tb : TypeId) (pb : Value) (w : World) (hm : n ≤ maxLen) (hc : n ≤ c) (hg : Oct g) (h : Src w .u8 ao n g) (hl : Laid w tb pb) (hno : ¬ Chk g n 0 0) :
    Calls Tryd.prog 7 #[.slice ao n c] w fun e w' => (∃ (E : Int) (p : Nat), e = .returned (.tuple #[.int .i64 E, .int .i64 p]) ∧ Chk g n E p) ∧ w.grownBy w' none := by
  have G0 := World.grownBy_alloc w (.cells #[.pointer none] 36) none
  go_enter Tryd.func7, Tryd.ntmps7
  go_wp2_with (first | (go_at_call 10; refine (verify_any ao n c g tb pb _ hm hc hg (h.keep G0) (hl.keep G0)).mono ?_; rintro e w1 ⟨hE, hg1⟩; obtain ⟨F, k, E, hP, rfl, hF, hlt⟩ := hE.err hno; have cb := box_of (j := 0) (u := .pointer none) hg1 (by simp) rfl; have fb : w1.frozen? ⟨w.heap.size, 0, none⟩ = false := (box_frozen hg1)) | (go_at_call 12; refine (as_hit _ _ (.pointer none) _ (hl.2.1.keep (grown_trans G0 hg1)) cb fb).mono ?_; rintro e w4 ⟨rfl, w3, hg3, hw4⟩; obtain ⟨d0, d1, d2⟩ := fault_cells (v := .pointer (some ⟨F, 0, none⟩)) (hF.keep hg3) hlt; have d3 := World.cell?_setCell_same _ _ (.pointer (some ⟨F, 0, none⟩)) (hg3.cell cb (by simp)); rw [← hw4] at d0 d1 d3; have G4 := grown_set (grown_trans (grown_trans G0 hg1) hg3) (p := ⟨w.heap.size, 0, none⟩) (Nat.le_refl _) (.pointer (some ⟨F, 0, none⟩)); rw [← hw4] at G4; clear hw4 cb fb))
  go_quiet (fail)
  go_wp2
  go_ret2
  exact ⟨⟨E, k, rfl, hP.1⟩, grown_trans G4 (grown_drewN _ _ _)⟩

theorem check_any (ao : Option Addr) (n c : Nat) (g : Nat → Int) (tb : TypeId) (pb : Value) (w : World) (hm : n ≤ maxLen) (hc : n ≤ c) (hg : Oct g) (h : Src w .u8 ao n g) (hl : Laid w tb pb) :
    Calls Tryd.prog 7 #[.slice ao n c] w fun e w' => (∃ (E : Int) (p : Nat), e = .returned (.tuple #[.int .i64 E, .int .i64 p]) ∧ Chk g n E p) ∧ w.grownBy w' none := by
  by_cases hok : Chk g n 0 0
  · exact check_ok ao n c g tb pb w hm hc hg h hl hok
  · exact check_err ao n c g tb pb w hm hc hg h hl hok

end Go.Proofs.YthbcfepbkkbjiaaDoor
