/-
  DERIVED. GIVEN WITH THE SEED: THE CARDS: each row of YthbcfepbkkbjiabGreatDoorRows.lean that lists a variable, with what it lists TIED to the program's text (the seventh form; the later family's looks); each row that meets fmt, with fmt's text TOLD by the authors' own Lean function (tested against real Go, not proved from fmt's source: count such statements apart). THE CARD IS WHAT COUNTS. Prove the row's statement (the work); the ties are given (YthbcfepbkkbjiabGreatDoorTie.lean); close each card by the builder's one call (the guide's Derived/Test/ToyasCard.lean, 'card_holds'). Laid BY PROGRAM, IN A SANDBOX (cutbox-door.mjs). By AI agents, Wed Nov 11 2026. No macro, syntax, notation, axiom, sorry.
-/
import Derived.Test.YthbcfepbkkbjiabGreatDoorRows
import GoSem.ClaimSeven
namespace Go.Proofs.YthbcfepbkkbjiabGreatDoor
namespace Rows

/-- THE TIED CARD OF 'gaugekeep.Modes'. -/
def modesCard : Claim7 := { stood := { row := modesRow, standIns := [], harness := (true, "e570050766619a5ff0bb06b112fcb2984553687b8385885e74f39671bd2a2d19"), looks := true }, kinds := [], alts := [], laidByText := true, laidKinds := [.data, .data, .data, .handle, .sentinel, .sentinel, .sentinel, .sentinel, .sentinel], laidTests := true, laidLooks := .later }
def ModesCardSaid : Prop := Claim7.holds Tryz.pinned (.plain (OpenSpec.ofChange modesSpec)) modesCard

/-- THE TIED CARD OF 'gaugekeep.Waits'. -/
def waitsCard : Claim7 := { stood := { row := waitsRow, standIns := [], harness := (true, "e570050766619a5ff0bb06b112fcb2984553687b8385885e74f39671bd2a2d19"), looks := true }, kinds := [], alts := [], laidByText := true, laidKinds := [.data, .data, .data, .handle, .sentinel, .sentinel, .sentinel, .sentinel, .sentinel], laidTests := true, laidLooks := .later }
def WaitsCardSaid : Prop := Claim7.holds Tryz.pinned (.plain (OpenSpec.ofChange waitsSpec)) waitsCard

/-- THE SECOND FORM's CARD OF 'gaugekeep.Modes'. -/
def modesUptoCard : Claim7 := { stood := { row := modesUptoRow, standIns := [], harness := (true, "e570050766619a5ff0bb06b112fcb2984553687b8385885e74f39671bd2a2d19"), looks := true }, kinds := [], alts := [], laidByText := true, laidKinds := [.data, .data, .data, .handle, .sentinel, .sentinel, .sentinel, .sentinel, .sentinel], laidTests := true, laidLooks := .later }
def ModesUptoCardSaid : Prop := Claim7.holds Tryz.pinned (.plain (OpenSpec.upto modesSpec)) modesUptoCard

/-- THE SECOND FORM's CARD OF 'gaugekeep.Waits'. -/
def waitsUptoCard : Claim7 := { stood := { row := waitsUptoRow, standIns := [], harness := (true, "e570050766619a5ff0bb06b112fcb2984553687b8385885e74f39671bd2a2d19"), looks := true }, kinds := [], alts := [], laidByText := true, laidKinds := [.data, .data, .data, .handle, .sentinel, .sentinel, .sentinel, .sentinel, .sentinel], laidTests := true, laidLooks := .later }
def WaitsUptoCardSaid : Prop := Claim7.holds Tryz.pinned (.plain (OpenSpec.upto waitsSpec)) waitsUptoCard
end Rows
end Go.Proofs.YthbcfepbkkbjiabGreatDoor
