/-
  DERIVED. GIVEN WITH THE SEED: THE CARDS: each row of YthbcfepbkkbjiaaGreatDoorRows.lean that lists a variable, with what it lists TIED to the program's text (the seventh form; the later family's looks); each row that meets fmt, with fmt's text TOLD by the authors' own Lean function (tested against real Go, not proved from fmt's source: count such statements apart). THE CARD IS WHAT COUNTS. Prove the row's statement (the work); the ties are given (YthbcfepbkkbjiaaGreatDoorTie.lean); close each card by the builder's one call (the guide's Derived/Test/ToyasCard.lean, 'card_holds'). Laid BY PROGRAM, IN A SANDBOX (cutbox-door.mjs). By AI agents, Wed Nov 11 2026. No macro, syntax, notation, axiom, sorry.
-/
import Derived.Test.YthbcfepbkkbjiaaGreatDoorRows
import GoSem.ClaimSeven
namespace Go.Proofs.YthbcfepbkkbjiaaGreatDoor
namespace Rows

/-- THE TIED CARD OF 'gaugelaw.Runs'. -/
def runsCard : Claim7 := { stood := { row := runsRow, standIns := [], harness := (true, "b5de0a8bf141f646ad37771bcf06137ae07a25160adc37c4db3ad4365ee4a768"), looks := true }, kinds := [], alts := [], laidByText := true, laidKinds := [.data, .data, .data, .handle, .sentinel], laidTests := true, laidLooks := .later }
def RunsCardSaid : Prop := Claim7.holds Tryz.pinned (.plain (OpenSpec.ofChange runsSpec)) runsCard

/-- THE TIED CARD OF 'gaugelaw.Compiles'. -/
def compilesCard : Claim7 := { stood := { row := compilesRow, standIns := [], harness := (true, "b5de0a8bf141f646ad37771bcf06137ae07a25160adc37c4db3ad4365ee4a768"), looks := true }, kinds := [], alts := [], laidByText := true, laidKinds := [.data, .data, .data, .handle, .sentinel], laidTests := true, laidLooks := .later }
def CompilesCardSaid : Prop := Claim7.holds Tryz.pinned (.plain (OpenSpec.ofChange compilesSpec)) compilesCard

/-- THE TIED CARD OF 'gaugelaw.Nets'. -/
def netsCard : Claim7 := { stood := { row := netsRow, standIns := [], harness := (true, "b5de0a8bf141f646ad37771bcf06137ae07a25160adc37c4db3ad4365ee4a768"), looks := true }, kinds := [], alts := [], laidByText := true, laidKinds := [.data, .data, .data, .handle, .sentinel, .sentinel, .sentinel, .sentinel, .sentinel], laidTests := true, laidLooks := .later }
def NetsCardSaid : Prop := Claim7.holds Tryz.pinned (.plain (OpenSpec.ofChange netsSpec)) netsCard

/-- THE TIED CARD OF 'gaugekeep.Mirrors'. -/
def mirrorsCard : Claim7 := { stood := { row := mirrorsRow, standIns := [], harness := (true, "b5de0a8bf141f646ad37771bcf06137ae07a25160adc37c4db3ad4365ee4a768"), looks := true }, kinds := [], alts := [], laidByText := true, laidKinds := [.data, .data, .data, .handle, .sentinel], laidTests := true, laidLooks := .later }
def MirrorsCardSaid : Prop := Claim7.holds Tryz.pinned (.plain (OpenSpec.ofChange mirrorsSpec)) mirrorsCard

/-- THE TIED CARD OF 'gaugekeep.Reckons'. -/
def reckonsCard : Claim7 := { stood := { row := reckonsRow, standIns := [], harness := (true, "b5de0a8bf141f646ad37771bcf06137ae07a25160adc37c4db3ad4365ee4a768"), looks := true }, kinds := [], alts := [], laidByText := true, laidKinds := [.data, .data, .data, .handle, .sentinel], laidTests := true, laidLooks := .later }
def ReckonsCardSaid : Prop := Claim7.holds Tryz.pinned (.plain (OpenSpec.ofChange reckonsSpec)) reckonsCard

/-- THE TIED CARD OF 'gaugekeep.Typed'. -/
def typedCard : Claim7 := { stood := { row := typedRow, standIns := [], harness := (true, "b5de0a8bf141f646ad37771bcf06137ae07a25160adc37c4db3ad4365ee4a768"), looks := true }, kinds := [], alts := [], laidByText := true, laidKinds := [.data, .data, .data, .handle, .sentinel], laidTests := true, laidLooks := .later }
def TypedCardSaid : Prop := Claim7.holds Tryz.pinned (.plain (OpenSpec.ofChange typedSpec)) typedCard

/-- THE TIED CARD OF 'gaugekeep.Walks'. -/
def walksCard : Claim7 := { stood := { row := walksRow, standIns := [], harness := (true, "b5de0a8bf141f646ad37771bcf06137ae07a25160adc37c4db3ad4365ee4a768"), looks := true }, kinds := [], alts := [], laidByText := true, laidKinds := [.data, .data, .data, .handle, .sentinel], laidTests := true, laidLooks := .later }
def WalksCardSaid : Prop := Claim7.holds Tryz.pinned (.plain (OpenSpec.ofChange walksSpec)) walksCard

/-- THE TIED CARD OF 'gaugekeep.Agrees'. -/
def agreesCard : Claim7 := { stood := { row := agreesRow, standIns := [], harness := (true, "b5de0a8bf141f646ad37771bcf06137ae07a25160adc37c4db3ad4365ee4a768"), looks := true }, kinds := [], alts := [], laidByText := true, laidKinds := [.data, .data, .data, .handle, .sentinel], laidTests := true, laidLooks := .later }
def AgreesCardSaid : Prop := Claim7.holds Tryz.pinned (.plain (OpenSpec.ofChange agreesSpec)) agreesCard

/-- THE SECOND FORM's CARD OF 'gaugelaw.Runs'. -/
def runsUptoCard : Claim7 := { stood := { row := runsUptoRow, standIns := [], harness := (true, "b5de0a8bf141f646ad37771bcf06137ae07a25160adc37c4db3ad4365ee4a768"), looks := true }, kinds := [], alts := [], laidByText := true, laidKinds := [.data, .data, .data, .handle, .sentinel], laidTests := true, laidLooks := .later }
def RunsUptoCardSaid : Prop := Claim7.holds Tryz.pinned (.plain (OpenSpec.upto runsSpec)) runsUptoCard

/-- THE SECOND FORM's CARD OF 'gaugelaw.Compiles'. -/
def compilesUptoCard : Claim7 := { stood := { row := compilesUptoRow, standIns := [], harness := (true, "b5de0a8bf141f646ad37771bcf06137ae07a25160adc37c4db3ad4365ee4a768"), looks := true }, kinds := [], alts := [], laidByText := true, laidKinds := [.data, .data, .data, .handle, .sentinel], laidTests := true, laidLooks := .later }
def CompilesUptoCardSaid : Prop := Claim7.holds Tryz.pinned (.plain (OpenSpec.upto compilesSpec)) compilesUptoCard

/-- THE SECOND FORM's CARD OF 'gaugelaw.Nets'. -/
def netsUptoCard : Claim7 := { stood := { row := netsUptoRow, standIns := [], harness := (true, "b5de0a8bf141f646ad37771bcf06137ae07a25160adc37c4db3ad4365ee4a768"), looks := true }, kinds := [], alts := [], laidByText := true, laidKinds := [.data, .data, .data, .handle, .sentinel, .sentinel, .sentinel, .sentinel, .sentinel], laidTests := true, laidLooks := .later }
def NetsUptoCardSaid : Prop := Claim7.holds Tryz.pinned (.plain (OpenSpec.upto netsSpec)) netsUptoCard

/-- THE SECOND FORM's CARD OF 'gaugekeep.Mirrors'. -/
def mirrorsUptoCard : Claim7 := { stood := { row := mirrorsUptoRow, standIns := [], harness := (true, "b5de0a8bf141f646ad37771bcf06137ae07a25160adc37c4db3ad4365ee4a768"), looks := true }, kinds := [], alts := [], laidByText := true, laidKinds := [.data, .data, .data, .handle, .sentinel], laidTests := true, laidLooks := .later }
def MirrorsUptoCardSaid : Prop := Claim7.holds Tryz.pinned (.plain (OpenSpec.upto mirrorsSpec)) mirrorsUptoCard

/-- THE SECOND FORM's CARD OF 'gaugekeep.Reckons'. -/
def reckonsUptoCard : Claim7 := { stood := { row := reckonsUptoRow, standIns := [], harness := (true, "b5de0a8bf141f646ad37771bcf06137ae07a25160adc37c4db3ad4365ee4a768"), looks := true }, kinds := [], alts := [], laidByText := true, laidKinds := [.data, .data, .data, .handle, .sentinel], laidTests := true, laidLooks := .later }
def ReckonsUptoCardSaid : Prop := Claim7.holds Tryz.pinned (.plain (OpenSpec.upto reckonsSpec)) reckonsUptoCard

/-- THE SECOND FORM's CARD OF 'gaugekeep.Typed'. -/
def typedUptoCard : Claim7 := { stood := { row := typedUptoRow, standIns := [], harness := (true, "b5de0a8bf141f646ad37771bcf06137ae07a25160adc37c4db3ad4365ee4a768"), looks := true }, kinds := [], alts := [], laidByText := true, laidKinds := [.data, .data, .data, .handle, .sentinel], laidTests := true, laidLooks := .later }
def TypedUptoCardSaid : Prop := Claim7.holds Tryz.pinned (.plain (OpenSpec.upto typedSpec)) typedUptoCard

/-- THE SECOND FORM's CARD OF 'gaugekeep.Walks'. -/
def walksUptoCard : Claim7 := { stood := { row := walksUptoRow, standIns := [], harness := (true, "b5de0a8bf141f646ad37771bcf06137ae07a25160adc37c4db3ad4365ee4a768"), looks := true }, kinds := [], alts := [], laidByText := true, laidKinds := [.data, .data, .data, .handle, .sentinel], laidTests := true, laidLooks := .later }
def WalksUptoCardSaid : Prop := Claim7.holds Tryz.pinned (.plain (OpenSpec.upto walksSpec)) walksUptoCard

/-- THE SECOND FORM's CARD OF 'gaugekeep.Agrees'. -/
def agreesUptoCard : Claim7 := { stood := { row := agreesUptoRow, standIns := [], harness := (true, "b5de0a8bf141f646ad37771bcf06137ae07a25160adc37c4db3ad4365ee4a768"), looks := true }, kinds := [], alts := [], laidByText := true, laidKinds := [.data, .data, .data, .handle, .sentinel], laidTests := true, laidLooks := .later }
def AgreesUptoCardSaid : Prop := Claim7.holds Tryz.pinned (.plain (OpenSpec.upto agreesSpec)) agreesUptoCard
end Rows
end Go.Proofs.YthbcfepbkkbjiaaGreatDoor
