/-
  DERIVED. GIVEN WITH THE SEED: THE CARDS: each row of YtgfoljpjdmeooaaGreatDoorRows.lean that lists a variable, with what it lists TIED to the program's text (the seventh form; the later family's looks); each row that meets fmt, with fmt's text TOLD by the authors' own Lean function (tested against real Go, not proved from fmt's source: count such statements apart). THE CARD IS WHAT COUNTS. Prove the row's statement (the work); the ties are given (YtgfoljpjdmeooaaGreatDoorTie.lean); close each card by the builder's one call (the guide's Derived/Test/ToyasCard.lean, 'card_holds'). Laid BY PROGRAM, IN A SANDBOX (cutbox-door.mjs). By AI agents, Wed Nov 11 2026. No macro, syntax, notation, axiom, sorry.
-/
import Derived.Test.YtgfoljpjdmeooaaGreatDoorRows
import GoSem.ClaimSeven
namespace Go.Proofs.YtgfoljpjdmeooaaGreatDoor
namespace Rows

/-- THE TIED CARD OF 'chcsolverlaw06.LinearSpace'. -/
def linearSpaceCard : Claim7 := { stood := { row := linearSpaceRow, standIns := [], harness := (true, "5a6d873418beecbf21b78aec67b3c40218d54e8a53ed75dd09df462a8dd313e6"), looks := true }, kinds := [], alts := [], laidByText := true, laidKinds := [.data, .data, .data, .sentinel, .sentinel], laidTests := true, laidLooks := .later }
def LinearSpaceCardSaid : Prop := Claim7.holds Tryz.pinned (.plain (OpenSpec.ofChange linearSpaceSpec)) linearSpaceCard

/-- THE TIED CARD OF 'chcsolverlaw06.LinearScaled'. -/
def linearScaledCard : Claim7 := { stood := { row := linearScaledRow, standIns := [], harness := (true, "5a6d873418beecbf21b78aec67b3c40218d54e8a53ed75dd09df462a8dd313e6"), looks := true }, kinds := [], alts := [], laidByText := true, laidKinds := [.data, .data, .data, .sentinel, .sentinel], laidTests := true, laidLooks := .later }
def LinearScaledCardSaid : Prop := Claim7.holds Tryz.pinned (.plain (OpenSpec.ofChange linearScaledSpec)) linearScaledCard

/-- THE TIED CARD OF 'chcsolverlaw06.LinearValid'. -/
def linearValidCard : Claim7 := { stood := { row := linearValidRow, standIns := [], harness := (true, "5a6d873418beecbf21b78aec67b3c40218d54e8a53ed75dd09df462a8dd313e6"), looks := true }, kinds := [], alts := [], laidByText := true, laidKinds := [.data, .data, .data, .sentinel, .sentinel], laidTests := true, laidLooks := .later }
def LinearValidCardSaid : Prop := Claim7.holds Tryz.pinned (.plain (OpenSpec.ofChange linearValidSpec)) linearValidCard

/-- THE TIED CARD OF 'chcsolverlaw06.LinearOperations'. -/
def linearOperationsCard : Claim7 := { stood := { row := linearOperationsRow, standIns := [], harness := (true, "5a6d873418beecbf21b78aec67b3c40218d54e8a53ed75dd09df462a8dd313e6"), looks := true }, kinds := [], alts := [], laidByText := true, laidKinds := [.data, .data, .data, .sentinel, .sentinel], laidTests := true, laidLooks := .later }
def LinearOperationsCardSaid : Prop := Claim7.holds Tryz.pinned (.plain (OpenSpec.ofChange linearOperationsSpec)) linearOperationsCard

/-- THE TIED CARD OF 'chcsolverlaw06.LinearNormalMeaning'. -/
def linearNormalMeaningCard : Claim7 := { stood := { row := linearNormalMeaningRow, standIns := [], harness := (true, "5a6d873418beecbf21b78aec67b3c40218d54e8a53ed75dd09df462a8dd313e6"), looks := true }, kinds := [], alts := [], laidByText := true, laidKinds := [.data, .data, .data, .sentinel, .sentinel], laidTests := true, laidLooks := .later }
def LinearNormalMeaningCardSaid : Prop := Claim7.holds Tryz.pinned (.plain (OpenSpec.ofChange linearNormalMeaningSpec)) linearNormalMeaningCard

/-- THE TIED CARD OF 'chcsolverlaw06.LinearSolve'. -/
def linearSolveCard : Claim7 := { stood := { row := linearSolveRow, standIns := [], harness := (true, "5a6d873418beecbf21b78aec67b3c40218d54e8a53ed75dd09df462a8dd313e6"), looks := true }, kinds := [], alts := [], laidByText := true, laidKinds := [.data, .data, .data, .sentinel, .sentinel], laidTests := true, laidLooks := .later }
def LinearSolveCardSaid : Prop := Claim7.holds Tryz.pinned (.plain (OpenSpec.ofChange linearSolveSpec)) linearSolveCard

/-- THE SECOND FORM's CARD OF 'chcsolverlaw06.LinearSpace'. -/
def linearSpaceUptoCard : Claim7 := { stood := { row := linearSpaceUptoRow, standIns := [], harness := (true, "5a6d873418beecbf21b78aec67b3c40218d54e8a53ed75dd09df462a8dd313e6"), looks := true }, kinds := [], alts := [], laidByText := true, laidKinds := [.data, .data, .data, .sentinel, .sentinel], laidTests := true, laidLooks := .later }
def LinearSpaceUptoCardSaid : Prop := Claim7.holds Tryz.pinned (.plain (OpenSpec.upto linearSpaceSpec)) linearSpaceUptoCard

/-- THE SECOND FORM's CARD OF 'chcsolverlaw06.LinearScaled'. -/
def linearScaledUptoCard : Claim7 := { stood := { row := linearScaledUptoRow, standIns := [], harness := (true, "5a6d873418beecbf21b78aec67b3c40218d54e8a53ed75dd09df462a8dd313e6"), looks := true }, kinds := [], alts := [], laidByText := true, laidKinds := [.data, .data, .data, .sentinel, .sentinel], laidTests := true, laidLooks := .later }
def LinearScaledUptoCardSaid : Prop := Claim7.holds Tryz.pinned (.plain (OpenSpec.upto linearScaledSpec)) linearScaledUptoCard

/-- THE SECOND FORM's CARD OF 'chcsolverlaw06.LinearValid'. -/
def linearValidUptoCard : Claim7 := { stood := { row := linearValidUptoRow, standIns := [], harness := (true, "5a6d873418beecbf21b78aec67b3c40218d54e8a53ed75dd09df462a8dd313e6"), looks := true }, kinds := [], alts := [], laidByText := true, laidKinds := [.data, .data, .data, .sentinel, .sentinel], laidTests := true, laidLooks := .later }
def LinearValidUptoCardSaid : Prop := Claim7.holds Tryz.pinned (.plain (OpenSpec.upto linearValidSpec)) linearValidUptoCard

/-- THE SECOND FORM's CARD OF 'chcsolverlaw06.LinearOperations'. -/
def linearOperationsUptoCard : Claim7 := { stood := { row := linearOperationsUptoRow, standIns := [], harness := (true, "5a6d873418beecbf21b78aec67b3c40218d54e8a53ed75dd09df462a8dd313e6"), looks := true }, kinds := [], alts := [], laidByText := true, laidKinds := [.data, .data, .data, .sentinel, .sentinel], laidTests := true, laidLooks := .later }
def LinearOperationsUptoCardSaid : Prop := Claim7.holds Tryz.pinned (.plain (OpenSpec.upto linearOperationsSpec)) linearOperationsUptoCard

/-- THE SECOND FORM's CARD OF 'chcsolverlaw06.LinearNormalMeaning'. -/
def linearNormalMeaningUptoCard : Claim7 := { stood := { row := linearNormalMeaningUptoRow, standIns := [], harness := (true, "5a6d873418beecbf21b78aec67b3c40218d54e8a53ed75dd09df462a8dd313e6"), looks := true }, kinds := [], alts := [], laidByText := true, laidKinds := [.data, .data, .data, .sentinel, .sentinel], laidTests := true, laidLooks := .later }
def LinearNormalMeaningUptoCardSaid : Prop := Claim7.holds Tryz.pinned (.plain (OpenSpec.upto linearNormalMeaningSpec)) linearNormalMeaningUptoCard

/-- THE SECOND FORM's CARD OF 'chcsolverlaw06.LinearSolve'. -/
def linearSolveUptoCard : Claim7 := { stood := { row := linearSolveUptoRow, standIns := [], harness := (true, "5a6d873418beecbf21b78aec67b3c40218d54e8a53ed75dd09df462a8dd313e6"), looks := true }, kinds := [], alts := [], laidByText := true, laidKinds := [.data, .data, .data, .sentinel, .sentinel], laidTests := true, laidLooks := .later }
def LinearSolveUptoCardSaid : Prop := Claim7.holds Tryz.pinned (.plain (OpenSpec.upto linearSolveSpec)) linearSolveUptoCard
end Rows
end Go.Proofs.YtgfoljpjdmeooaaGreatDoor
