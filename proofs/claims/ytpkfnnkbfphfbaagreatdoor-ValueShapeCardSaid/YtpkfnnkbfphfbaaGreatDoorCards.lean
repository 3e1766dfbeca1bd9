/-
  DERIVED. GIVEN WITH THE SEED: THE CARDS: each row of YtpkfnnkbfphfbaaGreatDoorRows.lean that lists a variable, with what it lists TIED to the program's text (the seventh form; the later family's looks); each row that meets fmt, with fmt's text TOLD by the authors' own Lean function (tested against real Go, not proved from fmt's source: count such statements apart). THE CARD IS WHAT COUNTS. Prove the row's statement (the work); the ties are given (YtpkfnnkbfphfbaaGreatDoorTie.lean); close each card by the builder's one call (the guide's Derived/Test/ToyasCard.lean, 'card_holds'). Laid BY PROGRAM, IN A SANDBOX (cutbox-door.mjs). By AI agents, Wed Nov 11 2026. No macro, syntax, notation, axiom, sorry.
-/
import Derived.Test.YtpkfnnkbfphfbaaGreatDoorRows
import GoSem.ClaimSeven
namespace Go.Proofs.YtpkfnnkbfphfbaaGreatDoor
namespace Rows

/-- THE TIED CARD OF 'chcsolverlaw04.ValueZero'. -/
def valueZeroCard : Claim7 := { stood := { row := valueZeroRow, standIns := [], harness := (true, "84b9ff7d33094a985a7dcff6e8fc3451eacc999d3d5407efd3fdf55a2485d9ee"), looks := true }, kinds := [], alts := [], laidByText := true, laidKinds := [.data, .data, .data, .sentinel, .sentinel], laidTests := true, laidLooks := .later }
def ValueZeroCardSaid : Prop := Claim7.holds Tryz.pinned (.plain (OpenSpec.ofChange valueZeroSpec)) valueZeroCard

/-- THE TIED CARD OF 'chcsolverlaw04.ValueArrays'. -/
def valueArraysCard : Claim7 := { stood := { row := valueArraysRow, standIns := [], harness := (true, "84b9ff7d33094a985a7dcff6e8fc3451eacc999d3d5407efd3fdf55a2485d9ee"), looks := true }, kinds := [], alts := [], laidByText := true, laidKinds := [.data, .data, .data, .sentinel, .sentinel], laidTests := true, laidLooks := .later }
def ValueArraysCardSaid : Prop := Claim7.holds Tryz.pinned (.plain (OpenSpec.ofChange valueArraysSpec)) valueArraysCard

/-- THE TIED CARD OF 'chcsolverlaw04.ValueStoreLaws'. -/
def valueStoreLawsCard : Claim7 := { stood := { row := valueStoreLawsRow, standIns := [], harness := (true, "84b9ff7d33094a985a7dcff6e8fc3451eacc999d3d5407efd3fdf55a2485d9ee"), looks := true }, kinds := [], alts := [], laidByText := true, laidKinds := [.data, .data, .data, .sentinel, .sentinel], laidTests := true, laidLooks := .later }
def ValueStoreLawsCardSaid : Prop := Claim7.holds Tryz.pinned (.plain (OpenSpec.ofChange valueStoreLawsSpec)) valueStoreLawsCard

/-- THE TIED CARD OF 'chcsolverlaw04.ValueExtensional'. -/
def valueExtensionalCard : Claim7 := { stood := { row := valueExtensionalRow, standIns := [], harness := (true, "84b9ff7d33094a985a7dcff6e8fc3451eacc999d3d5407efd3fdf55a2485d9ee"), looks := true }, kinds := [], alts := [], laidByText := true, laidKinds := [.data, .data, .data, .sentinel, .sentinel], laidTests := true, laidLooks := .later }
def ValueExtensionalCardSaid : Prop := Claim7.holds Tryz.pinned (.plain (OpenSpec.ofChange valueExtensionalSpec)) valueExtensionalCard

/-- THE TIED CARD OF 'chcsolverlaw04.ValueShape'. -/
def valueShapeCard : Claim7 := { stood := { row := valueShapeRow, standIns := [], harness := (true, "84b9ff7d33094a985a7dcff6e8fc3451eacc999d3d5407efd3fdf55a2485d9ee"), looks := true }, kinds := [], alts := [], laidByText := true, laidKinds := [.data, .data, .data, .sentinel, .sentinel], laidTests := true, laidLooks := .later }
def ValueShapeCardSaid : Prop := Claim7.holds Tryz.pinned (.plain (OpenSpec.ofChange valueShapeSpec)) valueShapeCard

/-- THE SECOND FORM's CARD OF 'chcsolverlaw04.ValueZero'. -/
def valueZeroUptoCard : Claim7 := { stood := { row := valueZeroUptoRow, standIns := [], harness := (true, "84b9ff7d33094a985a7dcff6e8fc3451eacc999d3d5407efd3fdf55a2485d9ee"), looks := true }, kinds := [], alts := [], laidByText := true, laidKinds := [.data, .data, .data, .sentinel, .sentinel], laidTests := true, laidLooks := .later }
def ValueZeroUptoCardSaid : Prop := Claim7.holds Tryz.pinned (.plain (OpenSpec.upto valueZeroSpec)) valueZeroUptoCard

/-- THE SECOND FORM's CARD OF 'chcsolverlaw04.ValueArrays'. -/
def valueArraysUptoCard : Claim7 := { stood := { row := valueArraysUptoRow, standIns := [], harness := (true, "84b9ff7d33094a985a7dcff6e8fc3451eacc999d3d5407efd3fdf55a2485d9ee"), looks := true }, kinds := [], alts := [], laidByText := true, laidKinds := [.data, .data, .data, .sentinel, .sentinel], laidTests := true, laidLooks := .later }
def ValueArraysUptoCardSaid : Prop := Claim7.holds Tryz.pinned (.plain (OpenSpec.upto valueArraysSpec)) valueArraysUptoCard

/-- THE SECOND FORM's CARD OF 'chcsolverlaw04.ValueStoreLaws'. -/
def valueStoreLawsUptoCard : Claim7 := { stood := { row := valueStoreLawsUptoRow, standIns := [], harness := (true, "84b9ff7d33094a985a7dcff6e8fc3451eacc999d3d5407efd3fdf55a2485d9ee"), looks := true }, kinds := [], alts := [], laidByText := true, laidKinds := [.data, .data, .data, .sentinel, .sentinel], laidTests := true, laidLooks := .later }
def ValueStoreLawsUptoCardSaid : Prop := Claim7.holds Tryz.pinned (.plain (OpenSpec.upto valueStoreLawsSpec)) valueStoreLawsUptoCard

/-- THE SECOND FORM's CARD OF 'chcsolverlaw04.ValueExtensional'. -/
def valueExtensionalUptoCard : Claim7 := { stood := { row := valueExtensionalUptoRow, standIns := [], harness := (true, "84b9ff7d33094a985a7dcff6e8fc3451eacc999d3d5407efd3fdf55a2485d9ee"), looks := true }, kinds := [], alts := [], laidByText := true, laidKinds := [.data, .data, .data, .sentinel, .sentinel], laidTests := true, laidLooks := .later }
def ValueExtensionalUptoCardSaid : Prop := Claim7.holds Tryz.pinned (.plain (OpenSpec.upto valueExtensionalSpec)) valueExtensionalUptoCard

/-- THE SECOND FORM's CARD OF 'chcsolverlaw04.ValueShape'. -/
def valueShapeUptoCard : Claim7 := { stood := { row := valueShapeUptoRow, standIns := [], harness := (true, "84b9ff7d33094a985a7dcff6e8fc3451eacc999d3d5407efd3fdf55a2485d9ee"), looks := true }, kinds := [], alts := [], laidByText := true, laidKinds := [.data, .data, .data, .sentinel, .sentinel], laidTests := true, laidLooks := .later }
def ValueShapeUptoCardSaid : Prop := Claim7.holds Tryz.pinned (.plain (OpenSpec.upto valueShapeSpec)) valueShapeUptoCard
end Rows
end Go.Proofs.YtpkfnnkbfphfbaaGreatDoor
