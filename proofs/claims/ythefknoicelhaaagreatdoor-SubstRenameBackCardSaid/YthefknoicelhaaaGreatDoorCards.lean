/-
  DERIVED. GIVEN WITH THE SEED: THE CARDS: each row of YthefknoicelhaaaGreatDoorRows.lean that lists a variable, with what it lists TIED to the program's text (the seventh form; the later family's looks); each row that meets fmt, with fmt's text TOLD by the authors' own Lean function (tested against real Go, not proved from fmt's source: count such statements apart). THE CARD IS WHAT COUNTS. Prove the row's statement (the work); the ties are given (YthefknoicelhaaaGreatDoorTie.lean); close each card by the builder's one call (the guide's Derived/Test/ToyasCard.lean, 'card_holds'). Laid BY PROGRAM, IN A SANDBOX (cutbox-door.mjs). By AI agents, Wed Nov 11 2026. No macro, syntax, notation, axiom, sorry.
-/
import Derived.Test.YthefknoicelhaaaGreatDoorRows
import GoSem.ClaimSeven
namespace Go.Proofs.YthefknoicelhaaaGreatDoor
namespace Rows

/-- THE TIED CARD OF 'chcsolverlaw05.SubstRename'. -/
def substRenameCard : Claim7 := { stood := { row := substRenameRow, standIns := [], harness := (true, "631eaeed87567f2845bee747b4a9479e8562e07fcbf0ac31fd1980b32b460625"), looks := true }, kinds := [], alts := [], laidByText := true, laidKinds := [.data, .data, .data, .sentinel, .sentinel], laidTests := true, laidLooks := .later }
def SubstRenameCardSaid : Prop := Claim7.holds Tryz.pinned (.plain (OpenSpec.ofChange substRenameSpec)) substRenameCard

/-- THE TIED CARD OF 'chcsolverlaw05.SubstRenameBack'. -/
def substRenameBackCard : Claim7 := { stood := { row := substRenameBackRow, standIns := [], harness := (true, "631eaeed87567f2845bee747b4a9479e8562e07fcbf0ac31fd1980b32b460625"), looks := true }, kinds := [], alts := [], laidByText := true, laidKinds := [.data, .data, .data, .sentinel, .sentinel], laidTests := true, laidLooks := .later }
def SubstRenameBackCardSaid : Prop := Claim7.holds Tryz.pinned (.plain (OpenSpec.ofChange substRenameBackSpec)) substRenameBackCard

/-- THE TIED CARD OF 'chcsolverlaw05.SubstFresh'. -/
def substFreshCard : Claim7 := { stood := { row := substFreshRow, standIns := [], harness := (true, "631eaeed87567f2845bee747b4a9479e8562e07fcbf0ac31fd1980b32b460625"), looks := true }, kinds := [], alts := [], laidByText := true, laidKinds := [.data, .data, .data, .sentinel, .sentinel], laidTests := true, laidLooks := .later }
def SubstFreshCardSaid : Prop := Claim7.holds Tryz.pinned (.plain (OpenSpec.ofChange substFreshSpec)) substFreshCard

/-- THE SECOND FORM's CARD OF 'chcsolverlaw05.SubstRename'. -/
def substRenameUptoCard : Claim7 := { stood := { row := substRenameUptoRow, standIns := [], harness := (true, "631eaeed87567f2845bee747b4a9479e8562e07fcbf0ac31fd1980b32b460625"), looks := true }, kinds := [], alts := [], laidByText := true, laidKinds := [.data, .data, .data, .sentinel, .sentinel], laidTests := true, laidLooks := .later }
def SubstRenameUptoCardSaid : Prop := Claim7.holds Tryz.pinned (.plain (OpenSpec.upto substRenameSpec)) substRenameUptoCard

/-- THE SECOND FORM's CARD OF 'chcsolverlaw05.SubstRenameBack'. -/
def substRenameBackUptoCard : Claim7 := { stood := { row := substRenameBackUptoRow, standIns := [], harness := (true, "631eaeed87567f2845bee747b4a9479e8562e07fcbf0ac31fd1980b32b460625"), looks := true }, kinds := [], alts := [], laidByText := true, laidKinds := [.data, .data, .data, .sentinel, .sentinel], laidTests := true, laidLooks := .later }
def SubstRenameBackUptoCardSaid : Prop := Claim7.holds Tryz.pinned (.plain (OpenSpec.upto substRenameBackSpec)) substRenameBackUptoCard

/-- THE SECOND FORM's CARD OF 'chcsolverlaw05.SubstFresh'. -/
def substFreshUptoCard : Claim7 := { stood := { row := substFreshUptoRow, standIns := [], harness := (true, "631eaeed87567f2845bee747b4a9479e8562e07fcbf0ac31fd1980b32b460625"), looks := true }, kinds := [], alts := [], laidByText := true, laidKinds := [.data, .data, .data, .sentinel, .sentinel], laidTests := true, laidLooks := .later }
def SubstFreshUptoCardSaid : Prop := Claim7.holds Tryz.pinned (.plain (OpenSpec.upto substFreshSpec)) substFreshUptoCard
end Rows
end Go.Proofs.YthefknoicelhaaaGreatDoor
