/-
  DERIVED. GIVEN WITH THE SEED: THE CARDS: each row of YtapdbeaoakcjeaaGreatDoorRows.lean that lists a variable, with what it lists TIED to the program's text (the seventh form; the later family's looks); each row that meets fmt, with fmt's text TOLD by the authors' own Lean function (tested against real Go, not proved from fmt's source: count such statements apart). THE CARD IS WHAT COUNTS. Prove the row's statement (the work); the ties are given (YtapdbeaoakcjeaaGreatDoorTie.lean); close each card by the builder's one call (the guide's Derived/Test/ToyasCard.lean, 'card_holds'). Laid BY PROGRAM, IN A SANDBOX (cutbox-door.mjs). By AI agents, Wed Nov 11 2026. No macro, syntax, notation, axiom, sorry.
-/
import Derived.Test.YtapdbeaoakcjeaaGreatDoorRows
import GoSem.ClaimSeven
namespace Go.Proofs.YtapdbeaoakcjeaaGreatDoor
namespace Rows

/-- THE TIED CARD OF 'chcsolverlaw03.TermCompare'. -/
def termCompareCard : Claim7 := { stood := { row := termCompareRow, standIns := [], harness := (true, "dd828a4455f30169e015775f63a2a37d0eddca52571539bfac50383c0875b13d"), looks := true }, kinds := [], alts := [], laidByText := true, laidKinds := [.data, .data, .data, .data, .sentinel, .sentinel, .pinned], laidTests := true, laidLooks := .later }
def TermCompareCardSaid : Prop := Claim7.holds Tryz.pinned (.plain (OpenSpec.ofChange termCompareSpec)) termCompareCard

/-- THE TIED CARD OF 'chcsolverlaw03.TermRebuild'. -/
def termRebuildCard : Claim7 := { stood := { row := termRebuildRow, standIns := [], harness := (true, "dd828a4455f30169e015775f63a2a37d0eddca52571539bfac50383c0875b13d"), looks := true }, kinds := [], alts := [], laidByText := true, laidKinds := [.data, .data, .data, .data, .sentinel, .sentinel, .pinned], laidTests := true, laidLooks := .later }
def TermRebuildCardSaid : Prop := Claim7.holds Tryz.pinned (.plain (OpenSpec.ofChange termRebuildSpec)) termRebuildCard

/-- THE TIED CARD OF 'chcsolverlaw03.TermCopies'. -/
def termCopiesCard : Claim7 := { stood := { row := termCopiesRow, standIns := [], harness := (true, "dd828a4455f30169e015775f63a2a37d0eddca52571539bfac50383c0875b13d"), looks := true }, kinds := [], alts := [], laidByText := true, laidKinds := [.data, .data, .data, .data, .sentinel, .sentinel, .pinned], laidTests := true, laidLooks := .later }
def TermCopiesCardSaid : Prop := Claim7.holds Tryz.pinned (.plain (OpenSpec.ofChange termCopiesSpec)) termCopiesCard

/-- THE TIED CARD OF 'chcsolverlaw03.TermNew'. -/
def termNewCard : Claim7 := { stood := { row := termNewRow, standIns := [], harness := (true, "dd828a4455f30169e015775f63a2a37d0eddca52571539bfac50383c0875b13d"), looks := true }, kinds := [], alts := [], laidByText := true, laidKinds := [.data, .data, .data, .data, .sentinel, .sentinel, .pinned], laidTests := true, laidLooks := .later }
def TermNewCardSaid : Prop := Claim7.holds Tryz.pinned (.plain (OpenSpec.ofChange termNewSpec)) termNewCard

/-- THE SECOND FORM's CARD OF 'chcsolverlaw03.TermCompare'. -/
def termCompareUptoCard : Claim7 := { stood := { row := termCompareUptoRow, standIns := [], harness := (true, "dd828a4455f30169e015775f63a2a37d0eddca52571539bfac50383c0875b13d"), looks := true }, kinds := [], alts := [], laidByText := true, laidKinds := [.data, .data, .data, .data, .sentinel, .sentinel, .pinned], laidTests := true, laidLooks := .later }
def TermCompareUptoCardSaid : Prop := Claim7.holds Tryz.pinned (.plain (OpenSpec.upto termCompareSpec)) termCompareUptoCard

/-- THE SECOND FORM's CARD OF 'chcsolverlaw03.TermRebuild'. -/
def termRebuildUptoCard : Claim7 := { stood := { row := termRebuildUptoRow, standIns := [], harness := (true, "dd828a4455f30169e015775f63a2a37d0eddca52571539bfac50383c0875b13d"), looks := true }, kinds := [], alts := [], laidByText := true, laidKinds := [.data, .data, .data, .data, .sentinel, .sentinel, .pinned], laidTests := true, laidLooks := .later }
def TermRebuildUptoCardSaid : Prop := Claim7.holds Tryz.pinned (.plain (OpenSpec.upto termRebuildSpec)) termRebuildUptoCard

/-- THE SECOND FORM's CARD OF 'chcsolverlaw03.TermCopies'. -/
def termCopiesUptoCard : Claim7 := { stood := { row := termCopiesUptoRow, standIns := [], harness := (true, "dd828a4455f30169e015775f63a2a37d0eddca52571539bfac50383c0875b13d"), looks := true }, kinds := [], alts := [], laidByText := true, laidKinds := [.data, .data, .data, .data, .sentinel, .sentinel, .pinned], laidTests := true, laidLooks := .later }
def TermCopiesUptoCardSaid : Prop := Claim7.holds Tryz.pinned (.plain (OpenSpec.upto termCopiesSpec)) termCopiesUptoCard

/-- THE SECOND FORM's CARD OF 'chcsolverlaw03.TermNew'. -/
def termNewUptoCard : Claim7 := { stood := { row := termNewUptoRow, standIns := [], harness := (true, "dd828a4455f30169e015775f63a2a37d0eddca52571539bfac50383c0875b13d"), looks := true }, kinds := [], alts := [], laidByText := true, laidKinds := [.data, .data, .data, .data, .sentinel, .sentinel, .pinned], laidTests := true, laidLooks := .later }
def TermNewUptoCardSaid : Prop := Claim7.holds Tryz.pinned (.plain (OpenSpec.upto termNewSpec)) termNewUptoCard
end Rows
end Go.Proofs.YtapdbeaoakcjeaaGreatDoor
