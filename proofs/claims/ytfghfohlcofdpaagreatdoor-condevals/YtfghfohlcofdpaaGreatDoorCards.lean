/-
  DERIVED. GIVEN WITH THE SEED: THE CARDS: each row of YtfghfohlcofdpaaGreatDoorRows.lean that lists a variable, with what it lists TIED to the program's text (the seventh form; the later family's looks); each row that meets fmt, with fmt's text TOLD by the authors' own Lean function (tested against real Go, not proved from fmt's source: count such statements apart). THE CARD IS WHAT COUNTS. Prove the row's statement (the work); the ties are given (YtfghfohlcofdpaaGreatDoorTie.lean); close each card by the builder's one call (the guide's Derived/Test/ToyasCard.lean, 'card_holds'). Laid BY PROGRAM, IN A SANDBOX (cutbox-door.mjs). By AI agents, Wed Nov 11 2026. No macro, syntax, notation, axiom, sorry.
-/
import Derived.Test.YtfghfohlcofdpaaGreatDoorRows
import GoSem.ClaimSeven
namespace Go.Proofs.YtfghfohlcofdpaaGreatDoor
namespace Rows

/-- THE TIED CARD OF 'burinlaw05.CondEvals'. -/
def condEvalsCard : Claim7 := { stood := { row := condEvalsRow, standIns := [], harness := (true, "1aa21576bffd33f2be0dc17b12147f8cd03b224d2505b7bc02a62be8769b6c50"), looks := true }, kinds := [], alts := [], laidByText := true, laidKinds := [.data, .data, .data, .sentinel, .sentinel, .data], laidTests := true, laidLooks := .later }
def CondEvalsCardSaid : Prop := Claim7.holds Tryz.pinned (.plain (OpenSpec.ofChange condEvalsSpec)) condEvalsCard

/-- THE TIED CARD OF 'burinlaw05.CondLines'. -/
def condLinesCard : Claim7 := { stood := { row := condLinesRow, standIns := [], harness := (true, "1aa21576bffd33f2be0dc17b12147f8cd03b224d2505b7bc02a62be8769b6c50"), looks := true }, kinds := [], alts := [], laidByText := true, laidKinds := [.data, .data, .data, .sentinel, .sentinel, .data], laidTests := true, laidLooks := .later }
def CondLinesCardSaid : Prop := Claim7.holds Tryz.pinned (.plain (OpenSpec.ofChange condLinesSpec)) condLinesCard

/-- THE SECOND FORM's CARD OF 'burinlaw05.CondEvals'. -/
def condEvalsUptoCard : Claim7 := { stood := { row := condEvalsUptoRow, standIns := [], harness := (true, "1aa21576bffd33f2be0dc17b12147f8cd03b224d2505b7bc02a62be8769b6c50"), looks := true }, kinds := [], alts := [], laidByText := true, laidKinds := [.data, .data, .data, .sentinel, .sentinel, .data], laidTests := true, laidLooks := .later }
def CondEvalsUptoCardSaid : Prop := Claim7.holds Tryz.pinned (.plain (OpenSpec.upto condEvalsSpec)) condEvalsUptoCard

/-- THE SECOND FORM's CARD OF 'burinlaw05.CondLines'. -/
def condLinesUptoCard : Claim7 := { stood := { row := condLinesUptoRow, standIns := [], harness := (true, "1aa21576bffd33f2be0dc17b12147f8cd03b224d2505b7bc02a62be8769b6c50"), looks := true }, kinds := [], alts := [], laidByText := true, laidKinds := [.data, .data, .data, .sentinel, .sentinel, .data], laidTests := true, laidLooks := .later }
def CondLinesUptoCardSaid : Prop := Claim7.holds Tryz.pinned (.plain (OpenSpec.upto condLinesSpec)) condLinesUptoCard
end Rows
end Go.Proofs.YtfghfohlcofdpaaGreatDoor
