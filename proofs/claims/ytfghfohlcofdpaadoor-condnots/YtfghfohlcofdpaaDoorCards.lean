/-
  DERIVED. GIVEN WITH THE SEED: THE CARDS: each row of YtfghfohlcofdpaaDoorRows.lean that lists a variable, with what it lists TIED to the program's text (the seventh form; the later family's looks); each row that meets fmt, with fmt's text TOLD by the authors' own Lean function (tested against real Go, not proved from fmt's source: count such statements apart). THE CARD IS WHAT COUNTS. Prove the row's statement (the work); the ties are given (YtfghfohlcofdpaaDoorTie.lean); close each card by the builder's one call (the guide's Derived/Test/ToyasCard.lean, 'card_holds'). Laid BY PROGRAM, IN A SANDBOX (cutbox-door.mjs). By AI agents, Wed Nov 11 2026. No macro, syntax, notation, axiom, sorry.
-/
import Derived.Test.YtfghfohlcofdpaaDoorRows
import GoSem.ClaimSeven
namespace Go.Proofs.YtfghfohlcofdpaaDoor
namespace Rows

/-- THE TIED CARD OF 'burinlaw05.CondNumbers'. -/
def condNumbersCard : Claim7 := { stood := { row := condNumbersRow, standIns := [], harness := (true, "638fc85a0055f32b3621eb2316f4ddbc630fb1c42b6cb568db67ad42ee522ea2"), looks := true }, kinds := [], alts := [], laidByText := true, laidKinds := [.data, .data, .data, .sentinel, .sentinel, .data], laidTests := true, laidLooks := .later }
def CondNumbersCardSaid : Prop := Claim7.holds Tryd.pinned (.plain (OpenSpec.ofChange condNumbersSpec)) condNumbersCard

/-- THE TIED CARD OF 'burinlaw05.CondBrackets'. -/
def condBracketsCard : Claim7 := { stood := { row := condBracketsRow, standIns := [], harness := (true, "638fc85a0055f32b3621eb2316f4ddbc630fb1c42b6cb568db67ad42ee522ea2"), looks := true }, kinds := [], alts := [], laidByText := true, laidKinds := [.data, .data, .data, .sentinel, .sentinel, .data], laidTests := true, laidLooks := .later }
def CondBracketsCardSaid : Prop := Claim7.holds Tryd.pinned (.plain (OpenSpec.ofChange condBracketsSpec)) condBracketsCard

/-- THE TIED CARD OF 'burinlaw05.CondSmall'. -/
def condSmallCard : Claim7 := { stood := { row := condSmallRow, standIns := [], harness := (true, "638fc85a0055f32b3621eb2316f4ddbc630fb1c42b6cb568db67ad42ee522ea2"), looks := true }, kinds := [], alts := [], laidByText := true, laidKinds := [.data, .data, .data, .sentinel, .sentinel, .data], laidTests := true, laidLooks := .later }
def CondSmallCardSaid : Prop := Claim7.holds Tryd.pinned (.plain (OpenSpec.ofChange condSmallSpec)) condSmallCard

/-- THE TIED CARD OF 'burinlaw05.CondSame'. -/
def condSameCard : Claim7 := { stood := { row := condSameRow, standIns := [], harness := (true, "638fc85a0055f32b3621eb2316f4ddbc630fb1c42b6cb568db67ad42ee522ea2"), looks := true }, kinds := [], alts := [], laidByText := true, laidKinds := [.data, .data, .data, .sentinel, .sentinel, .data], laidTests := true, laidLooks := .later }
def CondSameCardSaid : Prop := Claim7.holds Tryd.pinned (.plain (OpenSpec.ofChange condSameSpec)) condSameCard

/-- THE TIED CARD OF 'burinlaw05.CondNots'. -/
def condNotsCard : Claim7 := { stood := { row := condNotsRow, standIns := [], harness := (true, "638fc85a0055f32b3621eb2316f4ddbc630fb1c42b6cb568db67ad42ee522ea2"), looks := true }, kinds := [], alts := [], laidByText := true, laidKinds := [.data, .data, .data, .sentinel, .sentinel, .data], laidTests := true, laidLooks := .later }
def CondNotsCardSaid : Prop := Claim7.holds Tryd.pinned (.plain (OpenSpec.ofChange condNotsSpec)) condNotsCard

/-- THE SECOND FORM's CARD OF 'burinlaw05.CondNumbers'. -/
def condNumbersUptoCard : Claim7 := { stood := { row := condNumbersUptoRow, standIns := [], harness := (true, "638fc85a0055f32b3621eb2316f4ddbc630fb1c42b6cb568db67ad42ee522ea2"), looks := true }, kinds := [], alts := [], laidByText := true, laidKinds := [.data, .data, .data, .sentinel, .sentinel, .data], laidTests := true, laidLooks := .later }
def CondNumbersUptoCardSaid : Prop := Claim7.holds Tryd.pinned (.plain (OpenSpec.upto condNumbersSpec)) condNumbersUptoCard

/-- THE SECOND FORM's CARD OF 'burinlaw05.CondBrackets'. -/
def condBracketsUptoCard : Claim7 := { stood := { row := condBracketsUptoRow, standIns := [], harness := (true, "638fc85a0055f32b3621eb2316f4ddbc630fb1c42b6cb568db67ad42ee522ea2"), looks := true }, kinds := [], alts := [], laidByText := true, laidKinds := [.data, .data, .data, .sentinel, .sentinel, .data], laidTests := true, laidLooks := .later }
def CondBracketsUptoCardSaid : Prop := Claim7.holds Tryd.pinned (.plain (OpenSpec.upto condBracketsSpec)) condBracketsUptoCard

/-- THE SECOND FORM's CARD OF 'burinlaw05.CondSmall'. -/
def condSmallUptoCard : Claim7 := { stood := { row := condSmallUptoRow, standIns := [], harness := (true, "638fc85a0055f32b3621eb2316f4ddbc630fb1c42b6cb568db67ad42ee522ea2"), looks := true }, kinds := [], alts := [], laidByText := true, laidKinds := [.data, .data, .data, .sentinel, .sentinel, .data], laidTests := true, laidLooks := .later }
def CondSmallUptoCardSaid : Prop := Claim7.holds Tryd.pinned (.plain (OpenSpec.upto condSmallSpec)) condSmallUptoCard

/-- THE SECOND FORM's CARD OF 'burinlaw05.CondSame'. -/
def condSameUptoCard : Claim7 := { stood := { row := condSameUptoRow, standIns := [], harness := (true, "638fc85a0055f32b3621eb2316f4ddbc630fb1c42b6cb568db67ad42ee522ea2"), looks := true }, kinds := [], alts := [], laidByText := true, laidKinds := [.data, .data, .data, .sentinel, .sentinel, .data], laidTests := true, laidLooks := .later }
def CondSameUptoCardSaid : Prop := Claim7.holds Tryd.pinned (.plain (OpenSpec.upto condSameSpec)) condSameUptoCard

/-- THE SECOND FORM's CARD OF 'burinlaw05.CondNots'. -/
def condNotsUptoCard : Claim7 := { stood := { row := condNotsUptoRow, standIns := [], harness := (true, "638fc85a0055f32b3621eb2316f4ddbc630fb1c42b6cb568db67ad42ee522ea2"), looks := true }, kinds := [], alts := [], laidByText := true, laidKinds := [.data, .data, .data, .sentinel, .sentinel, .data], laidTests := true, laidLooks := .later }
def CondNotsUptoCardSaid : Prop := Claim7.holds Tryd.pinned (.plain (OpenSpec.upto condNotsSpec)) condNotsUptoCard
end Rows
end Go.Proofs.YtfghfohlcofdpaaDoor
