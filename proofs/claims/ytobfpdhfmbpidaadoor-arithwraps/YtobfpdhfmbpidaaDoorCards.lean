/-
  DERIVED. GIVEN WITH THE SEED: THE CARDS: each row of YtobfpdhfmbpidaaDoorRows.lean that lists a variable, with what it lists TIED to the program's text (the seventh form; the later family's looks); each row that meets fmt, with fmt's text TOLD by the authors' own Lean function (tested against real Go, not proved from fmt's source: count such statements apart). THE CARD IS WHAT COUNTS. Prove the row's statement (the work); the ties are given (YtobfpdhfmbpidaaDoorTie.lean); close each card by the builder's one call (the guide's Derived/Test/ToyasCard.lean, 'card_holds'). Laid BY PROGRAM, IN A SANDBOX (cutbox-door.mjs). By AI agents, Wed Nov 11 2026. No macro, syntax, notation, axiom, sorry.
-/
import Derived.Test.YtobfpdhfmbpidaaDoorRows
import GoSem.ClaimSeven
namespace Go.Proofs.YtobfpdhfmbpidaaDoor
namespace Rows

/-- THE TIED CARD OF 'burinlaw09.ArithTells'. -/
def arithTellsCard : Claim7 := { stood := { row := arithTellsRow, standIns := [], harness := (true, "359f5b296118538a02cf60b72a40385b95e628990d0e8eb3b165b4054d7ea24c"), looks := false }, kinds := [], alts := [], laidByText := true, laidKinds := [.data], laidTests := true, laidLooks := .later }
def ArithTellsCardSaid : Prop := Claim7.holds Tryd.pinned (.plain (OpenSpec.ofChange arithTellsSpec)) arithTellsCard

/-- THE TIED CARD OF 'burinlaw09.ArithTwo'. -/
def arithTwoCard : Claim7 := { stood := { row := arithTwoRow, standIns := [], harness := (true, "359f5b296118538a02cf60b72a40385b95e628990d0e8eb3b165b4054d7ea24c"), looks := false }, kinds := [], alts := [], laidByText := true, laidKinds := [.data], laidTests := true, laidLooks := .later }
def ArithTwoCardSaid : Prop := Claim7.holds Tryd.pinned (.plain (OpenSpec.ofChange arithTwoSpec)) arithTwoCard

/-- THE TIED CARD OF 'burinlaw09.ArithOne'. -/
def arithOneCard : Claim7 := { stood := { row := arithOneRow, standIns := [], harness := (true, "359f5b296118538a02cf60b72a40385b95e628990d0e8eb3b165b4054d7ea24c"), looks := false }, kinds := [], alts := [], laidByText := true, laidKinds := [.data], laidTests := true, laidLooks := .later }
def ArithOneCardSaid : Prop := Claim7.holds Tryd.pinned (.plain (OpenSpec.ofChange arithOneSpec)) arithOneCard

/-- THE TIED CARD OF 'burinlaw09.ArithWraps'. -/
def arithWrapsCard : Claim7 := { stood := { row := arithWrapsRow, standIns := [], harness := (true, "359f5b296118538a02cf60b72a40385b95e628990d0e8eb3b165b4054d7ea24c"), looks := false }, kinds := [], alts := [], laidByText := true, laidKinds := [.data], laidTests := true, laidLooks := .later }
def ArithWrapsCardSaid : Prop := Claim7.holds Tryd.pinned (.plain (OpenSpec.ofChange arithWrapsSpec)) arithWrapsCard

/-- THE TIED CARD OF 'burinlaw09.ArithSame'. -/
def arithSameCard : Claim7 := { stood := { row := arithSameRow, standIns := [], harness := (true, "359f5b296118538a02cf60b72a40385b95e628990d0e8eb3b165b4054d7ea24c"), looks := false }, kinds := [], alts := [], laidByText := true, laidKinds := [.data], laidTests := true, laidLooks := .later }
def ArithSameCardSaid : Prop := Claim7.holds Tryd.pinned (.plain (OpenSpec.ofChange arithSameSpec)) arithSameCard

/-- THE TIED CARD OF 'burinlaw09.ArithSwaps'. -/
def arithSwapsCard : Claim7 := { stood := { row := arithSwapsRow, standIns := [], harness := (true, "359f5b296118538a02cf60b72a40385b95e628990d0e8eb3b165b4054d7ea24c"), looks := false }, kinds := [], alts := [], laidByText := true, laidKinds := [.data], laidTests := true, laidLooks := .later }
def ArithSwapsCardSaid : Prop := Claim7.holds Tryd.pinned (.plain (OpenSpec.ofChange arithSwapsSpec)) arithSwapsCard

/-- THE TIED CARD OF 'burinlaw09.ArithDivides'. -/
def arithDividesCard : Claim7 := { stood := { row := arithDividesRow, standIns := [], harness := (true, "359f5b296118538a02cf60b72a40385b95e628990d0e8eb3b165b4054d7ea24c"), looks := false }, kinds := [], alts := [], laidByText := true, laidKinds := [.data], laidTests := true, laidLooks := .later }
def ArithDividesCardSaid : Prop := Claim7.holds Tryd.pinned (.plain (OpenSpec.ofChange arithDividesSpec)) arithDividesCard

/-- THE TIED CARD OF 'burinlaw09.ArithRounds'. -/
def arithRoundsCard : Claim7 := { stood := { row := arithRoundsRow, standIns := [], harness := (true, "359f5b296118538a02cf60b72a40385b95e628990d0e8eb3b165b4054d7ea24c"), looks := false }, kinds := [], alts := [], laidByText := true, laidKinds := [.data], laidTests := true, laidLooks := .later }
def ArithRoundsCardSaid : Prop := Claim7.holds Tryd.pinned (.plain (OpenSpec.ofChange arithRoundsSpec)) arithRoundsCard

/-- THE SECOND FORM's CARD OF 'burinlaw09.ArithTells'. -/
def arithTellsUptoCard : Claim7 := { stood := { row := arithTellsUptoRow, standIns := [], harness := (true, "359f5b296118538a02cf60b72a40385b95e628990d0e8eb3b165b4054d7ea24c"), looks := false }, kinds := [], alts := [], laidByText := true, laidKinds := [.data], laidTests := true, laidLooks := .later }
def ArithTellsUptoCardSaid : Prop := Claim7.holds Tryd.pinned (.plain (OpenSpec.upto arithTellsSpec)) arithTellsUptoCard

/-- THE SECOND FORM's CARD OF 'burinlaw09.ArithTwo'. -/
def arithTwoUptoCard : Claim7 := { stood := { row := arithTwoUptoRow, standIns := [], harness := (true, "359f5b296118538a02cf60b72a40385b95e628990d0e8eb3b165b4054d7ea24c"), looks := false }, kinds := [], alts := [], laidByText := true, laidKinds := [.data], laidTests := true, laidLooks := .later }
def ArithTwoUptoCardSaid : Prop := Claim7.holds Tryd.pinned (.plain (OpenSpec.upto arithTwoSpec)) arithTwoUptoCard

/-- THE SECOND FORM's CARD OF 'burinlaw09.ArithOne'. -/
def arithOneUptoCard : Claim7 := { stood := { row := arithOneUptoRow, standIns := [], harness := (true, "359f5b296118538a02cf60b72a40385b95e628990d0e8eb3b165b4054d7ea24c"), looks := false }, kinds := [], alts := [], laidByText := true, laidKinds := [.data], laidTests := true, laidLooks := .later }
def ArithOneUptoCardSaid : Prop := Claim7.holds Tryd.pinned (.plain (OpenSpec.upto arithOneSpec)) arithOneUptoCard

/-- THE SECOND FORM's CARD OF 'burinlaw09.ArithWraps'. -/
def arithWrapsUptoCard : Claim7 := { stood := { row := arithWrapsUptoRow, standIns := [], harness := (true, "359f5b296118538a02cf60b72a40385b95e628990d0e8eb3b165b4054d7ea24c"), looks := false }, kinds := [], alts := [], laidByText := true, laidKinds := [.data], laidTests := true, laidLooks := .later }
def ArithWrapsUptoCardSaid : Prop := Claim7.holds Tryd.pinned (.plain (OpenSpec.upto arithWrapsSpec)) arithWrapsUptoCard

/-- THE SECOND FORM's CARD OF 'burinlaw09.ArithSame'. -/
def arithSameUptoCard : Claim7 := { stood := { row := arithSameUptoRow, standIns := [], harness := (true, "359f5b296118538a02cf60b72a40385b95e628990d0e8eb3b165b4054d7ea24c"), looks := false }, kinds := [], alts := [], laidByText := true, laidKinds := [.data], laidTests := true, laidLooks := .later }
def ArithSameUptoCardSaid : Prop := Claim7.holds Tryd.pinned (.plain (OpenSpec.upto arithSameSpec)) arithSameUptoCard

/-- THE SECOND FORM's CARD OF 'burinlaw09.ArithSwaps'. -/
def arithSwapsUptoCard : Claim7 := { stood := { row := arithSwapsUptoRow, standIns := [], harness := (true, "359f5b296118538a02cf60b72a40385b95e628990d0e8eb3b165b4054d7ea24c"), looks := false }, kinds := [], alts := [], laidByText := true, laidKinds := [.data], laidTests := true, laidLooks := .later }
def ArithSwapsUptoCardSaid : Prop := Claim7.holds Tryd.pinned (.plain (OpenSpec.upto arithSwapsSpec)) arithSwapsUptoCard

/-- THE SECOND FORM's CARD OF 'burinlaw09.ArithDivides'. -/
def arithDividesUptoCard : Claim7 := { stood := { row := arithDividesUptoRow, standIns := [], harness := (true, "359f5b296118538a02cf60b72a40385b95e628990d0e8eb3b165b4054d7ea24c"), looks := false }, kinds := [], alts := [], laidByText := true, laidKinds := [.data], laidTests := true, laidLooks := .later }
def ArithDividesUptoCardSaid : Prop := Claim7.holds Tryd.pinned (.plain (OpenSpec.upto arithDividesSpec)) arithDividesUptoCard

/-- THE SECOND FORM's CARD OF 'burinlaw09.ArithRounds'. -/
def arithRoundsUptoCard : Claim7 := { stood := { row := arithRoundsUptoRow, standIns := [], harness := (true, "359f5b296118538a02cf60b72a40385b95e628990d0e8eb3b165b4054d7ea24c"), looks := false }, kinds := [], alts := [], laidByText := true, laidKinds := [.data], laidTests := true, laidLooks := .later }
def ArithRoundsUptoCardSaid : Prop := Claim7.holds Tryd.pinned (.plain (OpenSpec.upto arithRoundsSpec)) arithRoundsUptoCard
end Rows
end Go.Proofs.YtobfpdhfmbpidaaDoor
