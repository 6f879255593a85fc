/-
  DERIVED. GIVEN WITH THE SEED: THE CARDS: each row of YtlhgkhhncgmpoaaDoorRows.lean that lists a variable, with what it lists TIED to the program's text (the seventh form; the later family's looks); each row that meets fmt, with fmt's text TOLD by the authors' own Lean function (tested against real Go, not proved from fmt's source: count such statements apart). THE CARD IS WHAT COUNTS. Prove the row's statement (the work); the ties are given (YtlhgkhhncgmpoaaDoorTie.lean); close each card by the builder's one call (the guide's Derived/Test/ToyasCard.lean, 'card_holds'). Laid BY PROGRAM, IN A SANDBOX (cutbox-door.mjs). By AI agents, Wed Nov 11 2026. No macro, syntax, notation, axiom, sorry.
-/
import Derived.Test.YtlhgkhhncgmpoaaDoorRows
import GoSem.ClaimSeven
namespace Go.Proofs.YtlhgkhhncgmpoaaDoor
namespace Rows

/-- THE TIED CARD OF 'burinlaw08.KindOfs'. -/
def kindOfsCard : Claim7 := { stood := { row := kindOfsRow, standIns := [], harness := (true, "3a56f6a74a5b85607d06c857ea9093b0508747ea7cae3b3bdbb7a8bd8eb0cf07"), looks := false }, kinds := [], alts := [], laidByText := true, laidKinds := [.data], laidTests := true, laidLooks := .later }
def KindOfsCardSaid : Prop := Claim7.holds Tryd.pinned (.plain (OpenSpec.ofChange kindOfsSpec)) kindOfsCard

/-- THE TIED CARD OF 'burinlaw08.KindNames'. -/
def kindNamesCard : Claim7 := { stood := { row := kindNamesRow, standIns := [], harness := (true, "3a56f6a74a5b85607d06c857ea9093b0508747ea7cae3b3bdbb7a8bd8eb0cf07"), looks := false }, kinds := [], alts := [], laidByText := true, laidKinds := [.data], laidTests := true, laidLooks := .later }
def KindNamesCardSaid : Prop := Claim7.holds Tryd.pinned (.plain (OpenSpec.ofChange kindNamesSpec)) kindNamesCard

/-- THE SECOND FORM's CARD OF 'burinlaw08.KindOfs'. -/
def kindOfsUptoCard : Claim7 := { stood := { row := kindOfsUptoRow, standIns := [], harness := (true, "3a56f6a74a5b85607d06c857ea9093b0508747ea7cae3b3bdbb7a8bd8eb0cf07"), looks := false }, kinds := [], alts := [], laidByText := true, laidKinds := [.data], laidTests := true, laidLooks := .later }
def KindOfsUptoCardSaid : Prop := Claim7.holds Tryd.pinned (.plain (OpenSpec.upto kindOfsSpec)) kindOfsUptoCard

/-- THE SECOND FORM's CARD OF 'burinlaw08.KindNames'. -/
def kindNamesUptoCard : Claim7 := { stood := { row := kindNamesUptoRow, standIns := [], harness := (true, "3a56f6a74a5b85607d06c857ea9093b0508747ea7cae3b3bdbb7a8bd8eb0cf07"), looks := false }, kinds := [], alts := [], laidByText := true, laidKinds := [.data], laidTests := true, laidLooks := .later }
def KindNamesUptoCardSaid : Prop := Claim7.holds Tryd.pinned (.plain (OpenSpec.upto kindNamesSpec)) kindNamesUptoCard
end Rows
end Go.Proofs.YtlhgkhhncgmpoaaDoor
