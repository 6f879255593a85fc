/-
  NARROWER THAN 'FOR EVERY INPUT', by the rows' own cells (each row's printed sentence says how): ArithTells: laid · ArithTwo: laid · ArithOne: laid · ArithWraps: laid · ArithSame: laid · ArithSwaps: laid · ArithDivides: laid · ArithRounds: laid.
  DERIVED. THE GIVEN ROWS OF THIS SEAT. 8 by the template 'for every input the law returns true; each argument reads behind the call as it read before'; 0 by the template 'total and deterministic' (their statements: YtobfpdhfmbpidaaDoorTotals.lean).
  GIVEN WITH THE SEED: the statements are not yours to turn. If you find one false, say at which input.
  Laid BY PROGRAM, IN A SANDBOX (cutbox-rows.mjs): the forced cells as the released guide's own fill.sh prints them over the translation 24009982c2df3cbb… (all of the seat's roots in one cut). By AI agents, Wed Nov 11 2026. No macro, syntax, notation, axiom, sorry.
-/
import Derived.Test.YtobfpdhfmbpidaaDoorChecked
import GoSem.Claim
import GoSem.ClaimJoined
import GoSem.ClaimMapViews
import Derived.JoinedTies
import Derived.KernelRfl
namespace Go.Proofs.YtobfpdhfmbpidaaDoor
/- THE CELL 'sum', in the pinned program and in every row, IS THE sha256 OF THE DUMP (.gsa) THAT YtobfpdhfmbpidaaDoorProg.lean LOADS. Nothing in Lean hashes anything: it is a label: what it is worth is what the hold of that sum in a sandbox is worth. -/
noncomputable def Tryd.pinned : Pinned := { name := "ytobfpdhfmbpidaadoor", sum := "24009982c2df3cbb525a54ea2da76e3daf072266ca9d1c4ebee7e90d29c73b61", checked := Tryd.checked }
namespace Rows
def none {H : Type} : Left H := { results := [], args := [] }

/- WHAT THE LISTED PACKAGE-LEVEL VARIABLES READ AS WHEN THE CALL BEGINS. Each datum BY PROGRAM (the guide's laid-datum.mjs) off the statement by which the dump's own 'gosem.cut.vars' lays the variable. In a bare row this is a premise. The card (YtobfpdhfmbpidaaDoorCards.lean) ties it to the program's text. -/
def laid_burin_arith_operators {H : Type} : DataW H := .agg [.agg [.lit (.string []), .lit (.int .i64 0)], .agg [.lit (.string [43]), .lit (.int .i64 2)], .agg [.lit (.string [45]), .lit (.int .i64 2)], .agg [.lit (.string [42]), .lit (.int .i64 2)], .agg [.lit (.string [47]), .lit (.int .i64 2)], .agg [.lit (.string [37]), .lit (.int .i64 2)], .agg [.lit (.string [60, 60]), .lit (.int .i64 2)], .agg [.lit (.string [62, 62]), .lit (.int .i64 2)], .agg [.lit (.string [38]), .lit (.int .i64 2)], .agg [.lit (.string [94]), .lit (.int .i64 2)], .agg [.lit (.string [124]), .lit (.int .i64 2)], .agg [.lit (.string [60]), .lit (.int .i64 2)], .agg [.lit (.string [60, 61]), .lit (.int .i64 2)], .agg [.lit (.string [61, 61]), .lit (.int .i64 2)], .agg [.lit (.string [33, 61]), .lit (.int .i64 2)], .agg [.lit (.string [45]), .lit (.int .i64 1)], .agg [.lit (.string [126]), .lit (.int .i64 1)], .agg [.lit (.string [33]), .lit (.int .i64 1)]]

/-- 'burinlaw09.ArithTells': WHATEVER THE INPUT: true; the input reads as it did. -/
def arithTellsSpec : ChangeSpec := { name := "arithTells", fn := fun _ => fun
  | [d1, d2, d3] => { results := [.lit (.bool true)], args := [d1, d2, d3] }
  | _ => none }
def arithTellsRow : OpenClaim := { program := "ytobfpdhfmbpidaadoor", sum := "24009982c2df3cbb525a54ea2da76e3daf072266ca9d1c4ebee7e90d29c73b61", func := "burin/burinlaw09.ArithTells", spec := "arithTells", inPlace := ["math/bits.Sub64", "math/bits.Add64"], named := ["burin/arith.operators"], apart := false, laid := [("burin/arith.operators", laid_burin_arith_operators)] }
def ArithTellsSaid : Prop := arithTellsRow.holds Tryd.pinned (OpenSpec.ofChange arithTellsSpec)

/-- ITS FALSE NEIGHBOUR: 'it returns false'. Refute it at one input. -/
def arithTellsWrong : ChangeSpec := { name := "arithTells", fn := fun _ => fun
  | [d1, d2, d3] => { results := [.lit (.bool false)], args := [d1, d2, d3] }
  | _ => none }
def ArithTellsWrongFalsely : Prop := arithTellsRow.holds Tryd.pinned (OpenSpec.ofChange arithTellsWrong)

/-- 'burinlaw09.ArithTwo': WHATEVER THE INPUT: true; the input reads as it did. -/
def arithTwoSpec : ChangeSpec := { name := "arithTwo", fn := fun _ => fun
  | [d1, d2, d3, d4, d5] => { results := [.lit (.bool true)], args := [d1, d2, d3, d4, d5] }
  | _ => none }
def arithTwoRow : OpenClaim := { program := "ytobfpdhfmbpidaadoor", sum := "24009982c2df3cbb525a54ea2da76e3daf072266ca9d1c4ebee7e90d29c73b61", func := "burin/burinlaw09.ArithTwo", spec := "arithTwo", inPlace := ["math/bits.Sub64", "math/bits.Add64"], named := ["burin/arith.operators"], apart := false, laid := [("burin/arith.operators", laid_burin_arith_operators)] }
def ArithTwoSaid : Prop := arithTwoRow.holds Tryd.pinned (OpenSpec.ofChange arithTwoSpec)

/-- ITS FALSE NEIGHBOUR: 'it returns false'. Refute it at one input. -/
def arithTwoWrong : ChangeSpec := { name := "arithTwo", fn := fun _ => fun
  | [d1, d2, d3, d4, d5] => { results := [.lit (.bool false)], args := [d1, d2, d3, d4, d5] }
  | _ => none }
def ArithTwoWrongFalsely : Prop := arithTwoRow.holds Tryd.pinned (OpenSpec.ofChange arithTwoWrong)

/-- 'burinlaw09.ArithOne': WHATEVER THE INPUT: true; the input reads as it did. -/
def arithOneSpec : ChangeSpec := { name := "arithOne", fn := fun _ => fun
  | [d1, d2, d3] => { results := [.lit (.bool true)], args := [d1, d2, d3] }
  | _ => none }
def arithOneRow : OpenClaim := { program := "ytobfpdhfmbpidaadoor", sum := "24009982c2df3cbb525a54ea2da76e3daf072266ca9d1c4ebee7e90d29c73b61", func := "burin/burinlaw09.ArithOne", spec := "arithOne", inPlace := ["math/bits.Sub64", "math/bits.Add64"], named := ["burin/arith.operators"], apart := false, laid := [("burin/arith.operators", laid_burin_arith_operators)] }
def ArithOneSaid : Prop := arithOneRow.holds Tryd.pinned (OpenSpec.ofChange arithOneSpec)

/-- ITS FALSE NEIGHBOUR: 'it returns false'. Refute it at one input. -/
def arithOneWrong : ChangeSpec := { name := "arithOne", fn := fun _ => fun
  | [d1, d2, d3] => { results := [.lit (.bool false)], args := [d1, d2, d3] }
  | _ => none }
def ArithOneWrongFalsely : Prop := arithOneRow.holds Tryd.pinned (OpenSpec.ofChange arithOneWrong)

/-- 'burinlaw09.ArithWraps': WHATEVER THE INPUT: true; the input reads as it did. -/
def arithWrapsSpec : ChangeSpec := { name := "arithWraps", fn := fun _ => fun
  | [d1, d2, d3, d4] => { results := [.lit (.bool true)], args := [d1, d2, d3, d4] }
  | _ => none }
def arithWrapsRow : OpenClaim := { program := "ytobfpdhfmbpidaadoor", sum := "24009982c2df3cbb525a54ea2da76e3daf072266ca9d1c4ebee7e90d29c73b61", func := "burin/burinlaw09.ArithWraps", spec := "arithWraps", inPlace := ["math/bits.Sub64", "math/bits.Add64"], named := ["burin/arith.operators"], apart := false, laid := [("burin/arith.operators", laid_burin_arith_operators)] }
def ArithWrapsSaid : Prop := arithWrapsRow.holds Tryd.pinned (OpenSpec.ofChange arithWrapsSpec)

/-- ITS FALSE NEIGHBOUR: 'it returns false'. Refute it at one input. -/
def arithWrapsWrong : ChangeSpec := { name := "arithWraps", fn := fun _ => fun
  | [d1, d2, d3, d4] => { results := [.lit (.bool false)], args := [d1, d2, d3, d4] }
  | _ => none }
def ArithWrapsWrongFalsely : Prop := arithWrapsRow.holds Tryd.pinned (OpenSpec.ofChange arithWrapsWrong)

/-- 'burinlaw09.ArithSame': WHATEVER THE INPUT: true; the input reads as it did. -/
def arithSameSpec : ChangeSpec := { name := "arithSame", fn := fun _ => fun
  | [d1, d2, d3, d4, d5] => { results := [.lit (.bool true)], args := [d1, d2, d3, d4, d5] }
  | _ => none }
def arithSameRow : OpenClaim := { program := "ytobfpdhfmbpidaadoor", sum := "24009982c2df3cbb525a54ea2da76e3daf072266ca9d1c4ebee7e90d29c73b61", func := "burin/burinlaw09.ArithSame", spec := "arithSame", inPlace := ["math/bits.Sub64", "math/bits.Add64"], named := ["burin/arith.operators"], apart := false, laid := [("burin/arith.operators", laid_burin_arith_operators)] }
def ArithSameSaid : Prop := arithSameRow.holds Tryd.pinned (OpenSpec.ofChange arithSameSpec)

/-- ITS FALSE NEIGHBOUR: 'it returns false'. Refute it at one input. -/
def arithSameWrong : ChangeSpec := { name := "arithSame", fn := fun _ => fun
  | [d1, d2, d3, d4, d5] => { results := [.lit (.bool false)], args := [d1, d2, d3, d4, d5] }
  | _ => none }
def ArithSameWrongFalsely : Prop := arithSameRow.holds Tryd.pinned (OpenSpec.ofChange arithSameWrong)

/-- 'burinlaw09.ArithSwaps': WHATEVER THE INPUT: true; the input reads as it did. -/
def arithSwapsSpec : ChangeSpec := { name := "arithSwaps", fn := fun _ => fun
  | [d1, d2, d3, d4, d5] => { results := [.lit (.bool true)], args := [d1, d2, d3, d4, d5] }
  | _ => none }
def arithSwapsRow : OpenClaim := { program := "ytobfpdhfmbpidaadoor", sum := "24009982c2df3cbb525a54ea2da76e3daf072266ca9d1c4ebee7e90d29c73b61", func := "burin/burinlaw09.ArithSwaps", spec := "arithSwaps", inPlace := ["math/bits.Sub64", "math/bits.Add64"], named := ["burin/arith.operators"], apart := false, laid := [("burin/arith.operators", laid_burin_arith_operators)] }
def ArithSwapsSaid : Prop := arithSwapsRow.holds Tryd.pinned (OpenSpec.ofChange arithSwapsSpec)

/-- ITS FALSE NEIGHBOUR: 'it returns false'. Refute it at one input. -/
def arithSwapsWrong : ChangeSpec := { name := "arithSwaps", fn := fun _ => fun
  | [d1, d2, d3, d4, d5] => { results := [.lit (.bool false)], args := [d1, d2, d3, d4, d5] }
  | _ => none }
def ArithSwapsWrongFalsely : Prop := arithSwapsRow.holds Tryd.pinned (OpenSpec.ofChange arithSwapsWrong)

/-- 'burinlaw09.ArithDivides': WHATEVER THE INPUT: true; the input reads as it did. -/
def arithDividesSpec : ChangeSpec := { name := "arithDivides", fn := fun _ => fun
  | [d1, d2, d3, d4] => { results := [.lit (.bool true)], args := [d1, d2, d3, d4] }
  | _ => none }
def arithDividesRow : OpenClaim := { program := "ytobfpdhfmbpidaadoor", sum := "24009982c2df3cbb525a54ea2da76e3daf072266ca9d1c4ebee7e90d29c73b61", func := "burin/burinlaw09.ArithDivides", spec := "arithDivides", inPlace := ["math/bits.Sub64", "math/bits.Add64"], named := ["burin/arith.operators"], apart := false, laid := [("burin/arith.operators", laid_burin_arith_operators)] }
def ArithDividesSaid : Prop := arithDividesRow.holds Tryd.pinned (OpenSpec.ofChange arithDividesSpec)

/-- ITS FALSE NEIGHBOUR: 'it returns false'. Refute it at one input. -/
def arithDividesWrong : ChangeSpec := { name := "arithDivides", fn := fun _ => fun
  | [d1, d2, d3, d4] => { results := [.lit (.bool false)], args := [d1, d2, d3, d4] }
  | _ => none }
def ArithDividesWrongFalsely : Prop := arithDividesRow.holds Tryd.pinned (OpenSpec.ofChange arithDividesWrong)

/-- 'burinlaw09.ArithRounds': WHATEVER THE INPUT: true; the input reads as it did. -/
def arithRoundsSpec : ChangeSpec := { name := "arithRounds", fn := fun _ => fun
  | [d1, d2, d3] => { results := [.lit (.bool true)], args := [d1, d2, d3] }
  | _ => none }
def arithRoundsRow : OpenClaim := { program := "ytobfpdhfmbpidaadoor", sum := "24009982c2df3cbb525a54ea2da76e3daf072266ca9d1c4ebee7e90d29c73b61", func := "burin/burinlaw09.ArithRounds", spec := "arithRounds", inPlace := ["math/bits.Sub64", "math/bits.Add64"], named := ["burin/arith.operators"], apart := false, laid := [("burin/arith.operators", laid_burin_arith_operators)] }
def ArithRoundsSaid : Prop := arithRoundsRow.holds Tryd.pinned (OpenSpec.ofChange arithRoundsSpec)

/-- ITS FALSE NEIGHBOUR: 'it returns false'. Refute it at one input. -/
def arithRoundsWrong : ChangeSpec := { name := "arithRounds", fn := fun _ => fun
  | [d1, d2, d3] => { results := [.lit (.bool false)], args := [d1, d2, d3] }
  | _ => none }
def ArithRoundsWrongFalsely : Prop := arithRoundsRow.holds Tryd.pinned (OpenSpec.ofChange arithRoundsWrong)

/- THE SECOND FORM. 'bulk': how many values and letters a reading holds, each counted each time it is reached (what is shared counts as often as it is met; a slice's spare places count too). A statement '..UptoSaid' is the law's where the arguments, and the package variables that the reading takes, are together of bulk at most 1048576: NARROWER than '..Said'. Prove '..Said' where nothing that the law and all that it calls make is longer than what came in: it says more and counts as full. Else prove '..UptoSaid'. A law counts once. -/
mutual
def uptoBulk {H : Type} : DataW H → Nat
  | .lit (.string bytes) => bytes.length + 1
  | .lit _ => 1
  | .nil => 1
  | .ptr d => uptoBulk d + 1
  | .slice elems spare => uptoBulkAll elems + uptoBulkAll spare + 1
  | .agg parts => uptoBulkAll parts + 1
  | .iface _ d => uptoBulk d + 1
  | .map entries => uptoBulkEntries entries + 1
  | .held _ => 1
def uptoBulkAll {H : Type} : List (DataW H) → Nat
  | [] => 0
  | d :: r => uptoBulk d + uptoBulkAll r
def uptoBulkEntries {H : Type} : List (Lit × DataW H) → Nat
  | [] => 0
  | x :: r => uptoBulkEntry x + uptoBulkEntries r
def uptoBulkEntry {H : Type} : Lit × DataW H → Nat
  | (.string bytes, d) => bytes.length + uptoBulk d + 1
  | (_, d) => uptoBulk d + 1
 end
def uptoSmall : (H : Type) → List (DataW H) → Bool := fun _ ds => decide (uptoBulkAll ds ≤ 1048576)
def OpenSpec.upto (s : _root_.Go.ChangeSpec) : _root_.Go.OpenSpec := { _root_.Go.OpenSpec.ofChange s with cond := some uptoSmall }

/-- 'burinlaw09.ArithTells', WHERE WHAT IT READS IS OF BULK AT MOST 1048576: true; the input reads as it did. -/
def arithTellsUptoRow : OpenClaim := { program := "ytobfpdhfmbpidaadoor", sum := "24009982c2df3cbb525a54ea2da76e3daf072266ca9d1c4ebee7e90d29c73b61", func := "burin/burinlaw09.ArithTells", spec := "arithTells", inPlace := ["math/bits.Sub64", "math/bits.Add64"], named := ["burin/arith.operators"], apart := false, laid := [("burin/arith.operators", laid_burin_arith_operators)], narrowed := true }
def ArithTellsUptoSaid : Prop := arithTellsUptoRow.holds Tryd.pinned (OpenSpec.upto arithTellsSpec)

/-- 'burinlaw09.ArithTwo', WHERE WHAT IT READS IS OF BULK AT MOST 1048576: true; the input reads as it did. -/
def arithTwoUptoRow : OpenClaim := { program := "ytobfpdhfmbpidaadoor", sum := "24009982c2df3cbb525a54ea2da76e3daf072266ca9d1c4ebee7e90d29c73b61", func := "burin/burinlaw09.ArithTwo", spec := "arithTwo", inPlace := ["math/bits.Sub64", "math/bits.Add64"], named := ["burin/arith.operators"], apart := false, laid := [("burin/arith.operators", laid_burin_arith_operators)], narrowed := true }
def ArithTwoUptoSaid : Prop := arithTwoUptoRow.holds Tryd.pinned (OpenSpec.upto arithTwoSpec)

/-- 'burinlaw09.ArithOne', WHERE WHAT IT READS IS OF BULK AT MOST 1048576: true; the input reads as it did. -/
def arithOneUptoRow : OpenClaim := { program := "ytobfpdhfmbpidaadoor", sum := "24009982c2df3cbb525a54ea2da76e3daf072266ca9d1c4ebee7e90d29c73b61", func := "burin/burinlaw09.ArithOne", spec := "arithOne", inPlace := ["math/bits.Sub64", "math/bits.Add64"], named := ["burin/arith.operators"], apart := false, laid := [("burin/arith.operators", laid_burin_arith_operators)], narrowed := true }
def ArithOneUptoSaid : Prop := arithOneUptoRow.holds Tryd.pinned (OpenSpec.upto arithOneSpec)

/-- 'burinlaw09.ArithWraps', WHERE WHAT IT READS IS OF BULK AT MOST 1048576: true; the input reads as it did. -/
def arithWrapsUptoRow : OpenClaim := { program := "ytobfpdhfmbpidaadoor", sum := "24009982c2df3cbb525a54ea2da76e3daf072266ca9d1c4ebee7e90d29c73b61", func := "burin/burinlaw09.ArithWraps", spec := "arithWraps", inPlace := ["math/bits.Sub64", "math/bits.Add64"], named := ["burin/arith.operators"], apart := false, laid := [("burin/arith.operators", laid_burin_arith_operators)], narrowed := true }
def ArithWrapsUptoSaid : Prop := arithWrapsUptoRow.holds Tryd.pinned (OpenSpec.upto arithWrapsSpec)

/-- 'burinlaw09.ArithSame', WHERE WHAT IT READS IS OF BULK AT MOST 1048576: true; the input reads as it did. -/
def arithSameUptoRow : OpenClaim := { program := "ytobfpdhfmbpidaadoor", sum := "24009982c2df3cbb525a54ea2da76e3daf072266ca9d1c4ebee7e90d29c73b61", func := "burin/burinlaw09.ArithSame", spec := "arithSame", inPlace := ["math/bits.Sub64", "math/bits.Add64"], named := ["burin/arith.operators"], apart := false, laid := [("burin/arith.operators", laid_burin_arith_operators)], narrowed := true }
def ArithSameUptoSaid : Prop := arithSameUptoRow.holds Tryd.pinned (OpenSpec.upto arithSameSpec)

/-- 'burinlaw09.ArithSwaps', WHERE WHAT IT READS IS OF BULK AT MOST 1048576: true; the input reads as it did. -/
def arithSwapsUptoRow : OpenClaim := { program := "ytobfpdhfmbpidaadoor", sum := "24009982c2df3cbb525a54ea2da76e3daf072266ca9d1c4ebee7e90d29c73b61", func := "burin/burinlaw09.ArithSwaps", spec := "arithSwaps", inPlace := ["math/bits.Sub64", "math/bits.Add64"], named := ["burin/arith.operators"], apart := false, laid := [("burin/arith.operators", laid_burin_arith_operators)], narrowed := true }
def ArithSwapsUptoSaid : Prop := arithSwapsUptoRow.holds Tryd.pinned (OpenSpec.upto arithSwapsSpec)

/-- 'burinlaw09.ArithDivides', WHERE WHAT IT READS IS OF BULK AT MOST 1048576: true; the input reads as it did. -/
def arithDividesUptoRow : OpenClaim := { program := "ytobfpdhfmbpidaadoor", sum := "24009982c2df3cbb525a54ea2da76e3daf072266ca9d1c4ebee7e90d29c73b61", func := "burin/burinlaw09.ArithDivides", spec := "arithDivides", inPlace := ["math/bits.Sub64", "math/bits.Add64"], named := ["burin/arith.operators"], apart := false, laid := [("burin/arith.operators", laid_burin_arith_operators)], narrowed := true }
def ArithDividesUptoSaid : Prop := arithDividesUptoRow.holds Tryd.pinned (OpenSpec.upto arithDividesSpec)

/-- 'burinlaw09.ArithRounds', WHERE WHAT IT READS IS OF BULK AT MOST 1048576: true; the input reads as it did. -/
def arithRoundsUptoRow : OpenClaim := { program := "ytobfpdhfmbpidaadoor", sum := "24009982c2df3cbb525a54ea2da76e3daf072266ca9d1c4ebee7e90d29c73b61", func := "burin/burinlaw09.ArithRounds", spec := "arithRounds", inPlace := ["math/bits.Sub64", "math/bits.Add64"], named := ["burin/arith.operators"], apart := false, laid := [("burin/arith.operators", laid_burin_arith_operators)], narrowed := true }
def ArithRoundsUptoSaid : Prop := arithRoundsUptoRow.holds Tryd.pinned (OpenSpec.upto arithRoundsSpec)

end Rows
end Go.Proofs.YtobfpdhfmbpidaaDoor
