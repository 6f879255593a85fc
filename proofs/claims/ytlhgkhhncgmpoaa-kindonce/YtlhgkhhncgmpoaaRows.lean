/-
  No cell of these rows narrows 'for every input' (looked for: loops, veiled, ifaces, maps, wideKeys, modest, calm, conditions, laid).
  DERIVED. THE GIVEN ROWS OF THIS SEAT. 6 by the template 'for every input the law returns true; each argument reads behind the call as it read before'; 0 by the template 'total and deterministic' (their statements: YtlhgkhhncgmpoaaTotals.lean).
  GIVEN WITH THE SEED: the statements are not yours to turn. If you find one false, say at which input.
  Laid BY PROGRAM, IN A SANDBOX (cutbox-rows.mjs): the forced cells as the released guide's own fill.sh prints them over the translation d97ac672f0c7eefe… (all of the seat's roots in one cut). By AI agents, Wed Nov 11 2026. No macro, syntax, notation, axiom, sorry.
-/
import Derived.Test.YtlhgkhhncgmpoaaChecked
import GoSem.Claim
import GoSem.ClaimJoined
import GoSem.ClaimMapViews
import Derived.JoinedTies
import Derived.KernelRfl
namespace Go.Proofs.Ytlhgkhhncgmpoaa
/- THE CELL 'sum', in the pinned program and in every row, IS THE sha256 OF THE DUMP (.gsa) THAT YtlhgkhhncgmpoaaProg.lean LOADS. Nothing in Lean hashes anything: it is a label: what it is worth is what the hold of that sum in a sandbox is worth. -/
noncomputable def Try.pinned : Pinned := { name := "ytlhgkhhncgmpoaa", sum := "d97ac672f0c7eefeec8982571469a45b29bf6d7b85a498435396e2fe27da260d", checked := Try.checked }
namespace Rows
def none {H : Type} : Left H := { results := [], args := [] }

/-- 'burinlaw08.KindTells': WHATEVER THE INPUT: true; the input reads as it did. -/
def kindTellsSpec : ChangeSpec := { name := "kindTells", fn := fun _ => fun
  | [d] => { results := [.lit (.bool true)], args := [d] }
  | _ => none }
def kindTellsRow : OpenClaim := { program := "ytlhgkhhncgmpoaa", sum := "d97ac672f0c7eefeec8982571469a45b29bf6d7b85a498435396e2fe27da260d", func := "burin/burinlaw08.KindTells", spec := "kindTells", apart := false }
def KindTellsSaid : Prop := kindTellsRow.holds Try.pinned (OpenSpec.ofChange kindTellsSpec)

/-- ITS FALSE NEIGHBOUR: 'it returns false'. Refute it at one input. -/
def kindTellsWrong : ChangeSpec := { name := "kindTells", fn := fun _ => fun
  | [d] => { results := [.lit (.bool false)], args := [d] }
  | _ => none }
def KindTellsWrongFalsely : Prop := kindTellsRow.holds Try.pinned (OpenSpec.ofChange kindTellsWrong)

/-- 'burinlaw08.KindTo': WHATEVER THE INPUT: true; the input reads as it did. -/
def kindToSpec : ChangeSpec := { name := "kindTo", fn := fun _ => fun
  | [d1, d2] => { results := [.lit (.bool true)], args := [d1, d2] }
  | _ => none }
def kindToRow : OpenClaim := { program := "ytlhgkhhncgmpoaa", sum := "d97ac672f0c7eefeec8982571469a45b29bf6d7b85a498435396e2fe27da260d", func := "burin/burinlaw08.KindTo", spec := "kindTo", apart := false }
def KindToSaid : Prop := kindToRow.holds Try.pinned (OpenSpec.ofChange kindToSpec)

/-- ITS FALSE NEIGHBOUR: 'it returns false'. Refute it at one input. -/
def kindToWrong : ChangeSpec := { name := "kindTo", fn := fun _ => fun
  | [d1, d2] => { results := [.lit (.bool false)], args := [d1, d2] }
  | _ => none }
def KindToWrongFalsely : Prop := kindToRow.holds Try.pinned (OpenSpec.ofChange kindToWrong)

/-- 'burinlaw08.KindUsual': WHATEVER THE INPUT: true; the input reads as it did. -/
def kindUsualSpec : ChangeSpec := { name := "kindUsual", fn := fun _ => fun
  | [d1, d2] => { results := [.lit (.bool true)], args := [d1, d2] }
  | _ => none }
def kindUsualRow : OpenClaim := { program := "ytlhgkhhncgmpoaa", sum := "d97ac672f0c7eefeec8982571469a45b29bf6d7b85a498435396e2fe27da260d", func := "burin/burinlaw08.KindUsual", spec := "kindUsual", apart := false }
def KindUsualSaid : Prop := kindUsualRow.holds Try.pinned (OpenSpec.ofChange kindUsualSpec)

/-- ITS FALSE NEIGHBOUR: 'it returns false'. Refute it at one input. -/
def kindUsualWrong : ChangeSpec := { name := "kindUsual", fn := fun _ => fun
  | [d1, d2] => { results := [.lit (.bool false)], args := [d1, d2] }
  | _ => none }
def KindUsualWrongFalsely : Prop := kindUsualRow.holds Try.pinned (OpenSpec.ofChange kindUsualWrong)

/-- 'burinlaw08.KindOnce': WHATEVER THE INPUT: true; the input reads as it did. -/
def kindOnceSpec : ChangeSpec := { name := "kindOnce", fn := fun _ => fun
  | [d1, d2] => { results := [.lit (.bool true)], args := [d1, d2] }
  | _ => none }
def kindOnceRow : OpenClaim := { program := "ytlhgkhhncgmpoaa", sum := "d97ac672f0c7eefeec8982571469a45b29bf6d7b85a498435396e2fe27da260d", func := "burin/burinlaw08.KindOnce", spec := "kindOnce", apart := false }
def KindOnceSaid : Prop := kindOnceRow.holds Try.pinned (OpenSpec.ofChange kindOnceSpec)

/-- ITS FALSE NEIGHBOUR: 'it returns false'. Refute it at one input. -/
def kindOnceWrong : ChangeSpec := { name := "kindOnce", fn := fun _ => fun
  | [d1, d2] => { results := [.lit (.bool false)], args := [d1, d2] }
  | _ => none }
def KindOnceWrongFalsely : Prop := kindOnceRow.holds Try.pinned (OpenSpec.ofChange kindOnceWrong)

/-- 'burinlaw08.KindTurns': WHATEVER THE INPUT: true; the input reads as it did. -/
def kindTurnsSpec : ChangeSpec := { name := "kindTurns", fn := fun _ => fun
  | [d1, d2] => { results := [.lit (.bool true)], args := [d1, d2] }
  | _ => none }
def kindTurnsRow : OpenClaim := { program := "ytlhgkhhncgmpoaa", sum := "d97ac672f0c7eefeec8982571469a45b29bf6d7b85a498435396e2fe27da260d", func := "burin/burinlaw08.KindTurns", spec := "kindTurns", apart := false }
def KindTurnsSaid : Prop := kindTurnsRow.holds Try.pinned (OpenSpec.ofChange kindTurnsSpec)

/-- ITS FALSE NEIGHBOUR: 'it returns false'. Refute it at one input. -/
def kindTurnsWrong : ChangeSpec := { name := "kindTurns", fn := fun _ => fun
  | [d1, d2] => { results := [.lit (.bool false)], args := [d1, d2] }
  | _ => none }
def KindTurnsWrongFalsely : Prop := kindTurnsRow.holds Try.pinned (OpenSpec.ofChange kindTurnsWrong)

/-- 'burinlaw08.KindNarrow': WHATEVER THE INPUT: true; the input reads as it did. -/
def kindNarrowSpec : ChangeSpec := { name := "kindNarrow", fn := fun _ => fun
  | [d1, d2, d3] => { results := [.lit (.bool true)], args := [d1, d2, d3] }
  | _ => none }
def kindNarrowRow : OpenClaim := { program := "ytlhgkhhncgmpoaa", sum := "d97ac672f0c7eefeec8982571469a45b29bf6d7b85a498435396e2fe27da260d", func := "burin/burinlaw08.KindNarrow", spec := "kindNarrow", apart := false }
def KindNarrowSaid : Prop := kindNarrowRow.holds Try.pinned (OpenSpec.ofChange kindNarrowSpec)

/-- ITS FALSE NEIGHBOUR: 'it returns false'. Refute it at one input. -/
def kindNarrowWrong : ChangeSpec := { name := "kindNarrow", fn := fun _ => fun
  | [d1, d2, d3] => { results := [.lit (.bool false)], args := [d1, d2, d3] }
  | _ => none }
def KindNarrowWrongFalsely : Prop := kindNarrowRow.holds Try.pinned (OpenSpec.ofChange kindNarrowWrong)

/- THE SECOND FORM. 'bulk': how many values and letters a reading holds, each counted each time it is reached (what is shared counts as often as it is met; a slice's spare places count too). A statement '..UptoSaid' is the law's where the arguments, and the package variables that the reading takes, are together of bulk at most 1048576: NARROWER than '..Said'. Prove '..Said' where nothing that the law and all that it calls make is longer than what came in: it says more and counts as full. Else prove '..UptoSaid'. A law counts once. -/
mutual
def uptoBulk {H : Type} : DataW H → Nat
  | .lit (.string bytes) => bytes.length + 1
  | .lit _ => 1
  | .nil => 1
  | .ptr d => uptoBulk d + 1
  | .slice elems spare => uptoBulkAll elems + uptoBulkAll spare + 1
  | .agg parts => uptoBulkAll parts + 1
  | .iface _ d => uptoBulk d + 1
  | .map entries => uptoBulkEntries entries + 1
  | .held _ => 1
def uptoBulkAll {H : Type} : List (DataW H) → Nat
  | [] => 0
  | d :: r => uptoBulk d + uptoBulkAll r
def uptoBulkEntries {H : Type} : List (Lit × DataW H) → Nat
  | [] => 0
  | x :: r => uptoBulkEntry x + uptoBulkEntries r
def uptoBulkEntry {H : Type} : Lit × DataW H → Nat
  | (.string bytes, d) => bytes.length + uptoBulk d + 1
  | (_, d) => uptoBulk d + 1
 end
def uptoSmall : (H : Type) → List (DataW H) → Bool := fun _ ds => decide (uptoBulkAll ds ≤ 1048576)
def OpenSpec.upto (s : _root_.Go.ChangeSpec) : _root_.Go.OpenSpec := { _root_.Go.OpenSpec.ofChange s with cond := some uptoSmall }

/-- 'burinlaw08.KindTells', WHERE WHAT IT READS IS OF BULK AT MOST 1048576: true; the input reads as it did. -/
def kindTellsUptoRow : OpenClaim := { program := "ytlhgkhhncgmpoaa", sum := "d97ac672f0c7eefeec8982571469a45b29bf6d7b85a498435396e2fe27da260d", func := "burin/burinlaw08.KindTells", spec := "kindTells", apart := false, narrowed := true }
def KindTellsUptoSaid : Prop := kindTellsUptoRow.holds Try.pinned (OpenSpec.upto kindTellsSpec)

/-- 'burinlaw08.KindTo', WHERE WHAT IT READS IS OF BULK AT MOST 1048576: true; the input reads as it did. -/
def kindToUptoRow : OpenClaim := { program := "ytlhgkhhncgmpoaa", sum := "d97ac672f0c7eefeec8982571469a45b29bf6d7b85a498435396e2fe27da260d", func := "burin/burinlaw08.KindTo", spec := "kindTo", apart := false, narrowed := true }
def KindToUptoSaid : Prop := kindToUptoRow.holds Try.pinned (OpenSpec.upto kindToSpec)

/-- 'burinlaw08.KindUsual', WHERE WHAT IT READS IS OF BULK AT MOST 1048576: true; the input reads as it did. -/
def kindUsualUptoRow : OpenClaim := { program := "ytlhgkhhncgmpoaa", sum := "d97ac672f0c7eefeec8982571469a45b29bf6d7b85a498435396e2fe27da260d", func := "burin/burinlaw08.KindUsual", spec := "kindUsual", apart := false, narrowed := true }
def KindUsualUptoSaid : Prop := kindUsualUptoRow.holds Try.pinned (OpenSpec.upto kindUsualSpec)

/-- 'burinlaw08.KindOnce', WHERE WHAT IT READS IS OF BULK AT MOST 1048576: true; the input reads as it did. -/
def kindOnceUptoRow : OpenClaim := { program := "ytlhgkhhncgmpoaa", sum := "d97ac672f0c7eefeec8982571469a45b29bf6d7b85a498435396e2fe27da260d", func := "burin/burinlaw08.KindOnce", spec := "kindOnce", apart := false, narrowed := true }
def KindOnceUptoSaid : Prop := kindOnceUptoRow.holds Try.pinned (OpenSpec.upto kindOnceSpec)

/-- 'burinlaw08.KindTurns', WHERE WHAT IT READS IS OF BULK AT MOST 1048576: true; the input reads as it did. -/
def kindTurnsUptoRow : OpenClaim := { program := "ytlhgkhhncgmpoaa", sum := "d97ac672f0c7eefeec8982571469a45b29bf6d7b85a498435396e2fe27da260d", func := "burin/burinlaw08.KindTurns", spec := "kindTurns", apart := false, narrowed := true }
def KindTurnsUptoSaid : Prop := kindTurnsUptoRow.holds Try.pinned (OpenSpec.upto kindTurnsSpec)

/-- 'burinlaw08.KindNarrow', WHERE WHAT IT READS IS OF BULK AT MOST 1048576: true; the input reads as it did. -/
def kindNarrowUptoRow : OpenClaim := { program := "ytlhgkhhncgmpoaa", sum := "d97ac672f0c7eefeec8982571469a45b29bf6d7b85a498435396e2fe27da260d", func := "burin/burinlaw08.KindNarrow", spec := "kindNarrow", apart := false, narrowed := true }
def KindNarrowUptoSaid : Prop := kindNarrowUptoRow.holds Try.pinned (OpenSpec.upto kindNarrowSpec)

end Rows
end Go.Proofs.Ytlhgkhhncgmpoaa
