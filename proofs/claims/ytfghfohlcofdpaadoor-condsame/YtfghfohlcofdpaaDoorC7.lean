/-
  Package cond: plainEscape.
-/
import Derived.Test.YtfghfohlcofdpaaDoorB9
namespace Go.Proofs.YtfghfohlcofdpaaDoor
open Go Go.RowKit
set_option linter.unusedVariables false
set_option linter.unusedSimpArgs false

/-- An escape of one byte, and whether it is one. -/
def escM (c : Int) : Int × Bool :=
  if c == 110 then (10, true) else if c == 116 then (9, true) else if c == 118 then (11, true) else if c == 98 then (8, true) else if c == 114 then (13, true) else if c == 102 then (12, true) else if c == 97 then (7, true)
  else if c == 92 then (c, true) else if c == 39 then (c, true) else if c == 34 then (c, true) else if c == 63 then (c, true) else (0, false)
set_option maxRecDepth 100000 in
set_option maxHeartbeats 8000000 in
theorem plainEscape_any (c : Int) (w : World) : Calls Tryd.prog 44 #[.int .u8 c] w fun e w' => e = .returned (.tuple #[.int .u8 (escM c).1, .bool (escM c).2]) ∧ w' = w := by
  go_enter Tryd.func44, Tryd.ntmps44
  go_wp2
  all_goals go_ret2
  all_goals (refine ⟨?_, rfl⟩; first | (simp [escM, *]; done) | (simp_all [escM]; done))
end Go.Proofs.YtfghfohlcofdpaaDoor
