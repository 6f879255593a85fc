/-
  The document's own of package arith: Divided.
-/
import Derived.Test.YtobfpdhfmbpidaaDoorGa
namespace Go.Proofs.YtobfpdhfmbpidaaDoor
open Go Go.RowKit
set_option linter.unusedVariables false
set_option linter.unusedSimpArgs false
/-- A quotient, or a remainder. -/
def rdivM (op k a b : Int) : Int := if k == 8 then (if op == 4 then wrap64 (IntKind.u64.wrap ((IntKind.u64.wrap a).tdiv (IntKind.u64.wrap b))) else wrap64 ((IntKind.u64.wrap a).tmod (IntKind.u64.wrap b))) else if b == -1 then (if op == 4 then wrap64 (-a) else 0) else if op == 4 then wrap64 (a.tdiv b) else a.tmod b
set_option maxRecDepth 100000 in
set_option maxHeartbeats 4000000 in
theorem RDivided_any (op k a b : Int) (w : World) (hb : b ≠ 0) (hu : IntKind.u64.wrap b ≠ 0) : Calls Tryd.prog 44 #[.int .i64 op, .int .i64 k, .int .i64 a, .int .i64 b] w fun e w' => e = .returned (.int .i64 (rdivM op k a b)) ∧ w' = w := by
  unfold rdivM
  cases h8 : k == 8
  · cases h1 : b == -1 <;> cases h4 : op == 4
    all_goals (
      go_enter Tryd.func44, Tryd.ntmps44
      go_wp2
      go_ret
      exact ⟨by first | rfl | simp, rfl⟩)
  · cases h4 : op == 4
    all_goals (
      go_enter Tryd.func44, Tryd.ntmps44
      go_wp2
      go_ret
      exact ⟨by first | rfl | simp, rfl⟩)
end Go.Proofs.YtobfpdhfmbpidaaDoor
