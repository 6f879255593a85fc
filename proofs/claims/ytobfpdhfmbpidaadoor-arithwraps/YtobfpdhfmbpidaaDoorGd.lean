/-
  The document's own of package arith: plain.
-/
import Derived.Test.YtobfpdhfmbpidaaDoorGb
namespace Go.Proofs.YtobfpdhfmbpidaaDoor
open Go Go.RowKit
set_option linter.unusedVariables false
set_option linter.unusedSimpArgs false
/-- A plain result in 64 bits. -/
def rplaV (op a b : Int) : Int := if op == 1 then wrap64 (a + b) else if op == 2 then wrap64 (a - b) else if op == 3 then wrap64 (a * b) else if op == 8 then bits .and .i64 a b else if op == 9 then bits .xor .i64 a b else bits .or .i64 a b
def rplaB (op a b : Int) : Bool := if op == 1 then ((decide (a < 0) != decide (b < 0)) || (decide (wrap64 (a + b) < 0) == decide (a < 0))) else if op == 2 then ((decide (a < 0) == decide (b < 0)) || (decide (wrap64 (a - b) < 0) == decide (a < 0))) else if op == 3 then rproM a b else true
set_option maxRecDepth 100000 in
set_option maxHeartbeats 4000000 in
theorem Rplain_any (op a b : Int) (w : World) : Calls Tryd.prog 45 #[.int .i64 op, .int .i64 a, .int .i64 b] w fun e w' => e = .returned (.tuple #[.int .i64 (rplaV op a b), .bool (rplaB op a b)]) ∧ w' = w := by
  have HP := veil (Rproduct_any a b)
  unfold rplaV rplaB
  generalize rproM a b = PR at *
  cases h1 : op == 1
  · cases h2 : op == 2
    · cases h3 : op == 3
      · cases h8 : op == 8 <;> cases h9 : op == 9
        all_goals (
          go_enter Tryd.func45, Tryd.ntmps45
          go_wp2
          go_ret2
          exact ⟨rfl, rfl⟩)
      · go_enter Tryd.func45, Tryd.ntmps45
        go_wp2_with (go_at_call 57; refine (unveil HP _).mono ?_; rintro e w' ⟨rfl, hw'⟩; obtain rfl := hw'.symm)
        go_ret2
        exact ⟨rfl, rfl⟩
    · clear HP
      cases ha : decide (a < 0) <;> cases hb : decide (b < 0) <;> cases hc : decide (wrap64 (a - b) < 0)
      all_goals (
        go_enter Tryd.func45, Tryd.ntmps45
        go_wp2
        go_ret2
        exact ⟨by first | rfl | simp, rfl⟩)
  · clear HP
    cases ha : decide (a < 0) <;> cases hb : decide (b < 0) <;> cases hc : decide (wrap64 (a + b) < 0)
    all_goals (
      go_enter Tryd.func45, Tryd.ntmps45
      go_wp2
      go_ret2
      exact ⟨by first | rfl | simp, rfl⟩)
end Go.Proofs.YtobfpdhfmbpidaaDoor
