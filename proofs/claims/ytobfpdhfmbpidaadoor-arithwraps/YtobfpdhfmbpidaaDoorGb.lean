/-
  The document's own of package arith: product, plain, Divided.
-/
import Derived.Test.YtobfpdhfmbpidaaDoorGa
namespace Go.Proofs.YtobfpdhfmbpidaaDoor
open Go Go.RowKit
set_option linter.unusedVariables false
set_option linter.unusedSimpArgs false
def rproM (a b : Int) : Bool := if a == 0 then true else if b == 0 then true else ((wrap64 ((wrap64 (a * b)).tdiv b) == a) && !((a == -9223372036854775808) && (b == -1)) && !((b == -9223372036854775808) && (a == -1)))
set_option maxRecDepth 100000 in
set_option maxHeartbeats 4000000 in
theorem Rproduct_any (a b : Int) (w : World) : Calls Tryd.prog 57 #[.int .i64 a, .int .i64 b] w fun e w' => e = .returned (.bool (rproM a b)) ∧ w' = w := by
  unfold rproM
  cases h0 : a == 0
  · cases h1 : b == 0
    · have hb : b ≠ 0 := by simpa using h1
      cases hq : wrap64 ((wrap64 (a * b)).tdiv b) == a
      · go_enter Tryd.func57, Tryd.ntmps57
        go_wp2
        go_ret
        exact ⟨rfl, rfl⟩
      · cases h2 : a == -9223372036854775808 <;> cases h3 : b == -1 <;> cases h4 : b == -9223372036854775808 <;> cases h5 : a == -1
        all_goals first
          | (exfalso; simp only [beq_iff_eq] at *; omega)
          | (go_enter Tryd.func57, Tryd.ntmps57
             go_wp2
             go_ret
             exact ⟨rfl, rfl⟩)
    · go_enter Tryd.func57, Tryd.ntmps57
      go_wp2
      go_ret
      exact ⟨rfl, rfl⟩
  · go_enter Tryd.func57, Tryd.ntmps57
    go_wp2
    go_ret
    exact ⟨rfl, rfl⟩
end Go.Proofs.YtobfpdhfmbpidaaDoor
