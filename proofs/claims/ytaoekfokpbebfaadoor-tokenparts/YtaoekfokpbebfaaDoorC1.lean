/-
  Arguments opened: a nil slice has no room.
-/
import Derived.Test.YtaoekfokpbebfaaDoorC0
namespace Go.Proofs.YtaoekfokpbebfaaDoor
open Go.ChangeShapes Go.WideShapes Go.ChangeAt Go.RowKit
set_option linter.unusedVariables false
/-- The same, and a nil slice has no room. -/
theorem open_lines' {H : Type} {enc : TypeId × Value → H} {W : World} {p : Option Addr} {len cap fuel : Nat} {x : DataW H × List MemPlace}
    (h : DataW.trod enc Tryd.prog W 0 (fun _ => true) true fuel 22 [.slice p len cap] = some x) :
    ∃ lf : List (Int × ByteArray), lf.length = len ∧ LnB W.heap.size W (.slice p lf.length cap) lf ∧ ((x.1.weights Tryd.prog 22).all (· ≤ reachBytes) = true → Fits lf ∧ cap * 24 ≤ reachBytes ∧ len ≤ cap) ∧ (p = none → cap = 0) := by
  obtain ⟨lf, h1, h2, h3⟩ := open_lines h
  refine ⟨lf, h1, h2, h3, fun hp => ?_⟩
  subst hp
  rcases Go.Deep.open_slice_pairs Tryd.underlying22 Tryd.underlying40 cells40 rfl rfl cells3 cells9 h with ⟨hc, hx⟩ | ⟨a, len', cap', m, k, V0, V1, D0, D1, P0, P1, hc, _⟩
  · have : len = 0 ∧ cap = 0 := by simpa using hc
    exact this.2
  · simp at hc
end Go.Proofs.YtaoekfokpbebfaaDoor
