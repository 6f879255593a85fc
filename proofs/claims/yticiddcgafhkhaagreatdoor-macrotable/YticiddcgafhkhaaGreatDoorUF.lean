/-
  Package macro: Same.
-/
import Derived.Test.YticiddcgafhkhaaGreatDoorUc
namespace Go.Proofs.YticiddcgafhkhaaGreatDoor
open Go Go.RowKit
set_option linter.unusedVariables false
set_option linter.unusedSimpArgs false

theorem McV.below {w W : World} {x : Value} {m : Mc} (h : McV w.heap.size w x m) (hB : Below w.heap.size w W) : McV W.heap.size W x m := by
  obtain ⟨pv, bv, e, h1, h2, h3⟩ := h
  exact ⟨pv, bv, e, (h1.below hB).mono hB.size, (h2.below hB).mono hB.size, h3⟩

end Go.Proofs.YticiddcgafhkhaaGreatDoor
