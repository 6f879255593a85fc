/-
  An expression and itself are the same.
-/
import Derived.Test.YtmpkgjonbjpohaaGreatDoorR6
namespace Go.Proofs.YtmpkgjonbjpohaaGreatDoor
open Go Go.RowKit
set_option linter.unusedVariables false
set_option linter.unusedSimpArgs false

theorem smM_self : ∀ (n : Nat) (x : PE), SizeOf.sizeOf x < n → smM x x = true
  | 0, _, h => absurd h (Nat.not_lt_zero _)
  | n + 1, .mk a b c d s l ln, h => by
    rw [smM, smL_all l l rfl (fun i hi _ => smM_self n l[i] (by have := List.sizeOf_lt_of_mem (List.getElem_mem hi); simp at h; omega))]
    simp
theorem smM_refl (x : PE) : smM x x = true := smM_self _ x (Nat.lt_succ_self _)
end Go.Proofs.YtmpkgjonbjpohaaGreatDoor
