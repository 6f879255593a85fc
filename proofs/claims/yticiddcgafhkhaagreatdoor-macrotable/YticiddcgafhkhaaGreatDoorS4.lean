/-
  burinlaw02.TokenAlone answers true for every string: the walk.
-/
import Derived.Test.YticiddcgafhkhaaGreatDoorS1
import Derived.Test.YticiddcgafhkhaaGreatDoorLa
namespace Go.Proofs.YticiddcgafhkhaaGreatDoor
open Go Go.RowKit
set_option linter.unusedVariables false
set_option linter.unusedSimpArgs false

theorem below_drewN0 (B : Nat) (W : World) (n : Nat) : Below B W (W.drewN n) := ⟨rfl, rfl, rfl, Nat.le_refl _, fun _ _ => rfl⟩
theorem one_alone {l : List Tk.Ln} {t : Tk.T} (h : t ∈ (Tk.lex l).1) : oneV ⟨t.s.toArray⟩ = .tuple #[tokV ⟨t.kind, t.s, 1, false, true⟩, .bool true] := by
  have := (Tk.lex_alone h).1
  unfold oneV lex1
  rw [show (⟨t.s.toArray⟩ : ByteArray).data.toList = t.s from rfl, this]
  simp
end Go.Proofs.YticiddcgafhkhaaGreatDoor
