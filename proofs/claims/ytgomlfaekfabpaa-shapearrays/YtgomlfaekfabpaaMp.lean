/-
  burinlaw10.ShapeArrays answers true for every type and number that are handed in, and leaves them as they were.
-/
import Derived.Test.YtgomlfaekfabpaaRows
import Derived.Test.YtgomlfaekfabpaaUq
import Derived.Test.YtgomlfaekfabpaaMo
import Derived.WalkKit
import Derived.ProofKit
import Derived.OpenShut
namespace Go.Proofs.Ytgomlfaekfabpaa
open Go Go.RowKit
set_option linter.unusedVariables false

theorem arrays_walk (t : ShT) (m : Int) (w : World) (hin : t.In w.heap.size w) :
    Calls Try.prog 8 #[t.v, .int .i64 m] w fun e w' => e = .returned (.bool true) ∧ Below w.heap.size w w' := by
  by_cases h1 : m < 1
  · exact arrays_out t m w (.inl h1)
  · by_cases h2 : m > 20
    · exact arrays_out t m w (.inr h2)
    · exact arrays_in t m w hin (by omega) (by omega)
theorem laidOut : laidOutB Try.prog = true := by kernel_rfl
end Go.Proofs.Ytgomlfaekfabpaa
namespace Go.Proofs.Ytgomlfaekfabpaa.shapeArrays
open Go.ChangeShapes Go.WideShapes Go.ChangeAt Go.RowKit
set_option linter.unusedVariables false

theorem own : ownKnob Try.prog.godebug = none := by kernel_rfl
set_option maxRecDepth 100000 in
theorem lifted (os : Os) (started : os.Started) (H : Type) (enc : TypeId × Value → H) :
    ReturnsInHanded {} Try.checked os 8 .any (Rows.shapeArraysSpec.pre6 enc Try.prog Try.f8 Rows.shapeArraysRow.domain false) (Rows.shapeArraysSpec.post enc Try.prog Try.f8 false true false false) := by
  refine returnsInHanded_of_change (C := Try.checked) own started (by kernel_rfl) Try.func8
    (ChangeSpec.witness6 (enc := enc) (C := Try.checked) false ⟨#[], #[.agg #[.int .i64 0, .int .i64 0, .int .i64 0, .slice none 0 0, .slice none 0 0, .bool false, .int .i64 0], .int .i64 0], []⟩ 8 (by kernel_rfl) (by kernel_rfl) (by kernel_rfl) (by kernel_rfl)) ?_
  intro W base args ds gs before hval0 hW hcnd _
  have hval : ∀ (j : Nat) t v, Try.f8.params[j]? = some t → args[j]? = some v → Value.okWide Try.prog W .any base t v := hval0
  have hW' := hW
  obtain ⟨p, q, hA0, hV, rfl, hfz, hnd⟩ := hW
  have hA : DataW.TrodAll enc Try.prog W 0 (fun _ => true) true Try.f8.params.toList args.toList ds p := hA0
  rw [Try.params8] at hA hval
  obtain ⟨v0, v1, d0, d1, p0, p1, rfl, rfl, rfl, h0, h1⟩ := trodAll_two hA
  obtain ⟨rfl, rfl⟩ := trodVars_none hV
  obtain ⟨cs0, rfl, _⟩ := okWide_struct Try.underlying25 (hval 0 25 v0 rfl rfl)
  obtain ⟨m, rfl⟩ := okWide_int Try.underlying2 (hval 1 2 v1 rfl rfl)
  have h0k := h0
  have h1k := h1
  obtain ⟨f0, hf0⟩ := h0
  clear hA0 hval0
  simp only [List.append_nil] at hW'
  have hlt : ∀ x ∈ p0 ++ p1, x.block < W.heap.size := fun x hx => by simpa using hW'.lt x hx
  obtain ⟨t, hcs, hin⟩ := open_type _ f0 _ _ (Nat.le_refl _) (by simpa [Value.cells] using hf0)
  have hcs' : cs0 = t.cs := by
    have := congrArg List.toArray hcs
    simpa using this
  rw [hcs']
  refine (arrays_walk t m W hin).mono fun e W' ⟨he, hg⟩ => ?_
  subst he
  rw [← hcs']
  exact ⟨_, rfl, _, _, _, [], _, [], hW', trodAll_cons_mk (shut_bool Try.underlying4 _) trodAll_mk0,
    trodAll_cons_mk (Below.trod laidOut (by kernel_rfl) (of_decide_eq_true (by kernel_rfl)) h0k hg (fun x hx => hlt x (List.mem_append_left _ hx)))
      (trodAll_cons_mk (Below.trod laidOut (by kernel_rfl) (of_decide_eq_true (by kernel_rfl)) h1k hg (fun x hx => hlt x (List.mem_append_right _ hx))) trodAll_mk0), rfl, hg.frame _, fun h => by cases h⟩

theorem over : Rows.shapeArraysRow.holds Try.pinned (OpenSpec.ofChange Rows.shapeArraysSpec) :=
  OpenClaim.holds_of_wide 8 Try.f8 rfl rfl rfl rfl rfl rfl rfl ⟨rfl, rfl, rfl, rfl, rfl⟩ rfl rfl rfl rfl rfl (by kernel_rfl) Try.func8 (by kernel_rfl)
    (of_decide_eq_true (by kernel_rfl)) (by unfold Func.isWrapper; first | (rw [if_pos (by decide +kernel)]; kernel_rfl) | (rw [if_neg (by decide +kernel)]; exact ⟨rfl, rfl⟩))
    (fun os started H enc _ => lifted os started H enc)

theorem proved : Rows.ShapeArraysSaid :=
  over
end Go.Proofs.Ytgomlfaekfabpaa.shapeArrays
namespace Go.Proofs.Ytgomlfaekfabpaa
theorem shapeArrays_holds : Rows.ShapeArraysSaid := shapeArrays.proved
end Go.Proofs.Ytgomlfaekfabpaa
