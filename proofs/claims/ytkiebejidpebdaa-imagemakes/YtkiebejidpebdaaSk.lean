/-
  burinlaw11.ImageMakes answers true for every input that is handed in, and leaves it as it was.
-/
import Derived.Test.YtkiebejidpebdaaRows
import Derived.Test.YtkiebejidpebdaaOv
import Derived.Test.YtkiebejidpebdaaSj
import Derived.WalkKit
import Derived.ProofKit
import Derived.OpenShut
namespace Go.Proofs.Ytkiebejidpebdaa
open Go Go.RowKit
set_option linter.unusedVariables false

theorem laidOut : laidOutB Try.prog = true := by kernel_rfl
end Go.Proofs.Ytkiebejidpebdaa
namespace Go.Proofs.Ytkiebejidpebdaa.imageMakes
open Go.ChangeShapes Go.WideShapes Go.ChangeAt Go.RowKit
set_option linter.unusedVariables false

theorem own : ownKnob Try.prog.godebug = none := by kernel_rfl
set_option maxRecDepth 100000 in
theorem lifted (os : Os) (started : os.Started) (H : Type) (enc : TypeId × Value → H) :
    ReturnsInHanded {} Try.checked os 11 .any (Rows.imageMakesSpec.pre6 enc Try.prog Try.f11 Rows.imageMakesRow.domain false) (Rows.imageMakesSpec.post enc Try.prog Try.f11 false true false false) := by
  refine returnsInHanded_of_change (C := Try.checked) own started (by kernel_rfl) Try.func11
    (ChangeSpec.witness6 (enc := enc) (C := Try.checked) false ⟨#[], #[.agg #[.int .i64 0, .int .i64 0, .int .i64 0, .slice none 0 0, .slice none 0 0, .bool false, .int .i64 0], .slice none 0 0], []⟩ 8 (by kernel_rfl) (by kernel_rfl) (by kernel_rfl) (by kernel_rfl)) ?_
  intro W base args ds gs before hval0 hW hcnd _
  have hval : ∀ (j : Nat) t v, Try.f11.params[j]? = some t → args[j]? = some v → Value.okWide Try.prog W .any base t v := hval0
  have hW' := hW
  obtain ⟨p, q, hA0, hV, rfl, hfz, hnd⟩ := hW
  have hA : DataW.TrodAll enc Try.prog W 0 (fun _ => true) true Try.f11.params.toList args.toList ds p := hA0
  rw [Try.params11] at hA hval
  obtain ⟨v0, v1, d0, d1, pl0, pl1, rfl, rfl, rfl, h0, h1⟩ := trodAll_two hA
  obtain ⟨rfl, rfl⟩ := trodVars_none hV
  obtain ⟨cs0, rfl, _⟩ := okWide_struct Try.underlying25 (hval 0 25 v0 rfl rfl)
  obtain ⟨a1, n1, c1, rfl⟩ := okWide_slice Try.underlying51 (hval 1 51 v1 rfl rfl)
  have h0k := h0
  obtain ⟨f0, hf0⟩ := h0
  have h1k := h1
  obtain ⟨f1, hf1⟩ := h1
  clear hA0 hval0
  simp only [List.append_nil] at hW'
  have hlt : ∀ x ∈ pl0 ++ pl1, x.block < W.heap.size := fun x hx => by simpa using hW'.lt x hx
  obtain ⟨t0, hcs0, hin0, hle0⟩ := open_typeL _ f0 _ _ (Nat.le_refl _) (by simpa [Value.cells] using hf0)
  have hv0 : cs0 = t0.cs := by
    have := congrArg List.toArray hcs0
    simpa using this
  obtain ⟨q1, cap1, l1, hz1, hs1, hl1, hm1, hsl1⟩ := open_setsL (by simpa [Value.cells] using hf1)
  have hv1 : Value.slice a1 n1 c1 = .slice q1 l1.length cap1 := by simpa using hz1
  rw [hv0, hv1]
  refine (imageMakes_walk t0 q1 cap1 l1 W hin0 hle0 hs1 hl1 hm1 hsl1).mono fun e W' ⟨he, hg⟩ => ?_
  subst he
  rw [← hv1, ← hv0]
  exact ⟨_, rfl, _, _, _, [], _, [], hW', trodAll_cons_mk (shut_bool Try.underlying4 _) trodAll_mk0,
    (trodAll_cons_mk (Below.trod laidOut (by kernel_rfl) (of_decide_eq_true (by kernel_rfl)) h0k hg (fun x hx => hlt x (by simp [hx]))) (trodAll_cons_mk (Below.trod laidOut (by kernel_rfl) (of_decide_eq_true (by kernel_rfl)) h1k hg (fun x hx => hlt x (by simp [hx]))) trodAll_mk0)), rfl, hg.frame _, fun h => by cases h⟩

theorem over : Rows.imageMakesRow.holds Try.pinned (OpenSpec.ofChange Rows.imageMakesSpec) :=
  OpenClaim.holds_of_wide 11 Try.f11 rfl rfl rfl rfl rfl rfl rfl ⟨rfl, rfl, rfl, rfl, rfl⟩ rfl rfl rfl rfl rfl (by kernel_rfl) Try.func11 (by kernel_rfl)
    (of_decide_eq_true (by kernel_rfl)) (by unfold Func.isWrapper; first | (rw [if_pos (by decide +kernel)]; kernel_rfl) | (rw [if_neg (by decide +kernel)]; exact ⟨rfl, rfl⟩))
    (fun os started H enc _ => lifted os started H enc)

theorem proved : Rows.ImageMakesSaid :=
  over
end Go.Proofs.Ytkiebejidpebdaa.imageMakes
namespace Go.Proofs.Ytkiebejidpebdaa
theorem imageMakes_holds : Rows.ImageMakesSaid := imageMakes.proved
end Go.Proofs.Ytkiebejidpebdaa
