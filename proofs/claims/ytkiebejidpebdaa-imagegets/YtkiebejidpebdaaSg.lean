/-
  burinlaw11.ImageGets answers true for every input that is handed in, and leaves it as it was.
-/
import Derived.Test.YtkiebejidpebdaaRows
import Derived.Test.YtkiebejidpebdaaOv
import Derived.Test.YtkiebejidpebdaaSf
import Derived.WalkKit
import Derived.ProofKit
import Derived.OpenShut
namespace Go.Proofs.Ytkiebejidpebdaa
open Go Go.RowKit
set_option linter.unusedVariables false

theorem laidOut : laidOutB Try.prog = true := by kernel_rfl
end Go.Proofs.Ytkiebejidpebdaa
namespace Go.Proofs.Ytkiebejidpebdaa.imageGets
open Go.ChangeShapes Go.WideShapes Go.ChangeAt Go.RowKit
set_option linter.unusedVariables false

theorem own : ownKnob Try.prog.godebug = none := by kernel_rfl
set_option maxRecDepth 100000 in
theorem lifted (os : Os) (started : os.Started) (H : Type) (enc : TypeId × Value → H) :
    ReturnsInHanded {} Try.checked os 12 .any (Rows.imageGetsSpec.pre6 enc Try.prog Try.f12 Rows.imageGetsRow.domain false) (Rows.imageGetsSpec.post enc Try.prog Try.f12 false true false false) := by
  refine returnsInHanded_of_change (C := Try.checked) own started (by kernel_rfl) Try.func12
    (ChangeSpec.witness6 (enc := enc) (C := Try.checked) false ⟨#[], #[.agg #[.int .i64 0, .int .i64 0, .int .i64 0, .slice none 0 0, .slice none 0 0, .bool false, .int .i64 0], .string ⟨#[]⟩, .slice none 0 0, .int .i64 0], []⟩ 8 (by kernel_rfl) (by kernel_rfl) (by kernel_rfl) (by kernel_rfl)) ?_
  intro W base args ds gs before hval0 hW hcnd _
  have hval : ∀ (j : Nat) t v, Try.f12.params[j]? = some t → args[j]? = some v → Value.okWide Try.prog W .any base t v := hval0
  have hW' := hW
  obtain ⟨p, q, hA0, hV, rfl, hfz, hnd⟩ := hW
  have hA : DataW.TrodAll enc Try.prog W 0 (fun _ => true) true Try.f12.params.toList args.toList ds p := hA0
  rw [Try.params12] at hA hval
  obtain ⟨v0, v1, v2, v3, d0, d1, d2, d3, pl0, pl1, pl2, pl3, rfl, rfl, rfl, h0, h1, h2, h3⟩ := trodAll_four hA
  obtain ⟨rfl, rfl⟩ := trodVars_none hV
  obtain ⟨cs0, rfl, _⟩ := okWide_struct Try.underlying25 (hval 0 25 v0 rfl rfl)
  obtain ⟨s1, rfl⟩ := okWide_string Try.underlying9 (hval 1 9 v1 rfl rfl)
  obtain ⟨a2, n2, c2, rfl⟩ := okWide_slice Try.underlying47 (hval 2 47 v2 rfl rfl)
  obtain ⟨m3, rfl⟩ := okWide_int Try.underlying2 (hval 3 2 v3 rfl rfl)
  have h0k := h0
  obtain ⟨f0, hf0⟩ := h0
  have h1k := h1
  have h2k := h2
  obtain ⟨f2, hf2⟩ := h2
  have h3k := h3
  clear hA0 hval0
  simp only [List.append_nil] at hW'
  have hlt : ∀ x ∈ pl0 ++ pl1 ++ pl2 ++ pl3, x.block < W.heap.size := fun x hx => by simpa using hW'.lt x hx
  obtain ⟨t0, hcs0, hin0, hle0⟩ := open_typeL _ f0 _ _ (Nat.le_refl _) (by simpa [Value.cells] using hf0)
  have hv0 : cs0 = t0.cs := by
    have := congrArg List.toArray hcs0
    simpa using this
  obtain ⟨p2, cap2, path2, hz2, hp2, hpl2, hcp2⟩ := open_pathL (by simpa [Value.cells] using hf2)
  have hv2 : Value.slice a2 n2 c2 = .slice p2 path2.length cap2 := by simpa using hz2
  rw [hv0, hv2]
  refine (imageGets_walk t0 s1 p2 cap2 path2 m3 W hin0 hle0 hp2 hpl2 hcp2).mono fun e W' ⟨he, hg⟩ => ?_
  subst he
  rw [← hv2, ← hv0]
  exact ⟨_, rfl, _, _, _, [], _, [], hW', trodAll_cons_mk (shut_bool Try.underlying4 _) trodAll_mk0,
    (trodAll_cons_mk (Below.trod laidOut (by kernel_rfl) (of_decide_eq_true (by kernel_rfl)) h0k hg (fun x hx => hlt x (by simp [hx]))) (trodAll_cons_mk (Below.trod laidOut (by kernel_rfl) (of_decide_eq_true (by kernel_rfl)) h1k hg (fun x hx => hlt x (by simp [hx]))) (trodAll_cons_mk (Below.trod laidOut (by kernel_rfl) (of_decide_eq_true (by kernel_rfl)) h2k hg (fun x hx => hlt x (by simp [hx]))) (trodAll_cons_mk (Below.trod laidOut (by kernel_rfl) (of_decide_eq_true (by kernel_rfl)) h3k hg (fun x hx => hlt x (by simp [hx]))) trodAll_mk0)))), rfl, hg.frame _, fun h => by cases h⟩

theorem over : Rows.imageGetsRow.holds Try.pinned (OpenSpec.ofChange Rows.imageGetsSpec) :=
  OpenClaim.holds_of_wide 12 Try.f12 rfl rfl rfl rfl rfl rfl rfl ⟨rfl, rfl, rfl, rfl, rfl⟩ rfl rfl rfl rfl rfl (by kernel_rfl) Try.func12 (by kernel_rfl)
    (of_decide_eq_true (by kernel_rfl)) (by unfold Func.isWrapper; first | (rw [if_pos (by decide +kernel)]; kernel_rfl) | (rw [if_neg (by decide +kernel)]; exact ⟨rfl, rfl⟩))
    (fun os started H enc _ => lifted os started H enc)

theorem proved : Rows.ImageGetsSaid :=
  over
end Go.Proofs.Ytkiebejidpebdaa.imageGets
namespace Go.Proofs.Ytkiebejidpebdaa
theorem imageGets_holds : Rows.ImageGetsSaid := imageGets.proved
end Go.Proofs.Ytkiebejidpebdaa
