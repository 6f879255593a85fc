/-
  burinlaw12.ClassMore answers true for every input that is handed in, and leaves it as it was.
-/
import Derived.Test.YtaffldhmgifdoaaRows
import Derived.Test.YtaffldhmgifdoaaZ6
import Derived.Test.YtaffldhmgifdoaaIze
import Derived.Test.YtaffldhmgifdoaaIu
import Derived.WalkKit
import Derived.ProofKit
import Derived.OpenShut
namespace Go.Proofs.Ytaffldhmgifdoaa
open Go Go.RowKit
set_option linter.unusedVariables false

theorem laidOut : laidOutB Try.prog = true := by kernel_rfl
end Go.Proofs.Ytaffldhmgifdoaa
namespace Go.Proofs.Ytaffldhmgifdoaa.classMore
open Go.ChangeShapes Go.WideShapes Go.ChangeAt Go.RowKit
set_option linter.unusedVariables false

theorem own : ownKnob Try.prog.godebug = none := by kernel_rfl
set_option maxRecDepth 100000 in
theorem lifted (os : Os) (started : os.Started) (H : Type) (enc : TypeId × Value → H) :
    ReturnsInHanded {} Try.checked os 20 .any (Rows.classMoreSpec.pre6 enc Try.prog Try.f20 Rows.classMoreRow.domain false) (Rows.classMoreSpec.post enc Try.prog Try.f20 false true false false) := by
  refine returnsInHanded_of_change (C := Try.checked) own started (by kernel_rfl) Try.func20
    (ChangeSpec.witness6 (enc := enc) (C := Try.checked) false ⟨#[], #[.slice none 0 0, .agg #[.int .i64 0, .int .i64 0, .int .i64 0, .slice none 0 0, .slice none 0 0, .bool false, .int .i64 0], .agg #[.int .i64 0, .int .i64 0, .int .i64 0, .slice none 0 0, .slice none 0 0, .bool false, .int .i64 0]], []⟩ 8 (by kernel_rfl) (by kernel_rfl) (by kernel_rfl) (by kernel_rfl)) ?_
  intro W base args ds gs before hval0 hW hcnd _
  have hval : ∀ (j : Nat) t v, Try.f20.params[j]? = some t → args[j]? = some v → Value.okWide Try.prog W .any base t v := hval0
  have hW' := hW
  obtain ⟨p, q, hA0, hV, rfl, hfz, hnd⟩ := hW
  have hA : DataW.TrodAll enc Try.prog W 0 (fun _ => true) true Try.f20.params.toList args.toList ds p := hA0
  rw [Try.params20] at hA hval
  obtain ⟨v0, v1, v2, d0, d1, d2, pl0, pl1, pl2, rfl, rfl, rfl, h0, h1, h2⟩ := trodAll_three hA
  obtain ⟨rfl, rfl⟩ := trodVars_none hV
  obtain ⟨a0, n0, c0, rfl⟩ := okWide_slice Try.underlying22 (hval 0 22 v0 rfl rfl)
  obtain ⟨cs1, rfl, _⟩ := okWide_struct Try.underlying25 (hval 1 25 v1 rfl rfl)
  obtain ⟨cs2, rfl, _⟩ := okWide_struct Try.underlying25 (hval 2 25 v2 rfl rfl)
  have h0k := h0
  obtain ⟨f0, hf0⟩ := h0
  have h1k := h1
  obtain ⟨f1, hf1⟩ := h1
  have h2k := h2
  obtain ⟨f2, hf2⟩ := h2
  clear hA0 hval0
  simp only [List.append_nil] at hW'
  have hlt : ∀ x ∈ pl0 ++ pl1 ++ pl2, x.block < W.heap.size := fun x hx => by simpa using hW'.lt x hx
  obtain ⟨q0, cap0, l0, hz0, hs0, hb0, hl0, hm0⟩ := open_typesN (by simpa [Value.cells] using hf0)
  have hv0 : Value.slice a0 n0 c0 = .slice q0 l0.length cap0 := by simpa using hz0
  obtain ⟨t1, hcs1, hin1, hle1⟩ := open_typeL _ f1 _ _ (Nat.le_refl _) (by simpa [Value.cells] using hf1)
  have hv1 : cs1 = t1.cs := by
    have := congrArg List.toArray hcs1
    simpa using this
  obtain ⟨t2, hcs2, hin2, hle2⟩ := open_typeL _ f2 _ _ (Nat.le_refl _) (by simpa [Value.cells] using hf2)
  have hv2 : cs2 = t2.cs := by
    have := congrArg List.toArray hcs2
    simpa using this
  rw [hv0, hv1, hv2]
  refine (classMore_walk l0 q0 cap0 t1 t2 W hs0 hl0 hm0 hin1 hle1 hin2).mono fun e W' ⟨he, hg⟩ => ?_
  subst he
  rw [← hv2, ← hv1, ← hv0]
  exact ⟨_, rfl, _, _, _, [], _, [], hW', trodAll_cons_mk (shut_bool Try.underlying4 _) trodAll_mk0,
    (trodAll_cons_mk (Below.trod laidOut (by kernel_rfl) (of_decide_eq_true (by kernel_rfl)) h0k hg (fun x hx => hlt x (by simp [hx]))) (trodAll_cons_mk (Below.trod laidOut (by kernel_rfl) (of_decide_eq_true (by kernel_rfl)) h1k hg (fun x hx => hlt x (by simp [hx]))) (trodAll_cons_mk (Below.trod laidOut (by kernel_rfl) (of_decide_eq_true (by kernel_rfl)) h2k hg (fun x hx => hlt x (by simp [hx]))) trodAll_mk0))), rfl, hg.frame _, fun h => by cases h⟩

theorem over : Rows.classMoreRow.holds Try.pinned (OpenSpec.ofChange Rows.classMoreSpec) :=
  OpenClaim.holds_of_wide 20 Try.f20 rfl rfl rfl rfl rfl rfl rfl ⟨rfl, rfl, rfl, rfl, rfl⟩ rfl rfl rfl rfl rfl (by kernel_rfl) Try.func20 (by kernel_rfl)
    (of_decide_eq_true (by kernel_rfl)) (by unfold Func.isWrapper; first | (rw [if_pos (by decide +kernel)]; kernel_rfl) | (rw [if_neg (by decide +kernel)]; exact ⟨rfl, rfl⟩))
    (fun os started H enc _ => lifted os started H enc)

theorem proved : Rows.ClassMoreSaid :=
  over
end Go.Proofs.Ytaffldhmgifdoaa.classMore
namespace Go.Proofs.Ytaffldhmgifdoaa
theorem classMore_holds : Rows.ClassMoreSaid := classMore.proved
end Go.Proofs.Ytaffldhmgifdoaa
