/-
  Package arith: keeps.
-/
import Derived.Test.YtobfpdhfmbpidaaDoorEg
namespace Go.Proofs.YtobfpdhfmbpidaaDoor
open Go Go.RowKit
set_option linter.unusedVariables false
set_option linter.unusedSimpArgs false
set_option maxRecDepth 100000 in
set_option maxHeartbeats 4000000 in
theorem keepsH (h l k mh ml : Int) (U : Bool) (w : World)
    (HU : Hid (∀ W, Calls Tryd.prog 50 #[.int .i64 k] W fun e w' => e = .returned (.bool U) ∧ w' = W))
    (HM : Hid (∀ W, Calls Tryd.prog 37 #[.int .i64 (IntKind.i64.wrap l), .int .i64 k] W fun e w' => e = .returned (.agg #[.int .u64 mh, .int .u64 ml]) ∧ Below W.heap.size W w')) :
    Calls Tryd.prog 55 #[.agg #[.int .u64 h, .int .u64 l], .int .i64 k] w fun e w' => e = .returned (.bool (U || (decide (mh = h) && decide (ml = l)))) ∧ Below w.heap.size w w' := by
  have hS := St1.start w h l
  have HS0 := veil hS
  clear hS
  go_enter Tryd.func55, Tryd.ntmps55
  go_upto_region 1 with fail
  generalize w.alloc (.cells #[.int .u64 h, .int .u64 l] 48) = W0 at HS0 ⊢
  refine wp_region_noPanic (wpIn_wide.1 (wpIn_region_mix (ro := none) (n := 0) (fun w' => Hid (St1 w w' h l))
    [(0, true), (1, false), (2, true), (3, true), (4, true), (5, true), (6, true), (8, true), (7, false), (9, true), (10, true)]
    11 hmixW (by kernel_rfl) (by kernel_rfl) (by kernel_rfl) (by kernel_rfl) (by kernel_rfl) (by kernel_rfl) (fun _ _ _ _ h => h) (unveil HS0).drew ?_))
  have HS1 : Hid (St1 w W0.drew h l) := (unveil HS0).drew
  iterate 1 (refine mix_pure _ rfl _ (.inl ⟨rfl, fun W hS => (by obtain ⟨f0, f1⟩ := (unveil hS).a.two; go_simp; rfl)⟩) (fun B hB => ?_); simp only [Act.put, List.setIfInBounds_toArray, List.set_cons_zero, List.set_cons_succ] at hB; subst hB)
  refine mix_sole _ rfl (fun K hK => ?_)
  go_simp
  refine ⟨trivial, rfl, (callsIn_wide.2 (unveil HU _)).mono ?_⟩
  rintro e W1 ⟨rfl, hb⟩
  obtain rfl := hb.symm
  refine hK _ _ HS1 ?_
  clear hK K hb
  cases U
  · iterate 6 (refine mix_pure _ rfl _ (.inl ⟨rfl, fun W hS => (by obtain ⟨f0, f1⟩ := (unveil hS).a.two; go_simp; rfl)⟩) (fun B hB => ?_); simp only [Act.put, List.setIfInBounds_toArray, List.set_cons_zero, List.set_cons_succ] at hB; subst hB)
    refine mix_sole _ rfl (fun K hK => ?_)
    go_simp
    refine ⟨trivial, rfl, (callsIn_wide.2 (unveil HM _)).mono ?_⟩
    rintro e W2 ⟨rfl, hb⟩
    have HS2 := veil ((unveil HS1).call hb)
    refine hK _ _ HS2 ?_
    clear hK K hb
    refine mix_pure _ rfl (.bool (decide (mh = h) && decide (ml = l))) (.inl ⟨rfl, fun W hS => (by go_simp; by_cases h1 : mh = h <;> by_cases h2 : ml = l <;> simp [h1, h2])⟩) (fun B hB => ?_)
    simp only [Act.put, List.setIfInBounds_toArray, List.set_cons_zero, List.set_cons_succ] at hB
    subst hB
    iterate 1 (refine mix_pure _ rfl _ (.inl ⟨rfl, fun W hS => (by obtain ⟨f0, f1⟩ := (unveil hS).a.two; go_simp; rfl)⟩) (fun B hB => ?_); simp only [Act.put, List.setIfInBounds_toArray, List.set_cons_zero, List.set_cons_succ] at hB; subst hB)
    refine mix_nil ?_
    refine listIn_last rfl (fun K hK => ?_)
    go_simp
    refine hK _ _ ?_
    clear hK K
    go_wp2
    go_ret
    exact ⟨rfl, (unveil HS2).bel⟩
  · iterate 1 (refine mix_pure _ rfl _ (.inl ⟨rfl, fun W hS => (by obtain ⟨f0, f1⟩ := (unveil hS).a.two; go_simp; rfl)⟩) (fun B hB => ?_); simp only [Act.put, List.setIfInBounds_toArray, List.set_cons_zero, List.set_cons_succ] at hB; subst hB)
    iterate 5 (refine mix_pure _ rfl undef (.inr ⟨rfl, rfl⟩) (fun B hB => ?_); simp only [Act.put, List.setIfInBounds_toArray, List.set_cons_zero, List.set_cons_succ] at hB; subst hB)
    refine mix_sole _ rfl (fun K hK => ?_)
    refine ite_no (fun hh => Bool.false_ne_true hh) ⟨fun f hf => trivial, hK _ _ HS1 ?_⟩
    clear hK K
    simp only [Act.put, List.setIfInBounds_toArray, List.set_cons_zero, List.set_cons_succ]
    iterate 1 (refine mix_pure _ rfl undef (.inr ⟨rfl, rfl⟩) (fun B hB => ?_); simp only [Act.put, List.setIfInBounds_toArray, List.set_cons_zero, List.set_cons_succ] at hB; subst hB)
    iterate 1 (refine mix_pure _ rfl _ (.inl ⟨rfl, fun W hS => (by obtain ⟨f0, f1⟩ := (unveil hS).a.two; go_simp; rfl)⟩) (fun B hB => ?_); simp only [Act.put, List.setIfInBounds_toArray, List.set_cons_zero, List.set_cons_succ] at hB; subst hB)
    refine mix_nil ?_
    refine listIn_last rfl (fun K hK => ?_)
    go_simp
    refine hK _ _ ?_
    clear hK K
    go_wp2
    go_ret
    exact ⟨rfl, (unveil HS1).bel⟩
end Go.Proofs.YtobfpdhfmbpidaaDoor
