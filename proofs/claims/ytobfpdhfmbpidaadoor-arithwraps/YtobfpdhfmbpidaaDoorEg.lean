/-
  Package arith: inBits, keeps.
-/
import Derived.Test.YtobfpdhfmbpidaaDoorEc
import Derived.Test.YtobfpdhfmbpidaaDoorNa
namespace Go.Proofs.YtobfpdhfmbpidaaDoor
open Go Go.RowKit
set_option linter.unusedVariables false
set_option linter.unusedSimpArgs false
/-- A number in the first box. -/
structure St1 (w W : World) (h l : Int) : Prop where
  a : WB W w.heap.size h l
  bel : Below w.heap.size w W
theorem St1.call {w A W : World} {h l : Int} (s : St1 w A h l) (hb : Below A.heap.size A W) : St1 w W h l :=
  ⟨s.a.below hb s.a.lt, s.bel.trans (hb.mono s.bel.size)⟩
theorem St1.drew {w A : World} {h l : Int} (s : St1 w A h l) : St1 w A.drew h l := ⟨s.a, s.bel.drew⟩
theorem St1.start (w : World) (h l : Int) : St1 w (w.alloc (.cells #[.int .u64 h, .int .u64 l] 48)) h l := ⟨heap_newW w _, below_newW w _⟩
theorem ite_no {c : Prop} [Decidable c] {a b : Prop} (h : ¬c) (hb : b) : if c then a else b := by rw [if_neg h]; exact hb
theorem hmixW : Tryd.prog.follows .mixedOrders = true := by kernel_rfl
set_option maxRecDepth 100000 in
set_option maxHeartbeats 4000000 in
theorem inBitsH (h l k B : Int) (U V : Bool) (w : World)
    (HU : Hid (∀ W, Calls Tryd.prog 66 #[.agg #[.int .u64 h, .int .u64 l], .agg #[.int .u64 0, .int .u64 0]] W fun e w' => e = .returned (.bool U) ∧ Below W.heap.size W w'))
    (HB : Hid (∀ W, Calls Tryd.prog 48 #[.int .i64 k] W fun e w' => e = .returned (.int .u64 B) ∧ w' = W))
    (HV : Hid (∀ W, Calls Tryd.prog 66 #[.agg #[.int .u64 h, .int .u64 l], .agg #[.int .u64 0, .int .u64 B]] W fun e w' => e = .returned (.bool V) ∧ Below W.heap.size W w')) :
    Calls Tryd.prog 69 #[.agg #[.int .u64 h, .int .u64 l], .int .i64 k] w fun e w' => e = .returned (.bool (!U && V)) ∧ Below w.heap.size w w' := by
  have hS := St1.start w h l
  have HS0 := veil hS
  clear hS
  go_enter Tryd.func69, Tryd.ntmps69
  go_upto_region 1 with fail
  generalize w.alloc (.cells #[.int .u64 h, .int .u64 l] 48) = W0 at HS0 ⊢
  refine wp_region_noPanic (wpIn_wide.1 (wpIn_region_mix (ro := none) (n := 0) (fun w' => Hid (St1 w w' h l))
    [(0, true), (1, true), (2, false), (3, true), (4, true), (5, true), (6, true), (7, false), (8, true), (9, false), (10, true)]
    11 hmixW (by kernel_rfl) (by kernel_rfl) (by kernel_rfl) (by kernel_rfl) (by kernel_rfl) (by kernel_rfl) (fun _ _ _ _ h => h) (unveil HS0).drew ?_))
  iterate 2 (refine mix_pure _ rfl _ (.inl ⟨rfl, fun W hS => (by obtain ⟨f0, f1⟩ := (unveil hS).a.two; go_simp; rfl)⟩) (fun B hB => ?_); simp only [Act.put, List.setIfInBounds_toArray, List.set_cons_zero, List.set_cons_succ] at hB; subst hB)
  refine mix_sole _ rfl (fun K hK => ?_)
  go_simp
  refine ⟨trivial, rfl, (callsIn_wide.2 (unveil HU _)).mono ?_⟩
  rintro e W1 ⟨rfl, hb⟩
  have HS1 := veil ((unveil HS0).drew.call hb)
  refine hK _ _ HS1 ?_
  clear hK K hb
  cases U
  · iterate 4 (refine mix_pure _ rfl _ (.inl ⟨rfl, fun W hS => (by obtain ⟨f0, f1⟩ := (unveil hS).a.two; go_simp; rfl)⟩) (fun B hB => ?_); simp only [Act.put, List.setIfInBounds_toArray, List.set_cons_zero, List.set_cons_succ] at hB; subst hB)
    refine mix_sole _ rfl (fun K hK => ?_)
    go_simp
    refine ⟨trivial, rfl, (callsIn_wide.2 (unveil HB _)).mono ?_⟩
    rintro e W2 ⟨rfl, hb⟩
    obtain rfl := hb.symm
    refine hK _ _ HS1 ?_
    clear hK K hb
    iterate 1 (refine mix_pure _ rfl _ (.inl ⟨rfl, fun W hS => (by obtain ⟨f0, f1⟩ := (unveil hS).a.two; go_simp; rfl)⟩) (fun B hB => ?_); simp only [Act.put, List.setIfInBounds_toArray, List.set_cons_zero, List.set_cons_succ] at hB; subst hB)
    refine mix_sole _ rfl (fun K hK => ?_)
    go_simp
    refine ⟨trivial, rfl, (callsIn_wide.2 (unveil HV _)).mono ?_⟩
    rintro e W3 ⟨rfl, hb⟩
    have HS3 := veil ((unveil HS1).call hb)
    refine hK _ _ HS3 ?_
    clear hK K hb
    iterate 1 (refine mix_pure _ rfl _ (.inl ⟨rfl, fun W hS => (by obtain ⟨f0, f1⟩ := (unveil hS).a.two; go_simp; rfl)⟩) (fun B hB => ?_); simp only [Act.put, List.setIfInBounds_toArray, List.set_cons_zero, List.set_cons_succ] at hB; subst hB)
    refine mix_nil ?_
    refine listIn_last rfl (fun K hK => ?_)
    go_simp
    refine hK _ _ ?_
    clear hK K
    go_wp2
    go_ret
    exact ⟨rfl, (unveil HS3).bel⟩
  · iterate 2 (refine mix_pure _ rfl _ (.inl ⟨rfl, fun W hS => (by obtain ⟨f0, f1⟩ := (unveil hS).a.two; go_simp; rfl)⟩) (fun B hB => ?_); simp only [Act.put, List.setIfInBounds_toArray, List.set_cons_zero, List.set_cons_succ] at hB; subst hB)
    iterate 2 (refine mix_pure _ rfl undef (.inr ⟨rfl, rfl⟩) (fun B hB => ?_); simp only [Act.put, List.setIfInBounds_toArray, List.set_cons_zero, List.set_cons_succ] at hB; subst hB)
    refine mix_sole _ rfl (fun K hK => ?_)
    refine ite_no (fun hh => Bool.false_ne_true hh) ⟨fun f hf => trivial, hK _ _ HS1 ?_⟩
    clear hK K
    simp only [Act.put, List.setIfInBounds_toArray, List.set_cons_zero, List.set_cons_succ]
    iterate 1 (refine mix_pure _ rfl undef (.inr ⟨rfl, rfl⟩) (fun B hB => ?_); simp only [Act.put, List.setIfInBounds_toArray, List.set_cons_zero, List.set_cons_succ] at hB; subst hB)
    refine mix_sole _ rfl (fun K hK => ?_)
    refine ite_no (fun hh => Bool.false_ne_true hh) ⟨fun f hf => trivial, hK _ _ HS1 ?_⟩
    clear hK K
    simp only [Act.put, List.setIfInBounds_toArray, List.set_cons_zero, List.set_cons_succ]
    iterate 1 (refine mix_pure _ rfl _ (.inl ⟨rfl, fun W hS => (by obtain ⟨f0, f1⟩ := (unveil hS).a.two; go_simp; rfl)⟩) (fun B hB => ?_); simp only [Act.put, List.setIfInBounds_toArray, List.set_cons_zero, List.set_cons_succ] at hB; subst hB)
    refine mix_nil ?_
    refine listIn_last rfl (fun K hK => ?_)
    go_simp
    refine hK _ _ ?_
    clear hK K
    go_wp2
    go_ret
    exact ⟨rfl, (unveil HS1).bel⟩
theorem heldWd : Tryd.prog.stoodInHeld 48 = false := by kernel_rfl
theorem fieldsWd : Tryd.prog.underlying 48 = some (.struct (Tryd.prog.fieldsOf 48)) := by kernel_rfl
theorem wide_eqIn (a b c d : Int) (W : World) : (Op.equalIn 10000 48 (.agg #[.int .u64 a, .int .u64 b]) (.agg #[.int .u64 c, .int .u64 d])).run Tryd.prog W = .ok (decide (a = c) && decide (b = d)) W := by
  rw [run_equalIn_struct _ 9999 48 _ _ fieldsWd heldWd]
  simp only [Program.fieldsOf, Tryd.underlying48]
  simp [Op.eqFields, go_sem]
  by_cases h1 : a = c <;> by_cases h2 : b = d <;> simp [*]
theorem wide_eq (a b c d : Int) (W : World) : (binOp .eql 48 (.agg #[.int .u64 a, .int .u64 b]) (.agg #[.int .u64 c, .int .u64 d])).run Tryd.prog W = .ok (.bool (decide (a = c) && decide (b = d))) W := by
  rw [run_eql_struct, wide_eqIn]; rfl
theorem wide_neq (a b c d : Int) (W : World) : (binOp .neq 48 (.agg #[.int .u64 a, .int .u64 b]) (.agg #[.int .u64 c, .int .u64 d])).run Tryd.prog W = .ok (.bool (!(decide (a = c) && decide (b = d)))) W := by
  rw [run_neq_struct, wide_eqIn]; rfl
end Go.Proofs.YtobfpdhfmbpidaaDoor
