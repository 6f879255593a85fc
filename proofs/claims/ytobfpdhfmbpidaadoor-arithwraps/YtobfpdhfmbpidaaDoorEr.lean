/-
  Package arith: One and Wrap over whatever the calls tell.
-/
import Derived.Test.YtobfpdhfmbpidaaDoorEq
namespace Go.Proofs.YtobfpdhfmbpidaaDoor
open Go Go.RowKit
set_option linter.unusedVariables false
set_option linter.unusedSimpArgs false
set_option maxRecDepth 100000 in
set_option maxHeartbeats 4000000 in
theorem OneArg (op a ak o : Int) (S : ByteArray) (w : World) (ho : (o != 1) = true)
    (HB : Hid (Calls Tryd.prog 29 #[.int .i64 op] w fun e w' => e = .returned (.agg #[.string S, .int .i64 o]) ∧ Below w.heap.size w w'))
    : Calls Tryd.prog 20 #[.int .i64 op, .int .i64 a, .int .i64 ak] w fun e w' => e = .returned (.tuple #[.int .i64 0, .int .i64 0, .int .i64 2]) ∧ Below w.heap.size w w' := by
  have hf := fldO1 (.string S) (.int .i64 o)
  go_enter Tryd.func20, Tryd.ntmps20
  go_wp2_with fail
  refine (unveil HB).mono ?_
  rintro e W1 ⟨rfl, hb⟩
  have HB1 := veil hb
  clear hb HB
  go_wp2
  go_ret3
  exact ⟨rfl, unveil HB1⟩
set_option maxRecDepth 100000 in
set_option maxHeartbeats 4000000 in
theorem OneKind (op a ak o : Int) (S : ByteArray) (w : World) (ho : (o != 1) = false)
    (HB : Hid (Calls Tryd.prog 29 #[.int .i64 op] w fun e w' => e = .returned (.agg #[.string S, .int .i64 o]) ∧ Below w.heap.size w w'))
    (HLa : Hid (∀ W, Calls Tryd.prog 28 #[.int .i64 a, .int .i64 ak] W fun e w' => e = .returned (.bool false) ∧ w' = W))
    : Calls Tryd.prog 20 #[.int .i64 op, .int .i64 a, .int .i64 ak] w fun e w' => e = .returned (.tuple #[.int .i64 0, .int .i64 0, .int .i64 80]) ∧ Below w.heap.size w w' := by
  have hf := fldO1 (.string S) (.int .i64 o)
  go_enter Tryd.func20, Tryd.ntmps20
  go_wp2_with fail
  refine (unveil HB).mono ?_
  rintro e W1 ⟨rfl, hb⟩
  have HB1 := veil hb
  clear hb HB
  go_wp2_with (go_at_call 28; refine (unveil HLa _).mono ?_; rintro e w' ⟨rfl, hw'⟩; obtain rfl := hw'.symm)
  go_ret3
  exact ⟨rfl, unveil HB1⟩
set_option maxRecDepth 100000 in
set_option maxHeartbeats 4000000 in
theorem OneYes (op a ak o k ke nh nl t0 t1 t2 : Int) (S : ByteArray) (w : World) (ho : (o != 1) = false)
    (HB : Hid (Calls Tryd.prog 29 #[.int .i64 op] w fun e w' => e = .returned (.agg #[.string S, .int .i64 o]) ∧ Below w.heap.size w w'))
    (HLa : Hid (∀ W, Calls Tryd.prog 28 #[.int .i64 a, .int .i64 ak] W fun e w' => e = .returned (.bool true) ∧ w' = W))
    (HP : Hid (∀ W, Calls Tryd.prog 26 #[.int .i64 ak] W fun e w' => e = .returned (.tuple #[.int .i64 k, .int .i64 ke]) ∧ w' = W))
    (HMa : Hid (∀ W, Calls Tryd.prog 37 #[.int .i64 a, .int .i64 k] W fun e w' => e = .returned (.agg #[.int .u64 nh, .int .u64 nl]) ∧ Below W.heap.size W w'))
    (HT : Hid (∀ W, Calls Tryd.prog 38 #[.int .i64 op, .int .i64 k, .agg #[.int .u64 nh, .int .u64 nl], .agg #[.int .u64 0, .int .u64 0]] W fun e w' => e = .returned (.tuple #[.int .i64 t0, .int .i64 t1, .int .i64 t2]) ∧ Below W.heap.size W w'))
    : Calls Tryd.prog 20 #[.int .i64 op, .int .i64 a, .int .i64 ak] w fun e w' => e = .returned (.tuple #[.int .i64 t0, .int .i64 t1, .int .i64 t2]) ∧ Below w.heap.size w w' := by
  have hf := fldO1 (.string S) (.int .i64 o)
  go_enter Tryd.func20, Tryd.ntmps20
  go_wp2_with fail
  refine (unveil HB).mono ?_
  rintro e W1 ⟨rfl, hb⟩
  have HB1 := veil hb
  clear hb HB
  go_wp2_with (first
    | (go_at_call 28; refine (unveil HLa _).mono ?_; rintro e w' ⟨rfl, hw'⟩; obtain rfl := hw'.symm)
    | (go_at_call 26; refine (unveil HP _).mono ?_; rintro e w' ⟨rfl, hw'⟩; obtain rfl := hw'.symm))
  refine (unveil HMa _).mono ?_
  rintro e W2 ⟨rfl, hb⟩
  have HB2 := veil ((unveil HB1).trans (hb.mono (unveil HB1).size))
  clear hb HB1
  go_wp2_with fail
  refine (unveil HT _).mono ?_
  rintro e W3 ⟨rfl, hb⟩
  have HB3 := veil ((unveil HB2).trans (hb.mono (unveil HB2).size))
  clear hb HB2
  go_wp2
  go_ret3
  exact ⟨rfl, unveil HB3⟩
set_option maxRecDepth 100000 in
set_option maxHeartbeats 4000000 in
theorem WrapArg (op k a b o : Int) (S : ByteArray) (w : World) (ho : (o == 0) = true)
    (HB : Hid (Calls Tryd.prog 29 #[.int .i64 op] w fun e w' => e = .returned (.agg #[.string S, .int .i64 o]) ∧ Below w.heap.size w w'))
    : Calls Tryd.prog 22 #[.int .i64 op, .int .i64 k, .int .i64 a, .int .i64 b] w fun e w' => e = .returned (.tuple #[.int .i64 0, .int .i64 2]) ∧ Below w.heap.size w w' := by
  have hf := fldO1 (.string S) (.int .i64 o)
  go_enter Tryd.func22, Tryd.ntmps22
  go_wp2_with fail
  refine (unveil HB).mono ?_
  rintro e W1 ⟨rfl, hb⟩
  have HB1 := veil hb
  clear hb HB
  go_wp2
  go_ret2
  exact ⟨rfl, unveil HB1⟩
set_option maxRecDepth 100000 in
set_option maxHeartbeats 4000000 in
theorem WrapKind (op k a b o : Int) (S : ByteArray) (LA LB : Bool) (w : World) (ho : (o == 0) = false) (hl : (LA && LB) = false)
    (HB : Hid (Calls Tryd.prog 29 #[.int .i64 op] w fun e w' => e = .returned (.agg #[.string S, .int .i64 o]) ∧ Below w.heap.size w w'))
    (HLa : Hid (∀ W, Calls Tryd.prog 28 #[.int .i64 a, .int .i64 k] W fun e w' => e = .returned (.bool LA) ∧ w' = W))
    (HLb : Hid (∀ W, Calls Tryd.prog 28 #[.int .i64 b, .int .i64 k] W fun e w' => e = .returned (.bool LB) ∧ w' = W))
    : Calls Tryd.prog 22 #[.int .i64 op, .int .i64 k, .int .i64 a, .int .i64 b] w fun e w' => e = .returned (.tuple #[.int .i64 0, .int .i64 80]) ∧ Below w.heap.size w w' := by
  cases LA
  · clear HLb
    have hf := fldO1 (.string S) (.int .i64 o)
    go_enter Tryd.func22, Tryd.ntmps22
    go_wp2_with fail
    refine (unveil HB).mono ?_
    rintro e W1 ⟨rfl, hb⟩
    have HB1 := veil hb
    clear hb HB
    go_wp2_with (go_at_call 28; refine (unveil HLa _).mono ?_; rintro e w' ⟨rfl, hw'⟩; obtain rfl := hw'.symm)
    go_ret2
    exact ⟨rfl, unveil HB1⟩
  · cases LB
    · skip
      have hf := fldO1 (.string S) (.int .i64 o)
      go_enter Tryd.func22, Tryd.ntmps22
      go_wp2_with fail
      refine (unveil HB).mono ?_
      rintro e W1 ⟨rfl, hb⟩
      have HB1 := veil hb
      clear hb HB
      go_wp2_with (go_at_call 28; (first | with_reducible refine (unveil HLa _).mono ?_ | with_reducible refine (unveil HLb _).mono ?_); rintro e w' ⟨rfl, hw'⟩; obtain rfl := hw'.symm)
      go_ret2
      exact ⟨rfl, unveil HB1⟩
    · cases hl
end Go.Proofs.YtobfpdhfmbpidaaDoor
