/-
  The document's own Two, of shifts, over whatever the calls tell.
-/
import Derived.Test.YtobfpdhfmbpidaaDoorGd
import Derived.Test.YtobfpdhfmbpidaaDoorGc
import Derived.Test.YtobfpdhfmbpidaaDoorGe
namespace Go.Proofs.YtobfpdhfmbpidaaDoor
open Go Go.RowKit
set_option linter.unusedVariables false
set_option linter.unusedSimpArgs false
set_option maxRecDepth 100000 in
set_option maxHeartbeats 4000000 in
theorem RT_arg (op a ak b bk : Int) (w : World)
    (HB : Hid (∀ W, Calls Tryd.prog 15 #[.int .i64 op] W fun e w' => e = .returned (.bool false) ∧ w' = W))
    : Calls Tryd.prog 19 #[.int .i64 op, .int .i64 a, .int .i64 ak, .int .i64 b, .int .i64 bk] w fun e w' => e = .returned (.tuple #[.int .i64 0, .int .i64 0, .int .i64 2]) ∧ w' = w := by
  go_enter Tryd.func19, Tryd.ntmps19
  go_wp2_with (first
    | (go_at_call 15; refine (unveil HB _).mono ?_; rintro e w' ⟨rfl, hw'⟩; obtain rfl := hw'.symm))
  go_ret3
  exact ⟨rfl, rfl⟩
set_option maxRecDepth 100000 in
set_option maxHeartbeats 4000000 in
theorem RT_kind (op a ak b bk : Int) (LA LB : Bool) (w : World) (hl : (LA && LB) = false)
    (HB : Hid (∀ W, Calls Tryd.prog 15 #[.int .i64 op] W fun e w' => e = .returned (.bool true) ∧ w' = W))
    (HLa : Hid (∀ W, Calls Tryd.prog 39 #[.int .i64 a, .int .i64 ak] W fun e w' => e = .returned (.bool LA) ∧ w' = W))
    (HLb : Hid (∀ W, Calls Tryd.prog 39 #[.int .i64 b, .int .i64 bk] W fun e w' => e = .returned (.bool LB) ∧ w' = W))
    : Calls Tryd.prog 19 #[.int .i64 op, .int .i64 a, .int .i64 ak, .int .i64 b, .int .i64 bk] w fun e w' => e = .returned (.tuple #[.int .i64 0, .int .i64 0, .int .i64 80]) ∧ w' = w := by
  cases LA <;> cases LB
  case true.true => cases hl
  all_goals (
    go_enter Tryd.func19, Tryd.ntmps19
    go_wp2_with (first
    | (go_at_call 15; refine (unveil HB _).mono ?_; rintro e w' ⟨rfl, hw'⟩; obtain rfl := hw'.symm)
    | (go_at_call 39; (first | with_reducible refine (unveil HLa _).mono ?_ | with_reducible refine (unveil HLb _).mono ?_); rintro e w' ⟨rfl, hw'⟩; obtain rfl := hw'.symm))
    go_ret3
    exact ⟨rfl, rfl⟩)
set_option maxRecDepth 100000 in
set_option maxHeartbeats 4000000 in
theorem RT_low6 (a ak b bk k ke : Int) (w : World) (h0 : b < 0)
    (HB : Hid (∀ W, Calls Tryd.prog 15 #[.int .i64 6] W fun e w' => e = .returned (.bool true) ∧ w' = W))
    (HLa : Hid (∀ W, Calls Tryd.prog 39 #[.int .i64 a, .int .i64 ak] W fun e w' => e = .returned (.bool true) ∧ w' = W))
    (HLb : Hid (∀ W, Calls Tryd.prog 39 #[.int .i64 b, .int .i64 bk] W fun e w' => e = .returned (.bool true) ∧ w' = W))
    (HI : Hid (∀ W, Calls Tryd.prog 33 #[.int .i64 6, .int .i64 ak, .int .i64 bk] W fun e w' => e = .returned (.tuple #[.int .i64 k, .int .i64 ke]) ∧ w' = W))
    : Calls Tryd.prog 19 #[.int .i64 6, .int .i64 a, .int .i64 ak, .int .i64 b, .int .i64 bk] w fun e w' => e = .returned (.tuple #[.int .i64 0, .int .i64 0, .int .i64 90]) ∧ w' = w := by
  go_enter Tryd.func19, Tryd.ntmps19
  go_wp2_with (first
    | (go_at_call 15; refine (unveil HB _).mono ?_; rintro e w' ⟨rfl, hw'⟩; obtain rfl := hw'.symm)
    | (go_at_call 39; (first | with_reducible refine (unveil HLa _).mono ?_ | with_reducible refine (unveil HLb _).mono ?_); rintro e w' ⟨rfl, hw'⟩; obtain rfl := hw'.symm)
    | (go_at_call 33; refine (unveil HI _).mono ?_; rintro e w' ⟨rfl, hw'⟩; obtain rfl := hw'.symm))
  go_ret3
  exact ⟨rfl, rfl⟩
set_option maxRecDepth 100000 in
set_option maxHeartbeats 4000000 in
theorem RT_high6_4 (a ak b bk k ke : Int) (w : World) (h0 : ¬ b < 0) (h1 : 32 ≤ b)
    (HB : Hid (∀ W, Calls Tryd.prog 15 #[.int .i64 6] W fun e w' => e = .returned (.bool true) ∧ w' = W))
    (HLa : Hid (∀ W, Calls Tryd.prog 39 #[.int .i64 a, .int .i64 ak] W fun e w' => e = .returned (.bool true) ∧ w' = W))
    (HLb : Hid (∀ W, Calls Tryd.prog 39 #[.int .i64 b, .int .i64 bk] W fun e w' => e = .returned (.bool true) ∧ w' = W))
    (HI : Hid (∀ W, Calls Tryd.prog 33 #[.int .i64 6, .int .i64 ak, .int .i64 bk] W fun e w' => e = .returned (.tuple #[.int .i64 k, .int .i64 ke]) ∧ w' = W))
    (HZ : Hid (∀ W, Calls Tryd.prog 40 #[.int .i64 k] W fun e w' => e = .returned (.int .i64 4) ∧ w' = W))
    : Calls Tryd.prog 19 #[.int .i64 6, .int .i64 a, .int .i64 ak, .int .i64 b, .int .i64 bk] w fun e w' => e = .returned (.tuple #[.int .i64 0, .int .i64 0, .int .i64 90]) ∧ w' = w := by
  go_enter Tryd.func19, Tryd.ntmps19
  go_wp2_with (first
    | (go_at_call 15; refine (unveil HB _).mono ?_; rintro e w' ⟨rfl, hw'⟩; obtain rfl := hw'.symm)
    | (go_at_call 39; (first | with_reducible refine (unveil HLa _).mono ?_ | with_reducible refine (unveil HLb _).mono ?_); rintro e w' ⟨rfl, hw'⟩; obtain rfl := hw'.symm)
    | (go_at_call 33; refine (unveil HI _).mono ?_; rintro e w' ⟨rfl, hw'⟩; obtain rfl := hw'.symm)
    | (go_at_call 40; refine (unveil HZ _).mono ?_; rintro e w' ⟨rfl, hw'⟩; obtain rfl := hw'.symm))
  go_ret3
  exact ⟨rfl, rfl⟩
set_option maxRecDepth 100000 in
set_option maxHeartbeats 4000000 in
theorem RT_sh6_4_true (a ak b bk k ke v : Int) (w : World) (h0 : ¬ b < 0) (h1 : ¬ 32 ≤ b)
    (HSh : Hid (∀ W, Calls Tryd.prog 41 #[.int .i64 6, .int .i64 k, .int .i64 a, .int .i64 b] W fun e w' => e = .returned (.tuple #[.int .i64 v, .bool true]) ∧ Below W.heap.size W w'))
    (HB : Hid (∀ W, Calls Tryd.prog 15 #[.int .i64 6] W fun e w' => e = .returned (.bool true) ∧ w' = W))
    (HLa : Hid (∀ W, Calls Tryd.prog 39 #[.int .i64 a, .int .i64 ak] W fun e w' => e = .returned (.bool true) ∧ w' = W))
    (HLb : Hid (∀ W, Calls Tryd.prog 39 #[.int .i64 b, .int .i64 bk] W fun e w' => e = .returned (.bool true) ∧ w' = W))
    (HI : Hid (∀ W, Calls Tryd.prog 33 #[.int .i64 6, .int .i64 ak, .int .i64 bk] W fun e w' => e = .returned (.tuple #[.int .i64 k, .int .i64 ke]) ∧ w' = W))
    (HZ : Hid (∀ W, Calls Tryd.prog 40 #[.int .i64 k] W fun e w' => e = .returned (.int .i64 4) ∧ w' = W))
    : Calls Tryd.prog 19 #[.int .i64 6, .int .i64 a, .int .i64 ak, .int .i64 b, .int .i64 bk] w fun e w' => e = .returned (.tuple #[.int .i64 v, .int .i64 k, .int .i64 0]) ∧ Below w.heap.size w w' := by
  go_enter Tryd.func19, Tryd.ntmps19
  go_wp2_with (first
    | (go_at_call 15; refine (unveil HB _).mono ?_; rintro e w' ⟨rfl, hw'⟩; obtain rfl := hw'.symm)
    | (go_at_call 39; (first | with_reducible refine (unveil HLa _).mono ?_ | with_reducible refine (unveil HLb _).mono ?_); rintro e w' ⟨rfl, hw'⟩; obtain rfl := hw'.symm)
    | (go_at_call 33; refine (unveil HI _).mono ?_; rintro e w' ⟨rfl, hw'⟩; obtain rfl := hw'.symm)
    | (go_at_call 40; refine (unveil HZ _).mono ?_; rintro e w' ⟨rfl, hw'⟩; obtain rfl := hw'.symm))
  refine (unveil HSh _).mono ?_
  rintro e W1 ⟨rfl, hb⟩
  have HB1 := veil hb
  clear hb
  go_wp2_with (first
    | (go_at_call 15; refine (unveil HB _).mono ?_; rintro e w' ⟨rfl, hw'⟩; obtain rfl := hw'.symm)
    | (go_at_call 39; (first | with_reducible refine (unveil HLa _).mono ?_ | with_reducible refine (unveil HLb _).mono ?_); rintro e w' ⟨rfl, hw'⟩; obtain rfl := hw'.symm)
    | (go_at_call 33; refine (unveil HI _).mono ?_; rintro e w' ⟨rfl, hw'⟩; obtain rfl := hw'.symm)
    | (go_at_call 40; refine (unveil HZ _).mono ?_; rintro e w' ⟨rfl, hw'⟩; obtain rfl := hw'.symm))
  go_ret3
  exact ⟨rfl, unveil HB1⟩
set_option maxRecDepth 100000 in
set_option maxHeartbeats 4000000 in
theorem RT_sh6_4_false (a ak b bk k ke v : Int) (w : World) (h0 : ¬ b < 0) (h1 : ¬ 32 ≤ b)
    (HSh : Hid (∀ W, Calls Tryd.prog 41 #[.int .i64 6, .int .i64 k, .int .i64 a, .int .i64 b] W fun e w' => e = .returned (.tuple #[.int .i64 v, .bool false]) ∧ Below W.heap.size W w'))
    (HB : Hid (∀ W, Calls Tryd.prog 15 #[.int .i64 6] W fun e w' => e = .returned (.bool true) ∧ w' = W))
    (HLa : Hid (∀ W, Calls Tryd.prog 39 #[.int .i64 a, .int .i64 ak] W fun e w' => e = .returned (.bool true) ∧ w' = W))
    (HLb : Hid (∀ W, Calls Tryd.prog 39 #[.int .i64 b, .int .i64 bk] W fun e w' => e = .returned (.bool true) ∧ w' = W))
    (HI : Hid (∀ W, Calls Tryd.prog 33 #[.int .i64 6, .int .i64 ak, .int .i64 bk] W fun e w' => e = .returned (.tuple #[.int .i64 k, .int .i64 ke]) ∧ w' = W))
    (HZ : Hid (∀ W, Calls Tryd.prog 40 #[.int .i64 k] W fun e w' => e = .returned (.int .i64 4) ∧ w' = W))
    : Calls Tryd.prog 19 #[.int .i64 6, .int .i64 a, .int .i64 ak, .int .i64 b, .int .i64 bk] w fun e w' => e = .returned (.tuple #[.int .i64 0, .int .i64 0, .int .i64 90]) ∧ Below w.heap.size w w' := by
  go_enter Tryd.func19, Tryd.ntmps19
  go_wp2_with (first
    | (go_at_call 15; refine (unveil HB _).mono ?_; rintro e w' ⟨rfl, hw'⟩; obtain rfl := hw'.symm)
    | (go_at_call 39; (first | with_reducible refine (unveil HLa _).mono ?_ | with_reducible refine (unveil HLb _).mono ?_); rintro e w' ⟨rfl, hw'⟩; obtain rfl := hw'.symm)
    | (go_at_call 33; refine (unveil HI _).mono ?_; rintro e w' ⟨rfl, hw'⟩; obtain rfl := hw'.symm)
    | (go_at_call 40; refine (unveil HZ _).mono ?_; rintro e w' ⟨rfl, hw'⟩; obtain rfl := hw'.symm))
  refine (unveil HSh _).mono ?_
  rintro e W1 ⟨rfl, hb⟩
  have HB1 := veil hb
  clear hb
  go_wp2_with (first
    | (go_at_call 15; refine (unveil HB _).mono ?_; rintro e w' ⟨rfl, hw'⟩; obtain rfl := hw'.symm)
    | (go_at_call 39; (first | with_reducible refine (unveil HLa _).mono ?_ | with_reducible refine (unveil HLb _).mono ?_); rintro e w' ⟨rfl, hw'⟩; obtain rfl := hw'.symm)
    | (go_at_call 33; refine (unveil HI _).mono ?_; rintro e w' ⟨rfl, hw'⟩; obtain rfl := hw'.symm)
    | (go_at_call 40; refine (unveil HZ _).mono ?_; rintro e w' ⟨rfl, hw'⟩; obtain rfl := hw'.symm))
  go_ret3
  exact ⟨rfl, unveil HB1⟩
set_option maxRecDepth 100000 in
set_option maxHeartbeats 4000000 in
theorem RT_high6_8 (a ak b bk k ke : Int) (w : World) (h0 : ¬ b < 0) (h1 : 64 ≤ b)
    (HB : Hid (∀ W, Calls Tryd.prog 15 #[.int .i64 6] W fun e w' => e = .returned (.bool true) ∧ w' = W))
    (HLa : Hid (∀ W, Calls Tryd.prog 39 #[.int .i64 a, .int .i64 ak] W fun e w' => e = .returned (.bool true) ∧ w' = W))
    (HLb : Hid (∀ W, Calls Tryd.prog 39 #[.int .i64 b, .int .i64 bk] W fun e w' => e = .returned (.bool true) ∧ w' = W))
    (HI : Hid (∀ W, Calls Tryd.prog 33 #[.int .i64 6, .int .i64 ak, .int .i64 bk] W fun e w' => e = .returned (.tuple #[.int .i64 k, .int .i64 ke]) ∧ w' = W))
    (HZ : Hid (∀ W, Calls Tryd.prog 40 #[.int .i64 k] W fun e w' => e = .returned (.int .i64 8) ∧ w' = W))
    : Calls Tryd.prog 19 #[.int .i64 6, .int .i64 a, .int .i64 ak, .int .i64 b, .int .i64 bk] w fun e w' => e = .returned (.tuple #[.int .i64 0, .int .i64 0, .int .i64 90]) ∧ w' = w := by
  go_enter Tryd.func19, Tryd.ntmps19
  go_wp2_with (first
    | (go_at_call 15; refine (unveil HB _).mono ?_; rintro e w' ⟨rfl, hw'⟩; obtain rfl := hw'.symm)
    | (go_at_call 39; (first | with_reducible refine (unveil HLa _).mono ?_ | with_reducible refine (unveil HLb _).mono ?_); rintro e w' ⟨rfl, hw'⟩; obtain rfl := hw'.symm)
    | (go_at_call 33; refine (unveil HI _).mono ?_; rintro e w' ⟨rfl, hw'⟩; obtain rfl := hw'.symm)
    | (go_at_call 40; refine (unveil HZ _).mono ?_; rintro e w' ⟨rfl, hw'⟩; obtain rfl := hw'.symm))
  go_ret3
  exact ⟨rfl, rfl⟩
set_option maxRecDepth 100000 in
set_option maxHeartbeats 4000000 in
theorem RT_sh6_8_true (a ak b bk k ke v : Int) (w : World) (h0 : ¬ b < 0) (h1 : ¬ 64 ≤ b)
    (HSh : Hid (∀ W, Calls Tryd.prog 41 #[.int .i64 6, .int .i64 k, .int .i64 a, .int .i64 b] W fun e w' => e = .returned (.tuple #[.int .i64 v, .bool true]) ∧ Below W.heap.size W w'))
    (HB : Hid (∀ W, Calls Tryd.prog 15 #[.int .i64 6] W fun e w' => e = .returned (.bool true) ∧ w' = W))
    (HLa : Hid (∀ W, Calls Tryd.prog 39 #[.int .i64 a, .int .i64 ak] W fun e w' => e = .returned (.bool true) ∧ w' = W))
    (HLb : Hid (∀ W, Calls Tryd.prog 39 #[.int .i64 b, .int .i64 bk] W fun e w' => e = .returned (.bool true) ∧ w' = W))
    (HI : Hid (∀ W, Calls Tryd.prog 33 #[.int .i64 6, .int .i64 ak, .int .i64 bk] W fun e w' => e = .returned (.tuple #[.int .i64 k, .int .i64 ke]) ∧ w' = W))
    (HZ : Hid (∀ W, Calls Tryd.prog 40 #[.int .i64 k] W fun e w' => e = .returned (.int .i64 8) ∧ w' = W))
    : Calls Tryd.prog 19 #[.int .i64 6, .int .i64 a, .int .i64 ak, .int .i64 b, .int .i64 bk] w fun e w' => e = .returned (.tuple #[.int .i64 v, .int .i64 k, .int .i64 0]) ∧ Below w.heap.size w w' := by
  go_enter Tryd.func19, Tryd.ntmps19
  go_wp2_with (first
    | (go_at_call 15; refine (unveil HB _).mono ?_; rintro e w' ⟨rfl, hw'⟩; obtain rfl := hw'.symm)
    | (go_at_call 39; (first | with_reducible refine (unveil HLa _).mono ?_ | with_reducible refine (unveil HLb _).mono ?_); rintro e w' ⟨rfl, hw'⟩; obtain rfl := hw'.symm)
    | (go_at_call 33; refine (unveil HI _).mono ?_; rintro e w' ⟨rfl, hw'⟩; obtain rfl := hw'.symm)
    | (go_at_call 40; refine (unveil HZ _).mono ?_; rintro e w' ⟨rfl, hw'⟩; obtain rfl := hw'.symm))
  refine (unveil HSh _).mono ?_
  rintro e W1 ⟨rfl, hb⟩
  have HB1 := veil hb
  clear hb
  go_wp2_with (first
    | (go_at_call 15; refine (unveil HB _).mono ?_; rintro e w' ⟨rfl, hw'⟩; obtain rfl := hw'.symm)
    | (go_at_call 39; (first | with_reducible refine (unveil HLa _).mono ?_ | with_reducible refine (unveil HLb _).mono ?_); rintro e w' ⟨rfl, hw'⟩; obtain rfl := hw'.symm)
    | (go_at_call 33; refine (unveil HI _).mono ?_; rintro e w' ⟨rfl, hw'⟩; obtain rfl := hw'.symm)
    | (go_at_call 40; refine (unveil HZ _).mono ?_; rintro e w' ⟨rfl, hw'⟩; obtain rfl := hw'.symm))
  go_ret3
  exact ⟨rfl, unveil HB1⟩
set_option maxRecDepth 100000 in
set_option maxHeartbeats 4000000 in
theorem RT_sh6_8_false (a ak b bk k ke v : Int) (w : World) (h0 : ¬ b < 0) (h1 : ¬ 64 ≤ b)
    (HSh : Hid (∀ W, Calls Tryd.prog 41 #[.int .i64 6, .int .i64 k, .int .i64 a, .int .i64 b] W fun e w' => e = .returned (.tuple #[.int .i64 v, .bool false]) ∧ Below W.heap.size W w'))
    (HB : Hid (∀ W, Calls Tryd.prog 15 #[.int .i64 6] W fun e w' => e = .returned (.bool true) ∧ w' = W))
    (HLa : Hid (∀ W, Calls Tryd.prog 39 #[.int .i64 a, .int .i64 ak] W fun e w' => e = .returned (.bool true) ∧ w' = W))
    (HLb : Hid (∀ W, Calls Tryd.prog 39 #[.int .i64 b, .int .i64 bk] W fun e w' => e = .returned (.bool true) ∧ w' = W))
    (HI : Hid (∀ W, Calls Tryd.prog 33 #[.int .i64 6, .int .i64 ak, .int .i64 bk] W fun e w' => e = .returned (.tuple #[.int .i64 k, .int .i64 ke]) ∧ w' = W))
    (HZ : Hid (∀ W, Calls Tryd.prog 40 #[.int .i64 k] W fun e w' => e = .returned (.int .i64 8) ∧ w' = W))
    : Calls Tryd.prog 19 #[.int .i64 6, .int .i64 a, .int .i64 ak, .int .i64 b, .int .i64 bk] w fun e w' => e = .returned (.tuple #[.int .i64 0, .int .i64 0, .int .i64 90]) ∧ Below w.heap.size w w' := by
  go_enter Tryd.func19, Tryd.ntmps19
  go_wp2_with (first
    | (go_at_call 15; refine (unveil HB _).mono ?_; rintro e w' ⟨rfl, hw'⟩; obtain rfl := hw'.symm)
    | (go_at_call 39; (first | with_reducible refine (unveil HLa _).mono ?_ | with_reducible refine (unveil HLb _).mono ?_); rintro e w' ⟨rfl, hw'⟩; obtain rfl := hw'.symm)
    | (go_at_call 33; refine (unveil HI _).mono ?_; rintro e w' ⟨rfl, hw'⟩; obtain rfl := hw'.symm)
    | (go_at_call 40; refine (unveil HZ _).mono ?_; rintro e w' ⟨rfl, hw'⟩; obtain rfl := hw'.symm))
  refine (unveil HSh _).mono ?_
  rintro e W1 ⟨rfl, hb⟩
  have HB1 := veil hb
  clear hb
  go_wp2_with (first
    | (go_at_call 15; refine (unveil HB _).mono ?_; rintro e w' ⟨rfl, hw'⟩; obtain rfl := hw'.symm)
    | (go_at_call 39; (first | with_reducible refine (unveil HLa _).mono ?_ | with_reducible refine (unveil HLb _).mono ?_); rintro e w' ⟨rfl, hw'⟩; obtain rfl := hw'.symm)
    | (go_at_call 33; refine (unveil HI _).mono ?_; rintro e w' ⟨rfl, hw'⟩; obtain rfl := hw'.symm)
    | (go_at_call 40; refine (unveil HZ _).mono ?_; rintro e w' ⟨rfl, hw'⟩; obtain rfl := hw'.symm))
  go_ret3
  exact ⟨rfl, unveil HB1⟩
set_option maxRecDepth 100000 in
set_option maxHeartbeats 4000000 in
theorem RT_low7 (a ak b bk k ke : Int) (w : World) (h0 : b < 0)
    (HB : Hid (∀ W, Calls Tryd.prog 15 #[.int .i64 7] W fun e w' => e = .returned (.bool true) ∧ w' = W))
    (HLa : Hid (∀ W, Calls Tryd.prog 39 #[.int .i64 a, .int .i64 ak] W fun e w' => e = .returned (.bool true) ∧ w' = W))
    (HLb : Hid (∀ W, Calls Tryd.prog 39 #[.int .i64 b, .int .i64 bk] W fun e w' => e = .returned (.bool true) ∧ w' = W))
    (HI : Hid (∀ W, Calls Tryd.prog 33 #[.int .i64 7, .int .i64 ak, .int .i64 bk] W fun e w' => e = .returned (.tuple #[.int .i64 k, .int .i64 ke]) ∧ w' = W))
    : Calls Tryd.prog 19 #[.int .i64 7, .int .i64 a, .int .i64 ak, .int .i64 b, .int .i64 bk] w fun e w' => e = .returned (.tuple #[.int .i64 0, .int .i64 0, .int .i64 90]) ∧ w' = w := by
  go_enter Tryd.func19, Tryd.ntmps19
  go_wp2_with (first
    | (go_at_call 15; refine (unveil HB _).mono ?_; rintro e w' ⟨rfl, hw'⟩; obtain rfl := hw'.symm)
    | (go_at_call 39; (first | with_reducible refine (unveil HLa _).mono ?_ | with_reducible refine (unveil HLb _).mono ?_); rintro e w' ⟨rfl, hw'⟩; obtain rfl := hw'.symm)
    | (go_at_call 33; refine (unveil HI _).mono ?_; rintro e w' ⟨rfl, hw'⟩; obtain rfl := hw'.symm))
  go_ret3
  exact ⟨rfl, rfl⟩
set_option maxRecDepth 100000 in
set_option maxHeartbeats 4000000 in
theorem RT_high7_4 (a ak b bk k ke : Int) (w : World) (h0 : ¬ b < 0) (h1 : 32 ≤ b)
    (HB : Hid (∀ W, Calls Tryd.prog 15 #[.int .i64 7] W fun e w' => e = .returned (.bool true) ∧ w' = W))
    (HLa : Hid (∀ W, Calls Tryd.prog 39 #[.int .i64 a, .int .i64 ak] W fun e w' => e = .returned (.bool true) ∧ w' = W))
    (HLb : Hid (∀ W, Calls Tryd.prog 39 #[.int .i64 b, .int .i64 bk] W fun e w' => e = .returned (.bool true) ∧ w' = W))
    (HI : Hid (∀ W, Calls Tryd.prog 33 #[.int .i64 7, .int .i64 ak, .int .i64 bk] W fun e w' => e = .returned (.tuple #[.int .i64 k, .int .i64 ke]) ∧ w' = W))
    (HZ : Hid (∀ W, Calls Tryd.prog 40 #[.int .i64 k] W fun e w' => e = .returned (.int .i64 4) ∧ w' = W))
    : Calls Tryd.prog 19 #[.int .i64 7, .int .i64 a, .int .i64 ak, .int .i64 b, .int .i64 bk] w fun e w' => e = .returned (.tuple #[.int .i64 0, .int .i64 0, .int .i64 90]) ∧ w' = w := by
  go_enter Tryd.func19, Tryd.ntmps19
  go_wp2_with (first
    | (go_at_call 15; refine (unveil HB _).mono ?_; rintro e w' ⟨rfl, hw'⟩; obtain rfl := hw'.symm)
    | (go_at_call 39; (first | with_reducible refine (unveil HLa _).mono ?_ | with_reducible refine (unveil HLb _).mono ?_); rintro e w' ⟨rfl, hw'⟩; obtain rfl := hw'.symm)
    | (go_at_call 33; refine (unveil HI _).mono ?_; rintro e w' ⟨rfl, hw'⟩; obtain rfl := hw'.symm)
    | (go_at_call 40; refine (unveil HZ _).mono ?_; rintro e w' ⟨rfl, hw'⟩; obtain rfl := hw'.symm))
  go_ret3
  exact ⟨rfl, rfl⟩
set_option maxRecDepth 100000 in
set_option maxHeartbeats 4000000 in
theorem RT_sh7_4_true (a ak b bk k ke v : Int) (w : World) (h0 : ¬ b < 0) (h1 : ¬ 32 ≤ b)
    (HSh : Hid (∀ W, Calls Tryd.prog 41 #[.int .i64 7, .int .i64 k, .int .i64 a, .int .i64 b] W fun e w' => e = .returned (.tuple #[.int .i64 v, .bool true]) ∧ Below W.heap.size W w'))
    (HB : Hid (∀ W, Calls Tryd.prog 15 #[.int .i64 7] W fun e w' => e = .returned (.bool true) ∧ w' = W))
    (HLa : Hid (∀ W, Calls Tryd.prog 39 #[.int .i64 a, .int .i64 ak] W fun e w' => e = .returned (.bool true) ∧ w' = W))
    (HLb : Hid (∀ W, Calls Tryd.prog 39 #[.int .i64 b, .int .i64 bk] W fun e w' => e = .returned (.bool true) ∧ w' = W))
    (HI : Hid (∀ W, Calls Tryd.prog 33 #[.int .i64 7, .int .i64 ak, .int .i64 bk] W fun e w' => e = .returned (.tuple #[.int .i64 k, .int .i64 ke]) ∧ w' = W))
    (HZ : Hid (∀ W, Calls Tryd.prog 40 #[.int .i64 k] W fun e w' => e = .returned (.int .i64 4) ∧ w' = W))
    : Calls Tryd.prog 19 #[.int .i64 7, .int .i64 a, .int .i64 ak, .int .i64 b, .int .i64 bk] w fun e w' => e = .returned (.tuple #[.int .i64 v, .int .i64 k, .int .i64 0]) ∧ Below w.heap.size w w' := by
  go_enter Tryd.func19, Tryd.ntmps19
  go_wp2_with (first
    | (go_at_call 15; refine (unveil HB _).mono ?_; rintro e w' ⟨rfl, hw'⟩; obtain rfl := hw'.symm)
    | (go_at_call 39; (first | with_reducible refine (unveil HLa _).mono ?_ | with_reducible refine (unveil HLb _).mono ?_); rintro e w' ⟨rfl, hw'⟩; obtain rfl := hw'.symm)
    | (go_at_call 33; refine (unveil HI _).mono ?_; rintro e w' ⟨rfl, hw'⟩; obtain rfl := hw'.symm)
    | (go_at_call 40; refine (unveil HZ _).mono ?_; rintro e w' ⟨rfl, hw'⟩; obtain rfl := hw'.symm))
  refine (unveil HSh _).mono ?_
  rintro e W1 ⟨rfl, hb⟩
  have HB1 := veil hb
  clear hb
  go_wp2_with (first
    | (go_at_call 15; refine (unveil HB _).mono ?_; rintro e w' ⟨rfl, hw'⟩; obtain rfl := hw'.symm)
    | (go_at_call 39; (first | with_reducible refine (unveil HLa _).mono ?_ | with_reducible refine (unveil HLb _).mono ?_); rintro e w' ⟨rfl, hw'⟩; obtain rfl := hw'.symm)
    | (go_at_call 33; refine (unveil HI _).mono ?_; rintro e w' ⟨rfl, hw'⟩; obtain rfl := hw'.symm)
    | (go_at_call 40; refine (unveil HZ _).mono ?_; rintro e w' ⟨rfl, hw'⟩; obtain rfl := hw'.symm))
  go_ret3
  exact ⟨rfl, unveil HB1⟩
set_option maxRecDepth 100000 in
set_option maxHeartbeats 4000000 in
theorem RT_sh7_4_false (a ak b bk k ke v : Int) (w : World) (h0 : ¬ b < 0) (h1 : ¬ 32 ≤ b)
    (HSh : Hid (∀ W, Calls Tryd.prog 41 #[.int .i64 7, .int .i64 k, .int .i64 a, .int .i64 b] W fun e w' => e = .returned (.tuple #[.int .i64 v, .bool false]) ∧ Below W.heap.size W w'))
    (HB : Hid (∀ W, Calls Tryd.prog 15 #[.int .i64 7] W fun e w' => e = .returned (.bool true) ∧ w' = W))
    (HLa : Hid (∀ W, Calls Tryd.prog 39 #[.int .i64 a, .int .i64 ak] W fun e w' => e = .returned (.bool true) ∧ w' = W))
    (HLb : Hid (∀ W, Calls Tryd.prog 39 #[.int .i64 b, .int .i64 bk] W fun e w' => e = .returned (.bool true) ∧ w' = W))
    (HI : Hid (∀ W, Calls Tryd.prog 33 #[.int .i64 7, .int .i64 ak, .int .i64 bk] W fun e w' => e = .returned (.tuple #[.int .i64 k, .int .i64 ke]) ∧ w' = W))
    (HZ : Hid (∀ W, Calls Tryd.prog 40 #[.int .i64 k] W fun e w' => e = .returned (.int .i64 4) ∧ w' = W))
    : Calls Tryd.prog 19 #[.int .i64 7, .int .i64 a, .int .i64 ak, .int .i64 b, .int .i64 bk] w fun e w' => e = .returned (.tuple #[.int .i64 0, .int .i64 0, .int .i64 90]) ∧ Below w.heap.size w w' := by
  go_enter Tryd.func19, Tryd.ntmps19
  go_wp2_with (first
    | (go_at_call 15; refine (unveil HB _).mono ?_; rintro e w' ⟨rfl, hw'⟩; obtain rfl := hw'.symm)
    | (go_at_call 39; (first | with_reducible refine (unveil HLa _).mono ?_ | with_reducible refine (unveil HLb _).mono ?_); rintro e w' ⟨rfl, hw'⟩; obtain rfl := hw'.symm)
    | (go_at_call 33; refine (unveil HI _).mono ?_; rintro e w' ⟨rfl, hw'⟩; obtain rfl := hw'.symm)
    | (go_at_call 40; refine (unveil HZ _).mono ?_; rintro e w' ⟨rfl, hw'⟩; obtain rfl := hw'.symm))
  refine (unveil HSh _).mono ?_
  rintro e W1 ⟨rfl, hb⟩
  have HB1 := veil hb
  clear hb
  go_wp2_with (first
    | (go_at_call 15; refine (unveil HB _).mono ?_; rintro e w' ⟨rfl, hw'⟩; obtain rfl := hw'.symm)
    | (go_at_call 39; (first | with_reducible refine (unveil HLa _).mono ?_ | with_reducible refine (unveil HLb _).mono ?_); rintro e w' ⟨rfl, hw'⟩; obtain rfl := hw'.symm)
    | (go_at_call 33; refine (unveil HI _).mono ?_; rintro e w' ⟨rfl, hw'⟩; obtain rfl := hw'.symm)
    | (go_at_call 40; refine (unveil HZ _).mono ?_; rintro e w' ⟨rfl, hw'⟩; obtain rfl := hw'.symm))
  go_ret3
  exact ⟨rfl, unveil HB1⟩
set_option maxRecDepth 100000 in
set_option maxHeartbeats 4000000 in
theorem RT_high7_8 (a ak b bk k ke : Int) (w : World) (h0 : ¬ b < 0) (h1 : 64 ≤ b)
    (HB : Hid (∀ W, Calls Tryd.prog 15 #[.int .i64 7] W fun e w' => e = .returned (.bool true) ∧ w' = W))
    (HLa : Hid (∀ W, Calls Tryd.prog 39 #[.int .i64 a, .int .i64 ak] W fun e w' => e = .returned (.bool true) ∧ w' = W))
    (HLb : Hid (∀ W, Calls Tryd.prog 39 #[.int .i64 b, .int .i64 bk] W fun e w' => e = .returned (.bool true) ∧ w' = W))
    (HI : Hid (∀ W, Calls Tryd.prog 33 #[.int .i64 7, .int .i64 ak, .int .i64 bk] W fun e w' => e = .returned (.tuple #[.int .i64 k, .int .i64 ke]) ∧ w' = W))
    (HZ : Hid (∀ W, Calls Tryd.prog 40 #[.int .i64 k] W fun e w' => e = .returned (.int .i64 8) ∧ w' = W))
    : Calls Tryd.prog 19 #[.int .i64 7, .int .i64 a, .int .i64 ak, .int .i64 b, .int .i64 bk] w fun e w' => e = .returned (.tuple #[.int .i64 0, .int .i64 0, .int .i64 90]) ∧ w' = w := by
  go_enter Tryd.func19, Tryd.ntmps19
  go_wp2_with (first
    | (go_at_call 15; refine (unveil HB _).mono ?_; rintro e w' ⟨rfl, hw'⟩; obtain rfl := hw'.symm)
    | (go_at_call 39; (first | with_reducible refine (unveil HLa _).mono ?_ | with_reducible refine (unveil HLb _).mono ?_); rintro e w' ⟨rfl, hw'⟩; obtain rfl := hw'.symm)
    | (go_at_call 33; refine (unveil HI _).mono ?_; rintro e w' ⟨rfl, hw'⟩; obtain rfl := hw'.symm)
    | (go_at_call 40; refine (unveil HZ _).mono ?_; rintro e w' ⟨rfl, hw'⟩; obtain rfl := hw'.symm))
  go_ret3
  exact ⟨rfl, rfl⟩
set_option maxRecDepth 100000 in
set_option maxHeartbeats 4000000 in
theorem RT_sh7_8_true (a ak b bk k ke v : Int) (w : World) (h0 : ¬ b < 0) (h1 : ¬ 64 ≤ b)
    (HSh : Hid (∀ W, Calls Tryd.prog 41 #[.int .i64 7, .int .i64 k, .int .i64 a, .int .i64 b] W fun e w' => e = .returned (.tuple #[.int .i64 v, .bool true]) ∧ Below W.heap.size W w'))
    (HB : Hid (∀ W, Calls Tryd.prog 15 #[.int .i64 7] W fun e w' => e = .returned (.bool true) ∧ w' = W))
    (HLa : Hid (∀ W, Calls Tryd.prog 39 #[.int .i64 a, .int .i64 ak] W fun e w' => e = .returned (.bool true) ∧ w' = W))
    (HLb : Hid (∀ W, Calls Tryd.prog 39 #[.int .i64 b, .int .i64 bk] W fun e w' => e = .returned (.bool true) ∧ w' = W))
    (HI : Hid (∀ W, Calls Tryd.prog 33 #[.int .i64 7, .int .i64 ak, .int .i64 bk] W fun e w' => e = .returned (.tuple #[.int .i64 k, .int .i64 ke]) ∧ w' = W))
    (HZ : Hid (∀ W, Calls Tryd.prog 40 #[.int .i64 k] W fun e w' => e = .returned (.int .i64 8) ∧ w' = W))
    : Calls Tryd.prog 19 #[.int .i64 7, .int .i64 a, .int .i64 ak, .int .i64 b, .int .i64 bk] w fun e w' => e = .returned (.tuple #[.int .i64 v, .int .i64 k, .int .i64 0]) ∧ Below w.heap.size w w' := by
  go_enter Tryd.func19, Tryd.ntmps19
  go_wp2_with (first
    | (go_at_call 15; refine (unveil HB _).mono ?_; rintro e w' ⟨rfl, hw'⟩; obtain rfl := hw'.symm)
    | (go_at_call 39; (first | with_reducible refine (unveil HLa _).mono ?_ | with_reducible refine (unveil HLb _).mono ?_); rintro e w' ⟨rfl, hw'⟩; obtain rfl := hw'.symm)
    | (go_at_call 33; refine (unveil HI _).mono ?_; rintro e w' ⟨rfl, hw'⟩; obtain rfl := hw'.symm)
    | (go_at_call 40; refine (unveil HZ _).mono ?_; rintro e w' ⟨rfl, hw'⟩; obtain rfl := hw'.symm))
  refine (unveil HSh _).mono ?_
  rintro e W1 ⟨rfl, hb⟩
  have HB1 := veil hb
  clear hb
  go_wp2_with (first
    | (go_at_call 15; refine (unveil HB _).mono ?_; rintro e w' ⟨rfl, hw'⟩; obtain rfl := hw'.symm)
    | (go_at_call 39; (first | with_reducible refine (unveil HLa _).mono ?_ | with_reducible refine (unveil HLb _).mono ?_); rintro e w' ⟨rfl, hw'⟩; obtain rfl := hw'.symm)
    | (go_at_call 33; refine (unveil HI _).mono ?_; rintro e w' ⟨rfl, hw'⟩; obtain rfl := hw'.symm)
    | (go_at_call 40; refine (unveil HZ _).mono ?_; rintro e w' ⟨rfl, hw'⟩; obtain rfl := hw'.symm))
  go_ret3
  exact ⟨rfl, unveil HB1⟩
set_option maxRecDepth 100000 in
set_option maxHeartbeats 4000000 in
theorem RT_sh7_8_false (a ak b bk k ke v : Int) (w : World) (h0 : ¬ b < 0) (h1 : ¬ 64 ≤ b)
    (HSh : Hid (∀ W, Calls Tryd.prog 41 #[.int .i64 7, .int .i64 k, .int .i64 a, .int .i64 b] W fun e w' => e = .returned (.tuple #[.int .i64 v, .bool false]) ∧ Below W.heap.size W w'))
    (HB : Hid (∀ W, Calls Tryd.prog 15 #[.int .i64 7] W fun e w' => e = .returned (.bool true) ∧ w' = W))
    (HLa : Hid (∀ W, Calls Tryd.prog 39 #[.int .i64 a, .int .i64 ak] W fun e w' => e = .returned (.bool true) ∧ w' = W))
    (HLb : Hid (∀ W, Calls Tryd.prog 39 #[.int .i64 b, .int .i64 bk] W fun e w' => e = .returned (.bool true) ∧ w' = W))
    (HI : Hid (∀ W, Calls Tryd.prog 33 #[.int .i64 7, .int .i64 ak, .int .i64 bk] W fun e w' => e = .returned (.tuple #[.int .i64 k, .int .i64 ke]) ∧ w' = W))
    (HZ : Hid (∀ W, Calls Tryd.prog 40 #[.int .i64 k] W fun e w' => e = .returned (.int .i64 8) ∧ w' = W))
    : Calls Tryd.prog 19 #[.int .i64 7, .int .i64 a, .int .i64 ak, .int .i64 b, .int .i64 bk] w fun e w' => e = .returned (.tuple #[.int .i64 0, .int .i64 0, .int .i64 90]) ∧ Below w.heap.size w w' := by
  go_enter Tryd.func19, Tryd.ntmps19
  go_wp2_with (first
    | (go_at_call 15; refine (unveil HB _).mono ?_; rintro e w' ⟨rfl, hw'⟩; obtain rfl := hw'.symm)
    | (go_at_call 39; (first | with_reducible refine (unveil HLa _).mono ?_ | with_reducible refine (unveil HLb _).mono ?_); rintro e w' ⟨rfl, hw'⟩; obtain rfl := hw'.symm)
    | (go_at_call 33; refine (unveil HI _).mono ?_; rintro e w' ⟨rfl, hw'⟩; obtain rfl := hw'.symm)
    | (go_at_call 40; refine (unveil HZ _).mono ?_; rintro e w' ⟨rfl, hw'⟩; obtain rfl := hw'.symm))
  refine (unveil HSh _).mono ?_
  rintro e W1 ⟨rfl, hb⟩
  have HB1 := veil hb
  clear hb
  go_wp2_with (first
    | (go_at_call 15; refine (unveil HB _).mono ?_; rintro e w' ⟨rfl, hw'⟩; obtain rfl := hw'.symm)
    | (go_at_call 39; (first | with_reducible refine (unveil HLa _).mono ?_ | with_reducible refine (unveil HLb _).mono ?_); rintro e w' ⟨rfl, hw'⟩; obtain rfl := hw'.symm)
    | (go_at_call 33; refine (unveil HI _).mono ?_; rintro e w' ⟨rfl, hw'⟩; obtain rfl := hw'.symm)
    | (go_at_call 40; refine (unveil HZ _).mono ?_; rintro e w' ⟨rfl, hw'⟩; obtain rfl := hw'.symm))
  go_ret3
  exact ⟨rfl, unveil HB1⟩
end Go.Proofs.YtobfpdhfmbpidaaDoor
