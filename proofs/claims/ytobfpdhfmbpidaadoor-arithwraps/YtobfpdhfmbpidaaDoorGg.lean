/-
  The document's own Two, but of shifts, over whatever the calls tell.
-/
import Derived.Test.YtobfpdhfmbpidaaDoorGd
import Derived.Test.YtobfpdhfmbpidaaDoorGc
import Derived.Test.YtobfpdhfmbpidaaDoorGe
namespace Go.Proofs.YtobfpdhfmbpidaaDoor
open Go Go.RowKit
set_option linter.unusedVariables false
set_option linter.unusedSimpArgs false
set_option maxRecDepth 100000 in
set_option maxHeartbeats 4000000 in
theorem RT_truth (op a ak b bk k ke x ex y ey c : Int) (w : World) (h6 : (op == 6) = false) (h7 : (op == 7) = false)
    (HB : Hid (∀ W, Calls Tryd.prog 15 #[.int .i64 op] W fun e w' => e = .returned (.bool true) ∧ w' = W))
    (HLa : Hid (∀ W, Calls Tryd.prog 39 #[.int .i64 a, .int .i64 ak] W fun e w' => e = .returned (.bool true) ∧ w' = W))
    (HLb : Hid (∀ W, Calls Tryd.prog 39 #[.int .i64 b, .int .i64 bk] W fun e w' => e = .returned (.bool true) ∧ w' = W))
    (HI : Hid (∀ W, Calls Tryd.prog 33 #[.int .i64 op, .int .i64 ak, .int .i64 bk] W fun e w' => e = .returned (.tuple #[.int .i64 k, .int .i64 ke]) ∧ w' = W))
    (HTa : Hid (∀ W, Calls Tryd.prog 42 #[.int .i64 a, .int .i64 k] W fun e w' => e = .returned (.tuple #[.int .i64 x, .int .i64 ex]) ∧ w' = W))
    (HTb : Hid (∀ W, Calls Tryd.prog 42 #[.int .i64 b, .int .i64 k] W fun e w' => e = .returned (.tuple #[.int .i64 y, .int .i64 ey]) ∧ w' = W))
    (HQ : Hid (∀ W, Calls Tryd.prog 34 #[.int .i64 op] W fun e w' => e = .returned (.bool true) ∧ w' = W))
    (HC : Hid (∀ W, Calls Tryd.prog 43 #[.int .i64 op, .int .i64 k, .int .i64 x, .int .i64 y] W fun e w' => e = .returned (.int .i64 c) ∧ w' = W))
    : Calls Tryd.prog 19 #[.int .i64 op, .int .i64 a, .int .i64 ak, .int .i64 b, .int .i64 bk] w fun e w' => e = .returned (.tuple #[.int .i64 c, .int .i64 5, .int .i64 0]) ∧ w' = w := by
  go_enter Tryd.func19, Tryd.ntmps19
  go_wp2_with (first
    | (go_at_call 15; refine (unveil HB _).mono ?_; rintro e w' ⟨rfl, hw'⟩; obtain rfl := hw'.symm)
    | (go_at_call 39; (first | with_reducible refine (unveil HLa _).mono ?_ | with_reducible refine (unveil HLb _).mono ?_); rintro e w' ⟨rfl, hw'⟩; obtain rfl := hw'.symm)
    | (go_at_call 33; refine (unveil HI _).mono ?_; rintro e w' ⟨rfl, hw'⟩; obtain rfl := hw'.symm)
    | (go_at_call 42; (first | with_reducible refine (unveil HTa _).mono ?_ | with_reducible refine (unveil HTb _).mono ?_); rintro e w' ⟨rfl, hw'⟩; obtain rfl := hw'.symm)
    | (go_at_call 34; refine (unveil HQ _).mono ?_; rintro e w' ⟨rfl, hw'⟩; obtain rfl := hw'.symm)
    | (go_at_call 43; refine (unveil HC _).mono ?_; rintro e w' ⟨rfl, hw'⟩; obtain rfl := hw'.symm))
  go_ret3
  exact ⟨rfl, rfl⟩
set_option maxRecDepth 100000 in
set_option maxHeartbeats 4000000 in
theorem RT_div0_4 (a ak b bk k ke x ex y ey : Int) (w : World) (h0 : (y == 0) = true)
    (HB : Hid (∀ W, Calls Tryd.prog 15 #[.int .i64 4] W fun e w' => e = .returned (.bool true) ∧ w' = W))
    (HLa : Hid (∀ W, Calls Tryd.prog 39 #[.int .i64 a, .int .i64 ak] W fun e w' => e = .returned (.bool true) ∧ w' = W))
    (HLb : Hid (∀ W, Calls Tryd.prog 39 #[.int .i64 b, .int .i64 bk] W fun e w' => e = .returned (.bool true) ∧ w' = W))
    (HI : Hid (∀ W, Calls Tryd.prog 33 #[.int .i64 4, .int .i64 ak, .int .i64 bk] W fun e w' => e = .returned (.tuple #[.int .i64 k, .int .i64 ke]) ∧ w' = W))
    (HTa : Hid (∀ W, Calls Tryd.prog 42 #[.int .i64 a, .int .i64 k] W fun e w' => e = .returned (.tuple #[.int .i64 x, .int .i64 ex]) ∧ w' = W))
    (HTb : Hid (∀ W, Calls Tryd.prog 42 #[.int .i64 b, .int .i64 k] W fun e w' => e = .returned (.tuple #[.int .i64 y, .int .i64 ey]) ∧ w' = W))
    (HQ : Hid (∀ W, Calls Tryd.prog 34 #[.int .i64 4] W fun e w' => e = .returned (.bool false) ∧ w' = W))
    : Calls Tryd.prog 19 #[.int .i64 4, .int .i64 a, .int .i64 ak, .int .i64 b, .int .i64 bk] w fun e w' => e = .returned (.tuple #[.int .i64 0, .int .i64 0, .int .i64 90]) ∧ w' = w := by
  go_enter Tryd.func19, Tryd.ntmps19
  go_wp2_with (first
    | (go_at_call 15; refine (unveil HB _).mono ?_; rintro e w' ⟨rfl, hw'⟩; obtain rfl := hw'.symm)
    | (go_at_call 39; (first | with_reducible refine (unveil HLa _).mono ?_ | with_reducible refine (unveil HLb _).mono ?_); rintro e w' ⟨rfl, hw'⟩; obtain rfl := hw'.symm)
    | (go_at_call 33; refine (unveil HI _).mono ?_; rintro e w' ⟨rfl, hw'⟩; obtain rfl := hw'.symm)
    | (go_at_call 42; (first | with_reducible refine (unveil HTa _).mono ?_ | with_reducible refine (unveil HTb _).mono ?_); rintro e w' ⟨rfl, hw'⟩; obtain rfl := hw'.symm)
    | (go_at_call 34; refine (unveil HQ _).mono ?_; rintro e w' ⟨rfl, hw'⟩; obtain rfl := hw'.symm))
  go_ret3
  exact ⟨rfl, rfl⟩
set_option maxRecDepth 100000 in
set_option maxHeartbeats 4000000 in
theorem RT_div_4 (a ak b bk k ke x ex y ey v u eu : Int) (LQ U : Bool) (w : World) (h0 : (y == 0) = false)
    (HB : Hid (∀ W, Calls Tryd.prog 15 #[.int .i64 4] W fun e w' => e = .returned (.bool true) ∧ w' = W))
    (HLa : Hid (∀ W, Calls Tryd.prog 39 #[.int .i64 a, .int .i64 ak] W fun e w' => e = .returned (.bool true) ∧ w' = W))
    (HLb : Hid (∀ W, Calls Tryd.prog 39 #[.int .i64 b, .int .i64 bk] W fun e w' => e = .returned (.bool true) ∧ w' = W))
    (HI : Hid (∀ W, Calls Tryd.prog 33 #[.int .i64 4, .int .i64 ak, .int .i64 bk] W fun e w' => e = .returned (.tuple #[.int .i64 k, .int .i64 ke]) ∧ w' = W))
    (HTa : Hid (∀ W, Calls Tryd.prog 42 #[.int .i64 a, .int .i64 k] W fun e w' => e = .returned (.tuple #[.int .i64 x, .int .i64 ex]) ∧ w' = W))
    (HTb : Hid (∀ W, Calls Tryd.prog 42 #[.int .i64 b, .int .i64 k] W fun e w' => e = .returned (.tuple #[.int .i64 y, .int .i64 ey]) ∧ w' = W))
    (HQ : Hid (∀ W, Calls Tryd.prog 34 #[.int .i64 4] W fun e w' => e = .returned (.bool false) ∧ w' = W))
    (HD : Hid (∀ W, Calls Tryd.prog 44 #[.int .i64 4, .int .i64 k, .int .i64 x, .int .i64 y] W fun e w' => e = .returned (.int .i64 v) ∧ w' = W))
    (HLq : Hid (∀ W, Calls Tryd.prog 39 #[.int .i64 v, .int .i64 k] W fun e w' => e = .returned (.bool LQ) ∧ w' = W))
    (HTv : Hid (∀ W, Calls Tryd.prog 42 #[.int .i64 v, .int .i64 k] W fun e w' => e = .returned (.tuple #[.int .i64 u, .int .i64 eu]) ∧ w' = W))
    (HU : Hid (∀ W, Calls Tryd.prog 46 #[.int .i64 k] W fun e w' => e = .returned (.bool U) ∧ w' = W))
    : Calls Tryd.prog 19 #[.int .i64 4, .int .i64 a, .int .i64 ak, .int .i64 b, .int .i64 bk] w fun e w' => e = .returned (if U then .tuple #[.int .i64 u, .int .i64 k, .int .i64 0] else if (LQ && !((k == 7 && x == -9223372036854775808) && y == -1)) && !(u != v) then .tuple #[.int .i64 u, .int .i64 k, .int .i64 0] else .tuple #[.int .i64 0, .int .i64 0, .int .i64 90]) ∧ w' = w := by
  cases U <;> cases LQ <;> cases g1 : k == 7 <;> cases g2 : x == -9223372036854775808 <;> cases g3 : y == -1 <;> cases hq : u != v
  all_goals (
    go_enter Tryd.func19, Tryd.ntmps19
    go_wp2_with (first
    | (go_at_call 15; refine (unveil HB _).mono ?_; rintro e w' ⟨rfl, hw'⟩; obtain rfl := hw'.symm)
    | (go_at_call 39; (first | with_reducible refine (unveil HLa _).mono ?_ | with_reducible refine (unveil HLb _).mono ?_ | with_reducible refine (unveil HLq _).mono ?_); rintro e w' ⟨rfl, hw'⟩; obtain rfl := hw'.symm)
    | (go_at_call 33; refine (unveil HI _).mono ?_; rintro e w' ⟨rfl, hw'⟩; obtain rfl := hw'.symm)
    | (go_at_call 42; (first | with_reducible refine (unveil HTa _).mono ?_ | with_reducible refine (unveil HTb _).mono ?_ | with_reducible refine (unveil HTv _).mono ?_); rintro e w' ⟨rfl, hw'⟩; obtain rfl := hw'.symm)
    | (go_at_call 34; refine (unveil HQ _).mono ?_; rintro e w' ⟨rfl, hw'⟩; obtain rfl := hw'.symm)
    | (go_at_call 44; refine (unveil HD _).mono ?_; rintro e w' ⟨rfl, hw'⟩; obtain rfl := hw'.symm)
    | (go_at_call 46; refine (unveil HU _).mono ?_; rintro e w' ⟨rfl, hw'⟩; obtain rfl := hw'.symm))
    go_ret3
    exact ⟨by first | rfl | simp, rfl⟩)
set_option maxRecDepth 100000 in
set_option maxHeartbeats 4000000 in
theorem RT_div0_5 (a ak b bk k ke x ex y ey : Int) (w : World) (h0 : (y == 0) = true)
    (HB : Hid (∀ W, Calls Tryd.prog 15 #[.int .i64 5] W fun e w' => e = .returned (.bool true) ∧ w' = W))
    (HLa : Hid (∀ W, Calls Tryd.prog 39 #[.int .i64 a, .int .i64 ak] W fun e w' => e = .returned (.bool true) ∧ w' = W))
    (HLb : Hid (∀ W, Calls Tryd.prog 39 #[.int .i64 b, .int .i64 bk] W fun e w' => e = .returned (.bool true) ∧ w' = W))
    (HI : Hid (∀ W, Calls Tryd.prog 33 #[.int .i64 5, .int .i64 ak, .int .i64 bk] W fun e w' => e = .returned (.tuple #[.int .i64 k, .int .i64 ke]) ∧ w' = W))
    (HTa : Hid (∀ W, Calls Tryd.prog 42 #[.int .i64 a, .int .i64 k] W fun e w' => e = .returned (.tuple #[.int .i64 x, .int .i64 ex]) ∧ w' = W))
    (HTb : Hid (∀ W, Calls Tryd.prog 42 #[.int .i64 b, .int .i64 k] W fun e w' => e = .returned (.tuple #[.int .i64 y, .int .i64 ey]) ∧ w' = W))
    (HQ : Hid (∀ W, Calls Tryd.prog 34 #[.int .i64 5] W fun e w' => e = .returned (.bool false) ∧ w' = W))
    : Calls Tryd.prog 19 #[.int .i64 5, .int .i64 a, .int .i64 ak, .int .i64 b, .int .i64 bk] w fun e w' => e = .returned (.tuple #[.int .i64 0, .int .i64 0, .int .i64 90]) ∧ w' = w := by
  go_enter Tryd.func19, Tryd.ntmps19
  go_wp2_with (first
    | (go_at_call 15; refine (unveil HB _).mono ?_; rintro e w' ⟨rfl, hw'⟩; obtain rfl := hw'.symm)
    | (go_at_call 39; (first | with_reducible refine (unveil HLa _).mono ?_ | with_reducible refine (unveil HLb _).mono ?_); rintro e w' ⟨rfl, hw'⟩; obtain rfl := hw'.symm)
    | (go_at_call 33; refine (unveil HI _).mono ?_; rintro e w' ⟨rfl, hw'⟩; obtain rfl := hw'.symm)
    | (go_at_call 42; (first | with_reducible refine (unveil HTa _).mono ?_ | with_reducible refine (unveil HTb _).mono ?_); rintro e w' ⟨rfl, hw'⟩; obtain rfl := hw'.symm)
    | (go_at_call 34; refine (unveil HQ _).mono ?_; rintro e w' ⟨rfl, hw'⟩; obtain rfl := hw'.symm))
  go_ret3
  exact ⟨rfl, rfl⟩
set_option maxRecDepth 100000 in
set_option maxHeartbeats 4000000 in
theorem RT_div_5 (a ak b bk k ke x ex y ey v u eu q : Int) (LQ U : Bool) (w : World) (h0 : (y == 0) = false)
    (HB : Hid (∀ W, Calls Tryd.prog 15 #[.int .i64 5] W fun e w' => e = .returned (.bool true) ∧ w' = W))
    (HLa : Hid (∀ W, Calls Tryd.prog 39 #[.int .i64 a, .int .i64 ak] W fun e w' => e = .returned (.bool true) ∧ w' = W))
    (HLb : Hid (∀ W, Calls Tryd.prog 39 #[.int .i64 b, .int .i64 bk] W fun e w' => e = .returned (.bool true) ∧ w' = W))
    (HI : Hid (∀ W, Calls Tryd.prog 33 #[.int .i64 5, .int .i64 ak, .int .i64 bk] W fun e w' => e = .returned (.tuple #[.int .i64 k, .int .i64 ke]) ∧ w' = W))
    (HTa : Hid (∀ W, Calls Tryd.prog 42 #[.int .i64 a, .int .i64 k] W fun e w' => e = .returned (.tuple #[.int .i64 x, .int .i64 ex]) ∧ w' = W))
    (HTb : Hid (∀ W, Calls Tryd.prog 42 #[.int .i64 b, .int .i64 k] W fun e w' => e = .returned (.tuple #[.int .i64 y, .int .i64 ey]) ∧ w' = W))
    (HQ : Hid (∀ W, Calls Tryd.prog 34 #[.int .i64 5] W fun e w' => e = .returned (.bool false) ∧ w' = W))
    (HD : Hid (∀ W, Calls Tryd.prog 44 #[.int .i64 5, .int .i64 k, .int .i64 x, .int .i64 y] W fun e w' => e = .returned (.int .i64 v) ∧ w' = W))
    (HD4 : Hid (∀ W, Calls Tryd.prog 44 #[.int .i64 4, .int .i64 k, .int .i64 x, .int .i64 y] W fun e w' => e = .returned (.int .i64 q) ∧ w' = W))
    (HLq : Hid (∀ W, Calls Tryd.prog 39 #[.int .i64 q, .int .i64 k] W fun e w' => e = .returned (.bool LQ) ∧ w' = W))
    (HTv : Hid (∀ W, Calls Tryd.prog 42 #[.int .i64 v, .int .i64 k] W fun e w' => e = .returned (.tuple #[.int .i64 u, .int .i64 eu]) ∧ w' = W))
    (HU : Hid (∀ W, Calls Tryd.prog 46 #[.int .i64 k] W fun e w' => e = .returned (.bool U) ∧ w' = W))
    : Calls Tryd.prog 19 #[.int .i64 5, .int .i64 a, .int .i64 ak, .int .i64 b, .int .i64 bk] w fun e w' => e = .returned (if U then .tuple #[.int .i64 u, .int .i64 k, .int .i64 0] else if (LQ && !((k == 7 && x == -9223372036854775808) && y == -1)) && !(u != v) then .tuple #[.int .i64 u, .int .i64 k, .int .i64 0] else .tuple #[.int .i64 0, .int .i64 0, .int .i64 90]) ∧ w' = w := by
  cases U <;> cases LQ <;> cases g1 : k == 7 <;> cases g2 : x == -9223372036854775808 <;> cases g3 : y == -1 <;> cases hq : u != v
  all_goals (
    go_enter Tryd.func19, Tryd.ntmps19
    go_wp2_with (first
    | (go_at_call 15; refine (unveil HB _).mono ?_; rintro e w' ⟨rfl, hw'⟩; obtain rfl := hw'.symm)
    | (go_at_call 39; (first | with_reducible refine (unveil HLa _).mono ?_ | with_reducible refine (unveil HLb _).mono ?_ | with_reducible refine (unveil HLq _).mono ?_); rintro e w' ⟨rfl, hw'⟩; obtain rfl := hw'.symm)
    | (go_at_call 33; refine (unveil HI _).mono ?_; rintro e w' ⟨rfl, hw'⟩; obtain rfl := hw'.symm)
    | (go_at_call 42; (first | with_reducible refine (unveil HTa _).mono ?_ | with_reducible refine (unveil HTb _).mono ?_ | with_reducible refine (unveil HTv _).mono ?_); rintro e w' ⟨rfl, hw'⟩; obtain rfl := hw'.symm)
    | (go_at_call 34; refine (unveil HQ _).mono ?_; rintro e w' ⟨rfl, hw'⟩; obtain rfl := hw'.symm)
    | (go_at_call 44; (first | with_reducible refine (unveil HD _).mono ?_ | with_reducible refine (unveil HD4 _).mono ?_); rintro e w' ⟨rfl, hw'⟩; obtain rfl := hw'.symm)
    | (go_at_call 46; refine (unveil HU _).mono ?_; rintro e w' ⟨rfl, hw'⟩; obtain rfl := hw'.symm))
    go_ret3
    exact ⟨by first | rfl | simp, rfl⟩)
set_option maxRecDepth 100000 in
set_option maxHeartbeats 4000000 in
theorem RT_plain (op a ak b bk k ke x ex y ey v u eu : Int) (OK U : Bool) (w : World) (h6 : (op == 6) = false) (h7 : (op == 7) = false) (h4 : (op == 4) = false) (h5 : (op == 5) = false)
    (HB : Hid (∀ W, Calls Tryd.prog 15 #[.int .i64 op] W fun e w' => e = .returned (.bool true) ∧ w' = W))
    (HLa : Hid (∀ W, Calls Tryd.prog 39 #[.int .i64 a, .int .i64 ak] W fun e w' => e = .returned (.bool true) ∧ w' = W))
    (HLb : Hid (∀ W, Calls Tryd.prog 39 #[.int .i64 b, .int .i64 bk] W fun e w' => e = .returned (.bool true) ∧ w' = W))
    (HI : Hid (∀ W, Calls Tryd.prog 33 #[.int .i64 op, .int .i64 ak, .int .i64 bk] W fun e w' => e = .returned (.tuple #[.int .i64 k, .int .i64 ke]) ∧ w' = W))
    (HTa : Hid (∀ W, Calls Tryd.prog 42 #[.int .i64 a, .int .i64 k] W fun e w' => e = .returned (.tuple #[.int .i64 x, .int .i64 ex]) ∧ w' = W))
    (HTb : Hid (∀ W, Calls Tryd.prog 42 #[.int .i64 b, .int .i64 k] W fun e w' => e = .returned (.tuple #[.int .i64 y, .int .i64 ey]) ∧ w' = W))
    (HQ : Hid (∀ W, Calls Tryd.prog 34 #[.int .i64 op] W fun e w' => e = .returned (.bool false) ∧ w' = W))
    (HPl : Hid (∀ W, Calls Tryd.prog 45 #[.int .i64 op, .int .i64 x, .int .i64 y] W fun e w' => e = .returned (.tuple #[.int .i64 v, .bool OK]) ∧ w' = W))
    (HTv : Hid (∀ W, Calls Tryd.prog 42 #[.int .i64 v, .int .i64 k] W fun e w' => e = .returned (.tuple #[.int .i64 u, .int .i64 eu]) ∧ w' = W))
    (HU : Hid (∀ W, Calls Tryd.prog 46 #[.int .i64 k] W fun e w' => e = .returned (.bool U) ∧ w' = W))
    : Calls Tryd.prog 19 #[.int .i64 op, .int .i64 a, .int .i64 ak, .int .i64 b, .int .i64 bk] w fun e w' => e = .returned (if U then .tuple #[.int .i64 u, .int .i64 k, .int .i64 0] else if OK && !(u != v) then .tuple #[.int .i64 u, .int .i64 k, .int .i64 0] else .tuple #[.int .i64 0, .int .i64 0, .int .i64 90]) ∧ w' = w := by
  cases U <;> cases OK <;> cases hq : u != v
  all_goals (
    go_enter Tryd.func19, Tryd.ntmps19
    go_wp2_with (first
    | (go_at_call 15; refine (unveil HB _).mono ?_; rintro e w' ⟨rfl, hw'⟩; obtain rfl := hw'.symm)
    | (go_at_call 39; (first | with_reducible refine (unveil HLa _).mono ?_ | with_reducible refine (unveil HLb _).mono ?_); rintro e w' ⟨rfl, hw'⟩; obtain rfl := hw'.symm)
    | (go_at_call 33; refine (unveil HI _).mono ?_; rintro e w' ⟨rfl, hw'⟩; obtain rfl := hw'.symm)
    | (go_at_call 42; (first | with_reducible refine (unveil HTa _).mono ?_ | with_reducible refine (unveil HTb _).mono ?_ | with_reducible refine (unveil HTv _).mono ?_); rintro e w' ⟨rfl, hw'⟩; obtain rfl := hw'.symm)
    | (go_at_call 34; refine (unveil HQ _).mono ?_; rintro e w' ⟨rfl, hw'⟩; obtain rfl := hw'.symm)
    | (go_at_call 45; refine (unveil HPl _).mono ?_; rintro e w' ⟨rfl, hw'⟩; obtain rfl := hw'.symm)
    | (go_at_call 46; refine (unveil HU _).mono ?_; rintro e w' ⟨rfl, hw'⟩; obtain rfl := hw'.symm))
    go_ret3
    exact ⟨by first | rfl | simp, rfl⟩)
end Go.Proofs.YtobfpdhfmbpidaaDoor
