/-
  ArithSwaps over whatever the calls tell.
-/
import Derived.Test.YtobfpdhfmbpidaaDoorEw
namespace Go.Proofs.YtobfpdhfmbpidaaDoor
open Go Go.RowKit
set_option linter.unusedVariables false
set_option linter.unusedSimpArgs false
set_option maxRecDepth 100000 in
set_option maxHeartbeats 4000000 in
theorem swaps_h2 (a ak b bk : Int) (w : World)
    (HH : Hid (∀ W, Below w.heap.size w W → Calls Tryd.prog 11 #[] W fun e w' => e = .returned (.bool true) ∧ Below W.heap.size W w'))
    : Calls Tryd.prog 8 #[.int .i64 2, .int .i64 a, .int .i64 ak, .int .i64 b, .int .i64 bk] w fun e w' => e = .returned (.bool true) ∧ Below w.heap.size w w' := by
  have HB0 := veil (Below.refl w.heap.size w)
  go_enter Tryd.func8, Tryd.ntmps8
  go_wp2_with fail
  refine (unveil HH _ (unveil HB0)).mono ?_
  rintro e W1 ⟨rfl, hb⟩
  have HB1 := veil ((unveil HB0).trans (hb.mono (unveil HB0).size))
  clear hb HB0
  go_wp2_with fail
  all_goals go_ret
  all_goals exact ⟨rfl, unveil HB1⟩
set_option maxRecDepth 100000 in
set_option maxHeartbeats 4000000 in
theorem swaps_h4 (a ak b bk : Int) (w : World)
    (HH : Hid (∀ W, Below w.heap.size w W → Calls Tryd.prog 11 #[] W fun e w' => e = .returned (.bool true) ∧ Below W.heap.size W w'))
    : Calls Tryd.prog 8 #[.int .i64 4, .int .i64 a, .int .i64 ak, .int .i64 b, .int .i64 bk] w fun e w' => e = .returned (.bool true) ∧ Below w.heap.size w w' := by
  have HB0 := veil (Below.refl w.heap.size w)
  go_enter Tryd.func8, Tryd.ntmps8
  go_wp2_with fail
  refine (unveil HH _ (unveil HB0)).mono ?_
  rintro e W1 ⟨rfl, hb⟩
  have HB1 := veil ((unveil HB0).trans (hb.mono (unveil HB0).size))
  clear hb HB0
  go_wp2_with fail
  all_goals go_ret
  all_goals exact ⟨rfl, unveil HB1⟩
set_option maxRecDepth 100000 in
set_option maxHeartbeats 4000000 in
theorem swaps_h5 (a ak b bk : Int) (w : World)
    (HH : Hid (∀ W, Below w.heap.size w W → Calls Tryd.prog 11 #[] W fun e w' => e = .returned (.bool true) ∧ Below W.heap.size W w'))
    : Calls Tryd.prog 8 #[.int .i64 5, .int .i64 a, .int .i64 ak, .int .i64 b, .int .i64 bk] w fun e w' => e = .returned (.bool true) ∧ Below w.heap.size w w' := by
  have HB0 := veil (Below.refl w.heap.size w)
  go_enter Tryd.func8, Tryd.ntmps8
  go_wp2_with fail
  refine (unveil HH _ (unveil HB0)).mono ?_
  rintro e W1 ⟨rfl, hb⟩
  have HB1 := veil ((unveil HB0).trans (hb.mono (unveil HB0).size))
  clear hb HB0
  go_wp2_with fail
  all_goals go_ret
  all_goals exact ⟨rfl, unveil HB1⟩
set_option maxRecDepth 100000 in
set_option maxHeartbeats 4000000 in
theorem swaps_h6 (a ak b bk : Int) (w : World)
    (HH : Hid (∀ W, Below w.heap.size w W → Calls Tryd.prog 11 #[] W fun e w' => e = .returned (.bool true) ∧ Below W.heap.size W w'))
    (HI : Hid (∀ W, Calls Tryd.prog 25 #[.int .i64 6] W fun e w' => e = .returned (.bool true) ∧ w' = W))
    : Calls Tryd.prog 8 #[.int .i64 6, .int .i64 a, .int .i64 ak, .int .i64 b, .int .i64 bk] w fun e w' => e = .returned (.bool true) ∧ Below w.heap.size w w' := by
  have HB0 := veil (Below.refl w.heap.size w)
  go_enter Tryd.func8, Tryd.ntmps8
  go_wp2_with (first
    | (go_at_call 25; refine (unveil HI _).mono ?_; rintro e w' ⟨rfl, hw'⟩; obtain rfl := hw'.symm))
  refine (unveil HH _ (unveil HB0)).mono ?_
  rintro e W1 ⟨rfl, hb⟩
  have HB1 := veil ((unveil HB0).trans (hb.mono (unveil HB0).size))
  clear hb HB0
  go_wp2_with (first
    | (go_at_call 25; refine (unveil HI _).mono ?_; rintro e w' ⟨rfl, hw'⟩; obtain rfl := hw'.symm))
  all_goals go_ret
  all_goals exact ⟨rfl, unveil HB1⟩
set_option maxRecDepth 100000 in
set_option maxHeartbeats 4000000 in
theorem swaps_h7 (a ak b bk : Int) (w : World)
    (HH : Hid (∀ W, Below w.heap.size w W → Calls Tryd.prog 11 #[] W fun e w' => e = .returned (.bool true) ∧ Below W.heap.size W w'))
    (HI : Hid (∀ W, Calls Tryd.prog 25 #[.int .i64 7] W fun e w' => e = .returned (.bool true) ∧ w' = W))
    : Calls Tryd.prog 8 #[.int .i64 7, .int .i64 a, .int .i64 ak, .int .i64 b, .int .i64 bk] w fun e w' => e = .returned (.bool true) ∧ Below w.heap.size w w' := by
  have HB0 := veil (Below.refl w.heap.size w)
  go_enter Tryd.func8, Tryd.ntmps8
  go_wp2_with (first
    | (go_at_call 25; refine (unveil HI _).mono ?_; rintro e w' ⟨rfl, hw'⟩; obtain rfl := hw'.symm))
  refine (unveil HH _ (unveil HB0)).mono ?_
  rintro e W1 ⟨rfl, hb⟩
  have HB1 := veil ((unveil HB0).trans (hb.mono (unveil HB0).size))
  clear hb HB0
  go_wp2_with (first
    | (go_at_call 25; refine (unveil HI _).mono ?_; rintro e w' ⟨rfl, hw'⟩; obtain rfl := hw'.symm))
  all_goals go_ret
  all_goals exact ⟨rfl, unveil HB1⟩
set_option maxRecDepth 100000 in
set_option maxHeartbeats 4000000 in
theorem swaps_less0 (a ak b bk k v2 k2 k3 : Int) (w : World)
    (HH : Hid (∀ W, Below w.heap.size w W → Calls Tryd.prog 11 #[] W fun e w' => e = .returned (.bool true) ∧ Below W.heap.size W w'))
    (H1 : Hid (∀ W, Below w.heap.size w W → Calls Tryd.prog 18 #[.int .i64 11, .int .i64 a, .int .i64 ak, .int .i64 b, .int .i64 bk] W fun e w' => e = .returned (.tuple #[.int .i64 0, .int .i64 k, .int .i64 0]) ∧ Below W.heap.size W w'))
    (H2 : Hid (∀ W, Below w.heap.size w W → Calls Tryd.prog 18 #[.int .i64 11, .int .i64 b, .int .i64 bk, .int .i64 a, .int .i64 ak] W fun e w' => e = .returned (.tuple #[.int .i64 v2, .int .i64 k2, .int .i64 0]) ∧ Below W.heap.size W w'))
    (H3 : Hid (∀ W, Below w.heap.size w W → Calls Tryd.prog 18 #[.int .i64 12, .int .i64 b, .int .i64 bk, .int .i64 a, .int .i64 ak] W fun e w' => e = .returned (.tuple #[.int .i64 1, .int .i64 k3, .int .i64 0]) ∧ Below W.heap.size W w'))
    (HI : Hid (∀ W, Calls Tryd.prog 25 #[.int .i64 11] W fun e w' => e = .returned (.bool false) ∧ w' = W))
    : Calls Tryd.prog 8 #[.int .i64 11, .int .i64 a, .int .i64 ak, .int .i64 b, .int .i64 bk] w fun e w' => e = .returned (.bool true) ∧ Below w.heap.size w w' := by
  have HB0 := veil (Below.refl w.heap.size w)
  go_enter Tryd.func8, Tryd.ntmps8
  go_wp2_with (first
    | (go_at_call 25; refine (unveil HI _).mono ?_; rintro e w' ⟨rfl, hw'⟩; obtain rfl := hw'.symm))
  refine (unveil HH _ (unveil HB0)).mono ?_
  rintro e W1 ⟨rfl, hb⟩
  have HB1 := veil ((unveil HB0).trans (hb.mono (unveil HB0).size))
  clear hb HB0
  go_wp2_with (first
    | (go_at_call 25; refine (unveil HI _).mono ?_; rintro e w' ⟨rfl, hw'⟩; obtain rfl := hw'.symm))
  refine (unveil H1 _ (unveil HB1)).mono ?_
  rintro e W2 ⟨rfl, hb⟩
  have HB2 := veil ((unveil HB1).trans (hb.mono (unveil HB1).size))
  clear hb HB1
  go_wp2_with (first
    | (go_at_call 25; refine (unveil HI _).mono ?_; rintro e w' ⟨rfl, hw'⟩; obtain rfl := hw'.symm))
  refine (unveil H2 _ (unveil HB2)).mono ?_
  rintro e W3 ⟨rfl, hb⟩
  have HB3 := veil ((unveil HB2).trans (hb.mono (unveil HB2).size))
  clear hb HB2
  go_wp2_with (first
    | (go_at_call 25; refine (unveil HI _).mono ?_; rintro e w' ⟨rfl, hw'⟩; obtain rfl := hw'.symm))
  refine (unveil H3 _ (unveil HB3)).mono ?_
  rintro e W4 ⟨rfl, hb⟩
  have HB4 := veil ((unveil HB3).trans (hb.mono (unveil HB3).size))
  clear hb HB3
  go_wp2_with (first
    | (go_at_call 25; refine (unveil HI _).mono ?_; rintro e w' ⟨rfl, hw'⟩; obtain rfl := hw'.symm))
  all_goals go_ret
  all_goals exact ⟨rfl, unveil HB4⟩
set_option maxRecDepth 100000 in
set_option maxHeartbeats 4000000 in
theorem swaps_less1 (a ak b bk k v2 k2 k3 : Int) (w : World)
    (HH : Hid (∀ W, Below w.heap.size w W → Calls Tryd.prog 11 #[] W fun e w' => e = .returned (.bool true) ∧ Below W.heap.size W w'))
    (H1 : Hid (∀ W, Below w.heap.size w W → Calls Tryd.prog 18 #[.int .i64 11, .int .i64 a, .int .i64 ak, .int .i64 b, .int .i64 bk] W fun e w' => e = .returned (.tuple #[.int .i64 1, .int .i64 k, .int .i64 0]) ∧ Below W.heap.size W w'))
    (H2 : Hid (∀ W, Below w.heap.size w W → Calls Tryd.prog 18 #[.int .i64 11, .int .i64 b, .int .i64 bk, .int .i64 a, .int .i64 ak] W fun e w' => e = .returned (.tuple #[.int .i64 v2, .int .i64 k2, .int .i64 0]) ∧ Below W.heap.size W w'))
    (H3 : Hid (∀ W, Below w.heap.size w W → Calls Tryd.prog 18 #[.int .i64 12, .int .i64 b, .int .i64 bk, .int .i64 a, .int .i64 ak] W fun e w' => e = .returned (.tuple #[.int .i64 0, .int .i64 k3, .int .i64 0]) ∧ Below W.heap.size W w'))
    (HI : Hid (∀ W, Calls Tryd.prog 25 #[.int .i64 11] W fun e w' => e = .returned (.bool false) ∧ w' = W))
    : Calls Tryd.prog 8 #[.int .i64 11, .int .i64 a, .int .i64 ak, .int .i64 b, .int .i64 bk] w fun e w' => e = .returned (.bool true) ∧ Below w.heap.size w w' := by
  have HB0 := veil (Below.refl w.heap.size w)
  go_enter Tryd.func8, Tryd.ntmps8
  go_wp2_with (first
    | (go_at_call 25; refine (unveil HI _).mono ?_; rintro e w' ⟨rfl, hw'⟩; obtain rfl := hw'.symm))
  refine (unveil HH _ (unveil HB0)).mono ?_
  rintro e W1 ⟨rfl, hb⟩
  have HB1 := veil ((unveil HB0).trans (hb.mono (unveil HB0).size))
  clear hb HB0
  go_wp2_with (first
    | (go_at_call 25; refine (unveil HI _).mono ?_; rintro e w' ⟨rfl, hw'⟩; obtain rfl := hw'.symm))
  refine (unveil H1 _ (unveil HB1)).mono ?_
  rintro e W2 ⟨rfl, hb⟩
  have HB2 := veil ((unveil HB1).trans (hb.mono (unveil HB1).size))
  clear hb HB1
  go_wp2_with (first
    | (go_at_call 25; refine (unveil HI _).mono ?_; rintro e w' ⟨rfl, hw'⟩; obtain rfl := hw'.symm))
  refine (unveil H2 _ (unveil HB2)).mono ?_
  rintro e W3 ⟨rfl, hb⟩
  have HB3 := veil ((unveil HB2).trans (hb.mono (unveil HB2).size))
  clear hb HB2
  go_wp2_with (first
    | (go_at_call 25; refine (unveil HI _).mono ?_; rintro e w' ⟨rfl, hw'⟩; obtain rfl := hw'.symm))
  refine (unveil H3 _ (unveil HB3)).mono ?_
  rintro e W4 ⟨rfl, hb⟩
  have HB4 := veil ((unveil HB3).trans (hb.mono (unveil HB3).size))
  clear hb HB3
  go_wp2_with (first
    | (go_at_call 25; refine (unveil HI _).mono ?_; rintro e w' ⟨rfl, hw'⟩; obtain rfl := hw'.symm))
  all_goals go_ret
  all_goals exact ⟨rfl, unveil HB4⟩
set_option maxRecDepth 100000 in
set_option maxHeartbeats 4000000 in
theorem swaps_leq0 (a ak b bk k v2 k2 k3 : Int) (w : World)
    (HH : Hid (∀ W, Below w.heap.size w W → Calls Tryd.prog 11 #[] W fun e w' => e = .returned (.bool true) ∧ Below W.heap.size W w'))
    (H1 : Hid (∀ W, Below w.heap.size w W → Calls Tryd.prog 18 #[.int .i64 12, .int .i64 a, .int .i64 ak, .int .i64 b, .int .i64 bk] W fun e w' => e = .returned (.tuple #[.int .i64 0, .int .i64 k, .int .i64 0]) ∧ Below W.heap.size W w'))
    (H2 : Hid (∀ W, Below w.heap.size w W → Calls Tryd.prog 18 #[.int .i64 12, .int .i64 b, .int .i64 bk, .int .i64 a, .int .i64 ak] W fun e w' => e = .returned (.tuple #[.int .i64 v2, .int .i64 k2, .int .i64 0]) ∧ Below W.heap.size W w'))
    (H3 : Hid (∀ W, Below w.heap.size w W → Calls Tryd.prog 18 #[.int .i64 11, .int .i64 b, .int .i64 bk, .int .i64 a, .int .i64 ak] W fun e w' => e = .returned (.tuple #[.int .i64 1, .int .i64 k3, .int .i64 0]) ∧ Below W.heap.size W w'))
    (HI : Hid (∀ W, Calls Tryd.prog 25 #[.int .i64 12] W fun e w' => e = .returned (.bool false) ∧ w' = W))
    : Calls Tryd.prog 8 #[.int .i64 12, .int .i64 a, .int .i64 ak, .int .i64 b, .int .i64 bk] w fun e w' => e = .returned (.bool true) ∧ Below w.heap.size w w' := by
  have HB0 := veil (Below.refl w.heap.size w)
  go_enter Tryd.func8, Tryd.ntmps8
  go_wp2_with (first
    | (go_at_call 25; refine (unveil HI _).mono ?_; rintro e w' ⟨rfl, hw'⟩; obtain rfl := hw'.symm))
  refine (unveil HH _ (unveil HB0)).mono ?_
  rintro e W1 ⟨rfl, hb⟩
  have HB1 := veil ((unveil HB0).trans (hb.mono (unveil HB0).size))
  clear hb HB0
  go_wp2_with (first
    | (go_at_call 25; refine (unveil HI _).mono ?_; rintro e w' ⟨rfl, hw'⟩; obtain rfl := hw'.symm))
  refine (unveil H1 _ (unveil HB1)).mono ?_
  rintro e W2 ⟨rfl, hb⟩
  have HB2 := veil ((unveil HB1).trans (hb.mono (unveil HB1).size))
  clear hb HB1
  go_wp2_with (first
    | (go_at_call 25; refine (unveil HI _).mono ?_; rintro e w' ⟨rfl, hw'⟩; obtain rfl := hw'.symm))
  refine (unveil H2 _ (unveil HB2)).mono ?_
  rintro e W3 ⟨rfl, hb⟩
  have HB3 := veil ((unveil HB2).trans (hb.mono (unveil HB2).size))
  clear hb HB2
  go_wp2_with (first
    | (go_at_call 25; refine (unveil HI _).mono ?_; rintro e w' ⟨rfl, hw'⟩; obtain rfl := hw'.symm))
  refine (unveil H3 _ (unveil HB3)).mono ?_
  rintro e W4 ⟨rfl, hb⟩
  have HB4 := veil ((unveil HB3).trans (hb.mono (unveil HB3).size))
  clear hb HB3
  go_wp2_with (first
    | (go_at_call 25; refine (unveil HI _).mono ?_; rintro e w' ⟨rfl, hw'⟩; obtain rfl := hw'.symm))
  all_goals go_ret
  all_goals exact ⟨rfl, unveil HB4⟩
set_option maxRecDepth 100000 in
set_option maxHeartbeats 4000000 in
theorem swaps_leq1 (a ak b bk k v2 k2 k3 : Int) (w : World)
    (HH : Hid (∀ W, Below w.heap.size w W → Calls Tryd.prog 11 #[] W fun e w' => e = .returned (.bool true) ∧ Below W.heap.size W w'))
    (H1 : Hid (∀ W, Below w.heap.size w W → Calls Tryd.prog 18 #[.int .i64 12, .int .i64 a, .int .i64 ak, .int .i64 b, .int .i64 bk] W fun e w' => e = .returned (.tuple #[.int .i64 1, .int .i64 k, .int .i64 0]) ∧ Below W.heap.size W w'))
    (H2 : Hid (∀ W, Below w.heap.size w W → Calls Tryd.prog 18 #[.int .i64 12, .int .i64 b, .int .i64 bk, .int .i64 a, .int .i64 ak] W fun e w' => e = .returned (.tuple #[.int .i64 v2, .int .i64 k2, .int .i64 0]) ∧ Below W.heap.size W w'))
    (H3 : Hid (∀ W, Below w.heap.size w W → Calls Tryd.prog 18 #[.int .i64 11, .int .i64 b, .int .i64 bk, .int .i64 a, .int .i64 ak] W fun e w' => e = .returned (.tuple #[.int .i64 0, .int .i64 k3, .int .i64 0]) ∧ Below W.heap.size W w'))
    (HI : Hid (∀ W, Calls Tryd.prog 25 #[.int .i64 12] W fun e w' => e = .returned (.bool false) ∧ w' = W))
    : Calls Tryd.prog 8 #[.int .i64 12, .int .i64 a, .int .i64 ak, .int .i64 b, .int .i64 bk] w fun e w' => e = .returned (.bool true) ∧ Below w.heap.size w w' := by
  have HB0 := veil (Below.refl w.heap.size w)
  go_enter Tryd.func8, Tryd.ntmps8
  go_wp2_with (first
    | (go_at_call 25; refine (unveil HI _).mono ?_; rintro e w' ⟨rfl, hw'⟩; obtain rfl := hw'.symm))
  refine (unveil HH _ (unveil HB0)).mono ?_
  rintro e W1 ⟨rfl, hb⟩
  have HB1 := veil ((unveil HB0).trans (hb.mono (unveil HB0).size))
  clear hb HB0
  go_wp2_with (first
    | (go_at_call 25; refine (unveil HI _).mono ?_; rintro e w' ⟨rfl, hw'⟩; obtain rfl := hw'.symm))
  refine (unveil H1 _ (unveil HB1)).mono ?_
  rintro e W2 ⟨rfl, hb⟩
  have HB2 := veil ((unveil HB1).trans (hb.mono (unveil HB1).size))
  clear hb HB1
  go_wp2_with (first
    | (go_at_call 25; refine (unveil HI _).mono ?_; rintro e w' ⟨rfl, hw'⟩; obtain rfl := hw'.symm))
  refine (unveil H2 _ (unveil HB2)).mono ?_
  rintro e W3 ⟨rfl, hb⟩
  have HB3 := veil ((unveil HB2).trans (hb.mono (unveil HB2).size))
  clear hb HB2
  go_wp2_with (first
    | (go_at_call 25; refine (unveil HI _).mono ?_; rintro e w' ⟨rfl, hw'⟩; obtain rfl := hw'.symm))
  refine (unveil H3 _ (unveil HB3)).mono ?_
  rintro e W4 ⟨rfl, hb⟩
  have HB4 := veil ((unveil HB3).trans (hb.mono (unveil HB3).size))
  clear hb HB3
  go_wp2_with (first
    | (go_at_call 25; refine (unveil HI _).mono ?_; rintro e w' ⟨rfl, hw'⟩; obtain rfl := hw'.symm))
  all_goals go_ret
  all_goals exact ⟨rfl, unveil HB4⟩
set_option maxRecDepth 100000 in
set_option maxHeartbeats 4000000 in
theorem swaps_e11 (a ak b bk v k er : Int) (w : World) (he : (er == 0) = false) (he2 : (er != 0) = true)
    (HH : Hid (∀ W, Below w.heap.size w W → Calls Tryd.prog 11 #[] W fun e w' => e = .returned (.bool true) ∧ Below W.heap.size W w'))
    (H1 : Hid (∀ W, Below w.heap.size w W → Calls Tryd.prog 18 #[.int .i64 11, .int .i64 a, .int .i64 ak, .int .i64 b, .int .i64 bk] W fun e w' => e = .returned (.tuple #[.int .i64 v, .int .i64 k, .int .i64 er]) ∧ Below W.heap.size W w'))
    (H2 : Hid (∀ W, Below w.heap.size w W → Calls Tryd.prog 18 #[.int .i64 11, .int .i64 b, .int .i64 bk, .int .i64 a, .int .i64 ak] W fun e w' => e = .returned (.tuple #[.int .i64 v, .int .i64 k, .int .i64 er]) ∧ Below W.heap.size W w'))
    (HI : Hid (∀ W, Calls Tryd.prog 25 #[.int .i64 11] W fun e w' => e = .returned (.bool false) ∧ w' = W))
    : Calls Tryd.prog 8 #[.int .i64 11, .int .i64 a, .int .i64 ak, .int .i64 b, .int .i64 bk] w fun e w' => e = .returned (.bool true) ∧ Below w.heap.size w w' := by
  have HB0 := veil (Below.refl w.heap.size w)
  go_enter Tryd.func8, Tryd.ntmps8
  go_wp2_with (first
    | (go_at_call 25; refine (unveil HI _).mono ?_; rintro e w' ⟨rfl, hw'⟩; obtain rfl := hw'.symm))
  refine (unveil HH _ (unveil HB0)).mono ?_
  rintro e W1 ⟨rfl, hb⟩
  have HB1 := veil ((unveil HB0).trans (hb.mono (unveil HB0).size))
  clear hb HB0
  go_wp2_with (first
    | (go_at_call 25; refine (unveil HI _).mono ?_; rintro e w' ⟨rfl, hw'⟩; obtain rfl := hw'.symm))
  refine (unveil H1 _ (unveil HB1)).mono ?_
  rintro e W2 ⟨rfl, hb⟩
  have HB2 := veil ((unveil HB1).trans (hb.mono (unveil HB1).size))
  clear hb HB1
  go_wp2_with (first
    | (go_at_call 25; refine (unveil HI _).mono ?_; rintro e w' ⟨rfl, hw'⟩; obtain rfl := hw'.symm))
  refine (unveil H2 _ (unveil HB2)).mono ?_
  rintro e W3 ⟨rfl, hb⟩
  have HB3 := veil ((unveil HB2).trans (hb.mono (unveil HB2).size))
  clear hb HB2
  go_wp2_with (first
    | (go_at_call 25; refine (unveil HI _).mono ?_; rintro e w' ⟨rfl, hw'⟩; obtain rfl := hw'.symm))
  all_goals go_ret
  all_goals exact ⟨rfl, unveil HB3⟩
set_option maxRecDepth 100000 in
set_option maxHeartbeats 4000000 in
theorem swaps_e12 (a ak b bk v k er : Int) (w : World) (he : (er == 0) = false) (he2 : (er != 0) = true)
    (HH : Hid (∀ W, Below w.heap.size w W → Calls Tryd.prog 11 #[] W fun e w' => e = .returned (.bool true) ∧ Below W.heap.size W w'))
    (H1 : Hid (∀ W, Below w.heap.size w W → Calls Tryd.prog 18 #[.int .i64 12, .int .i64 a, .int .i64 ak, .int .i64 b, .int .i64 bk] W fun e w' => e = .returned (.tuple #[.int .i64 v, .int .i64 k, .int .i64 er]) ∧ Below W.heap.size W w'))
    (H2 : Hid (∀ W, Below w.heap.size w W → Calls Tryd.prog 18 #[.int .i64 12, .int .i64 b, .int .i64 bk, .int .i64 a, .int .i64 ak] W fun e w' => e = .returned (.tuple #[.int .i64 v, .int .i64 k, .int .i64 er]) ∧ Below W.heap.size W w'))
    (HI : Hid (∀ W, Calls Tryd.prog 25 #[.int .i64 12] W fun e w' => e = .returned (.bool false) ∧ w' = W))
    : Calls Tryd.prog 8 #[.int .i64 12, .int .i64 a, .int .i64 ak, .int .i64 b, .int .i64 bk] w fun e w' => e = .returned (.bool true) ∧ Below w.heap.size w w' := by
  have HB0 := veil (Below.refl w.heap.size w)
  go_enter Tryd.func8, Tryd.ntmps8
  go_wp2_with (first
    | (go_at_call 25; refine (unveil HI _).mono ?_; rintro e w' ⟨rfl, hw'⟩; obtain rfl := hw'.symm))
  refine (unveil HH _ (unveil HB0)).mono ?_
  rintro e W1 ⟨rfl, hb⟩
  have HB1 := veil ((unveil HB0).trans (hb.mono (unveil HB0).size))
  clear hb HB0
  go_wp2_with (first
    | (go_at_call 25; refine (unveil HI _).mono ?_; rintro e w' ⟨rfl, hw'⟩; obtain rfl := hw'.symm))
  refine (unveil H1 _ (unveil HB1)).mono ?_
  rintro e W2 ⟨rfl, hb⟩
  have HB2 := veil ((unveil HB1).trans (hb.mono (unveil HB1).size))
  clear hb HB1
  go_wp2_with (first
    | (go_at_call 25; refine (unveil HI _).mono ?_; rintro e w' ⟨rfl, hw'⟩; obtain rfl := hw'.symm))
  refine (unveil H2 _ (unveil HB2)).mono ?_
  rintro e W3 ⟨rfl, hb⟩
  have HB3 := veil ((unveil HB2).trans (hb.mono (unveil HB2).size))
  clear hb HB2
  go_wp2_with (first
    | (go_at_call 25; refine (unveil HI _).mono ?_; rintro e w' ⟨rfl, hw'⟩; obtain rfl := hw'.symm))
  all_goals go_ret
  all_goals exact ⟨rfl, unveil HB3⟩
set_option maxRecDepth 100000 in
set_option maxHeartbeats 4000000 in
theorem swaps_o (op a ak b bk v k er : Int) (w : World) (h2 : (op == 2) = false) (h4 : (op == 4) = false) (h5 : (op == 5) = false) (h11 : (op == 11) = false) (h12 : (op == 12) = false)
    (HH : Hid (∀ W, Below w.heap.size w W → Calls Tryd.prog 11 #[] W fun e w' => e = .returned (.bool true) ∧ Below W.heap.size W w'))
    (H1 : Hid (∀ W, Below w.heap.size w W → Calls Tryd.prog 18 #[.int .i64 op, .int .i64 a, .int .i64 ak, .int .i64 b, .int .i64 bk] W fun e w' => e = .returned (.tuple #[.int .i64 v, .int .i64 k, .int .i64 er]) ∧ Below W.heap.size W w'))
    (H2 : Hid (∀ W, Below w.heap.size w W → Calls Tryd.prog 18 #[.int .i64 op, .int .i64 b, .int .i64 bk, .int .i64 a, .int .i64 ak] W fun e w' => e = .returned (.tuple #[.int .i64 v, .int .i64 k, .int .i64 er]) ∧ Below W.heap.size W w'))
    (HI : Hid (∀ W, Calls Tryd.prog 25 #[.int .i64 op] W fun e w' => e = .returned (.bool false) ∧ w' = W))
    : Calls Tryd.prog 8 #[.int .i64 op, .int .i64 a, .int .i64 ak, .int .i64 b, .int .i64 bk] w fun e w' => e = .returned (.bool true) ∧ Below w.heap.size w w' := by
  have HB0 := veil (Below.refl w.heap.size w)
  go_enter Tryd.func8, Tryd.ntmps8
  go_wp2_with (first
    | (go_at_call 25; refine (unveil HI _).mono ?_; rintro e w' ⟨rfl, hw'⟩; obtain rfl := hw'.symm))
  refine (unveil HH _ (unveil HB0)).mono ?_
  rintro e W1 ⟨rfl, hb⟩
  have HB1 := veil ((unveil HB0).trans (hb.mono (unveil HB0).size))
  clear hb HB0
  go_wp2_with (first
    | (go_at_call 25; refine (unveil HI _).mono ?_; rintro e w' ⟨rfl, hw'⟩; obtain rfl := hw'.symm))
  refine (unveil H1 _ (unveil HB1)).mono ?_
  rintro e W2 ⟨rfl, hb⟩
  have HB2 := veil ((unveil HB1).trans (hb.mono (unveil HB1).size))
  clear hb HB1
  go_wp2_with (first
    | (go_at_call 25; refine (unveil HI _).mono ?_; rintro e w' ⟨rfl, hw'⟩; obtain rfl := hw'.symm))
  refine (unveil H2 _ (unveil HB2)).mono ?_
  rintro e W3 ⟨rfl, hb⟩
  have HB3 := veil ((unveil HB2).trans (hb.mono (unveil HB2).size))
  clear hb HB2
  go_wp2_with (first
    | (go_at_call 25; refine (unveil HI _).mono ?_; rintro e w' ⟨rfl, hw'⟩; obtain rfl := hw'.symm))
  all_goals go_ret
  all_goals exact ⟨rfl, unveil HB3⟩
end Go.Proofs.YtobfpdhfmbpidaaDoor
