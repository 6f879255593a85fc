/-
  ArithSame over whatever the calls tell.
-/
import Derived.Test.YtobfpdhfmbpidaaDoorEw
namespace Go.Proofs.YtobfpdhfmbpidaaDoor
open Go Go.RowKit
set_option linter.unusedVariables false
set_option linter.unusedSimpArgs false
set_option maxRecDepth 100000 in
set_option maxHeartbeats 4000000 in
theorem same_no (op a ak b bk er : Int) (w : World) (he : (er != 0) = true) (he2 : (er == 0) = false)
    (HH : Hid (∀ W, Below w.heap.size w W → Calls Tryd.prog 11 #[] W fun e w' => e = .returned (.bool true) ∧ Below W.heap.size W w'))
    (H1 : Hid (∀ W, Below w.heap.size w W → Calls Tryd.prog 18 #[.int .i64 op, .int .i64 a, .int .i64 ak, .int .i64 b, .int .i64 bk] W fun e w' => e = .returned (.tuple #[.int .i64 0, .int .i64 0, .int .i64 er]) ∧ Below W.heap.size W w'))
    : Calls Tryd.prog 7 #[.int .i64 op, .int .i64 a, .int .i64 ak, .int .i64 b, .int .i64 bk] w fun e w' => e = .returned (.bool true) ∧ Below w.heap.size w w' := by
  have HB0 := veil (Below.refl w.heap.size w)
  go_enter Tryd.func7, Tryd.ntmps7
  go_wp2_with fail
  refine (unveil HH _ (unveil HB0)).mono ?_
  rintro e W1 ⟨rfl, hb⟩
  have HB1 := veil ((unveil HB0).trans (hb.mono (unveil HB0).size))
  clear hb HB0
  go_wp2_with fail
  refine (unveil H1 _ (unveil HB1)).mono ?_
  rintro e W2 ⟨rfl, hb⟩
  have HB2 := veil ((unveil HB1).trans (hb.mono (unveil HB1).size))
  clear hb HB1
  go_wp2_with fail
  all_goals go_ret
  all_goals exact ⟨rfl, unveil HB2⟩
set_option maxRecDepth 100000 in
set_option maxHeartbeats 4000000 in
theorem same_N (op a ak b bk v k u p x y : Int) (w : World)
    (HH : Hid (∀ W, Below w.heap.size w W → Calls Tryd.prog 11 #[] W fun e w' => e = .returned (.bool true) ∧ Below W.heap.size W w'))
    (H1 : Hid (∀ W, Below w.heap.size w W → Calls Tryd.prog 18 #[.int .i64 op, .int .i64 a, .int .i64 ak, .int .i64 b, .int .i64 bk] W fun e w' => e = .returned (.tuple #[.int .i64 v, .int .i64 k, .int .i64 0]) ∧ Below W.heap.size W w'))
    (H2 : Hid (∀ W, Below w.heap.size w W → Calls Tryd.prog 22 #[.int .i64 op, .int .i64 u, .int .i64 x, .int .i64 y] W fun e w' => e = .returned (.tuple #[.int .i64 v, .int .i64 0]) ∧ Below W.heap.size W w'))
    (H3 : Hid (∀ W, Below w.heap.size w W → Calls Tryd.prog 12 #[.int .i64 op, .int .i64 ak, .int .i64 bk] W fun e w' => e = .returned (.tuple #[.int .i64 k, .int .i64 0]) ∧ Below W.heap.size W w'))
    (HU : Hid (∀ W, Calls Tryd.prog 24 #[.int .i64 ak, .int .i64 bk] W fun e w' => e = .returned (.tuple #[.int .i64 u, .int .i64 0]) ∧ w' = W))
    (HI : Hid (∀ W, Calls Tryd.prog 25 #[.int .i64 op] W fun e w' => e = .returned (.bool false) ∧ w' = W))
    (HTa : Hid (∀ W, Calls Tryd.prog 27 #[.int .i64 a, .int .i64 u] W fun e w' => e = .returned (.tuple #[.int .i64 x, .int .i64 0]) ∧ w' = W))
    (HTb : Hid (∀ W, Calls Tryd.prog 27 #[.int .i64 b, .int .i64 u] W fun e w' => e = .returned (.tuple #[.int .i64 y, .int .i64 0]) ∧ w' = W))
    (HL : Hid (∀ W, Calls Tryd.prog 28 #[.int .i64 v, .int .i64 k] W fun e w' => e = .returned (.bool true) ∧ w' = W))
    : Calls Tryd.prog 7 #[.int .i64 op, .int .i64 a, .int .i64 ak, .int .i64 b, .int .i64 bk] w fun e w' => e = .returned (.bool true) ∧ Below w.heap.size w w' := by
  have HB0 := veil (Below.refl w.heap.size w)
  go_enter Tryd.func7, Tryd.ntmps7
  go_wp2_with (first
    | (go_at_call 24; refine (unveil HU _).mono ?_; rintro e w' ⟨rfl, hw'⟩; obtain rfl := hw'.symm)
    | (go_at_call 25; refine (unveil HI _).mono ?_; rintro e w' ⟨rfl, hw'⟩; obtain rfl := hw'.symm)
    | (go_at_call 27; (first | with_reducible refine (unveil HTa _).mono ?_ | with_reducible refine (unveil HTb _).mono ?_); rintro e w' ⟨rfl, hw'⟩; obtain rfl := hw'.symm)
    | (go_at_call 28; refine (unveil HL _).mono ?_; rintro e w' ⟨rfl, hw'⟩; obtain rfl := hw'.symm))
  refine (unveil HH _ (unveil HB0)).mono ?_
  rintro e W1 ⟨rfl, hb⟩
  have HB1 := veil ((unveil HB0).trans (hb.mono (unveil HB0).size))
  clear hb HB0
  go_wp2_with (first
    | (go_at_call 24; refine (unveil HU _).mono ?_; rintro e w' ⟨rfl, hw'⟩; obtain rfl := hw'.symm)
    | (go_at_call 25; refine (unveil HI _).mono ?_; rintro e w' ⟨rfl, hw'⟩; obtain rfl := hw'.symm)
    | (go_at_call 27; (first | with_reducible refine (unveil HTa _).mono ?_ | with_reducible refine (unveil HTb _).mono ?_); rintro e w' ⟨rfl, hw'⟩; obtain rfl := hw'.symm)
    | (go_at_call 28; refine (unveil HL _).mono ?_; rintro e w' ⟨rfl, hw'⟩; obtain rfl := hw'.symm))
  refine (unveil H1 _ (unveil HB1)).mono ?_
  rintro e W2 ⟨rfl, hb⟩
  have HB2 := veil ((unveil HB1).trans (hb.mono (unveil HB1).size))
  clear hb HB1
  go_wp2_with (first
    | (go_at_call 24; refine (unveil HU _).mono ?_; rintro e w' ⟨rfl, hw'⟩; obtain rfl := hw'.symm)
    | (go_at_call 25; refine (unveil HI _).mono ?_; rintro e w' ⟨rfl, hw'⟩; obtain rfl := hw'.symm)
    | (go_at_call 27; (first | with_reducible refine (unveil HTa _).mono ?_ | with_reducible refine (unveil HTb _).mono ?_); rintro e w' ⟨rfl, hw'⟩; obtain rfl := hw'.symm)
    | (go_at_call 28; refine (unveil HL _).mono ?_; rintro e w' ⟨rfl, hw'⟩; obtain rfl := hw'.symm))
  refine (unveil H2 _ (unveil HB2)).mono ?_
  rintro e W3 ⟨rfl, hb⟩
  have HB3 := veil ((unveil HB2).trans (hb.mono (unveil HB2).size))
  clear hb HB2
  go_wp2_with (first
    | (go_at_call 24; refine (unveil HU _).mono ?_; rintro e w' ⟨rfl, hw'⟩; obtain rfl := hw'.symm)
    | (go_at_call 25; refine (unveil HI _).mono ?_; rintro e w' ⟨rfl, hw'⟩; obtain rfl := hw'.symm)
    | (go_at_call 27; (first | with_reducible refine (unveil HTa _).mono ?_ | with_reducible refine (unveil HTb _).mono ?_); rintro e w' ⟨rfl, hw'⟩; obtain rfl := hw'.symm)
    | (go_at_call 28; refine (unveil HL _).mono ?_; rintro e w' ⟨rfl, hw'⟩; obtain rfl := hw'.symm))
  refine (unveil H3 _ (unveil HB3)).mono ?_
  rintro e W4 ⟨rfl, hb⟩
  have HB4 := veil ((unveil HB3).trans (hb.mono (unveil HB3).size))
  clear hb HB3
  go_wp2_with (first
    | (go_at_call 24; refine (unveil HU _).mono ?_; rintro e w' ⟨rfl, hw'⟩; obtain rfl := hw'.symm)
    | (go_at_call 25; refine (unveil HI _).mono ?_; rintro e w' ⟨rfl, hw'⟩; obtain rfl := hw'.symm)
    | (go_at_call 27; (first | with_reducible refine (unveil HTa _).mono ?_ | with_reducible refine (unveil HTb _).mono ?_); rintro e w' ⟨rfl, hw'⟩; obtain rfl := hw'.symm)
    | (go_at_call 28; refine (unveil HL _).mono ?_; rintro e w' ⟨rfl, hw'⟩; obtain rfl := hw'.symm))
  all_goals go_ret
  all_goals exact ⟨rfl, unveil HB4⟩
set_option maxRecDepth 100000 in
set_option maxHeartbeats 4000000 in
theorem same_S (op a ak b bk v k u p x y : Int) (w : World)
    (HH : Hid (∀ W, Below w.heap.size w W → Calls Tryd.prog 11 #[] W fun e w' => e = .returned (.bool true) ∧ Below W.heap.size W w'))
    (H1 : Hid (∀ W, Below w.heap.size w W → Calls Tryd.prog 18 #[.int .i64 op, .int .i64 a, .int .i64 ak, .int .i64 b, .int .i64 bk] W fun e w' => e = .returned (.tuple #[.int .i64 v, .int .i64 k, .int .i64 0]) ∧ Below W.heap.size W w'))
    (H2 : Hid (∀ W, Below w.heap.size w W → Calls Tryd.prog 22 #[.int .i64 op, .int .i64 p, .int .i64 x, .int .i64 y] W fun e w' => e = .returned (.tuple #[.int .i64 v, .int .i64 0]) ∧ Below W.heap.size W w'))
    (H3 : Hid (∀ W, Below w.heap.size w W → Calls Tryd.prog 12 #[.int .i64 op, .int .i64 ak, .int .i64 bk] W fun e w' => e = .returned (.tuple #[.int .i64 k, .int .i64 0]) ∧ Below W.heap.size W w'))
    (HU : Hid (∀ W, Calls Tryd.prog 24 #[.int .i64 ak, .int .i64 bk] W fun e w' => e = .returned (.tuple #[.int .i64 u, .int .i64 0]) ∧ w' = W))
    (HI : Hid (∀ W, Calls Tryd.prog 25 #[.int .i64 op] W fun e w' => e = .returned (.bool true) ∧ w' = W))
    (HP : Hid (∀ W, Calls Tryd.prog 26 #[.int .i64 ak] W fun e w' => e = .returned (.tuple #[.int .i64 p, .int .i64 0]) ∧ w' = W))
    (HTa : Hid (∀ W, Calls Tryd.prog 27 #[.int .i64 a, .int .i64 p] W fun e w' => e = .returned (.tuple #[.int .i64 x, .int .i64 0]) ∧ w' = W))
    (HTb : Hid (∀ W, Calls Tryd.prog 27 #[.int .i64 b, .int .i64 p] W fun e w' => e = .returned (.tuple #[.int .i64 y, .int .i64 0]) ∧ w' = W))
    (HL : Hid (∀ W, Calls Tryd.prog 28 #[.int .i64 v, .int .i64 k] W fun e w' => e = .returned (.bool true) ∧ w' = W))
    : Calls Tryd.prog 7 #[.int .i64 op, .int .i64 a, .int .i64 ak, .int .i64 b, .int .i64 bk] w fun e w' => e = .returned (.bool true) ∧ Below w.heap.size w w' := by
  have HB0 := veil (Below.refl w.heap.size w)
  go_enter Tryd.func7, Tryd.ntmps7
  go_wp2_with (first
    | (go_at_call 24; refine (unveil HU _).mono ?_; rintro e w' ⟨rfl, hw'⟩; obtain rfl := hw'.symm)
    | (go_at_call 25; refine (unveil HI _).mono ?_; rintro e w' ⟨rfl, hw'⟩; obtain rfl := hw'.symm)
    | (go_at_call 26; refine (unveil HP _).mono ?_; rintro e w' ⟨rfl, hw'⟩; obtain rfl := hw'.symm)
    | (go_at_call 27; (first | with_reducible refine (unveil HTa _).mono ?_ | with_reducible refine (unveil HTb _).mono ?_); rintro e w' ⟨rfl, hw'⟩; obtain rfl := hw'.symm)
    | (go_at_call 28; refine (unveil HL _).mono ?_; rintro e w' ⟨rfl, hw'⟩; obtain rfl := hw'.symm))
  refine (unveil HH _ (unveil HB0)).mono ?_
  rintro e W1 ⟨rfl, hb⟩
  have HB1 := veil ((unveil HB0).trans (hb.mono (unveil HB0).size))
  clear hb HB0
  go_wp2_with (first
    | (go_at_call 24; refine (unveil HU _).mono ?_; rintro e w' ⟨rfl, hw'⟩; obtain rfl := hw'.symm)
    | (go_at_call 25; refine (unveil HI _).mono ?_; rintro e w' ⟨rfl, hw'⟩; obtain rfl := hw'.symm)
    | (go_at_call 26; refine (unveil HP _).mono ?_; rintro e w' ⟨rfl, hw'⟩; obtain rfl := hw'.symm)
    | (go_at_call 27; (first | with_reducible refine (unveil HTa _).mono ?_ | with_reducible refine (unveil HTb _).mono ?_); rintro e w' ⟨rfl, hw'⟩; obtain rfl := hw'.symm)
    | (go_at_call 28; refine (unveil HL _).mono ?_; rintro e w' ⟨rfl, hw'⟩; obtain rfl := hw'.symm))
  refine (unveil H1 _ (unveil HB1)).mono ?_
  rintro e W2 ⟨rfl, hb⟩
  have HB2 := veil ((unveil HB1).trans (hb.mono (unveil HB1).size))
  clear hb HB1
  go_wp2_with (first
    | (go_at_call 24; refine (unveil HU _).mono ?_; rintro e w' ⟨rfl, hw'⟩; obtain rfl := hw'.symm)
    | (go_at_call 25; refine (unveil HI _).mono ?_; rintro e w' ⟨rfl, hw'⟩; obtain rfl := hw'.symm)
    | (go_at_call 26; refine (unveil HP _).mono ?_; rintro e w' ⟨rfl, hw'⟩; obtain rfl := hw'.symm)
    | (go_at_call 27; (first | with_reducible refine (unveil HTa _).mono ?_ | with_reducible refine (unveil HTb _).mono ?_); rintro e w' ⟨rfl, hw'⟩; obtain rfl := hw'.symm)
    | (go_at_call 28; refine (unveil HL _).mono ?_; rintro e w' ⟨rfl, hw'⟩; obtain rfl := hw'.symm))
  refine (unveil H2 _ (unveil HB2)).mono ?_
  rintro e W3 ⟨rfl, hb⟩
  have HB3 := veil ((unveil HB2).trans (hb.mono (unveil HB2).size))
  clear hb HB2
  go_wp2_with (first
    | (go_at_call 24; refine (unveil HU _).mono ?_; rintro e w' ⟨rfl, hw'⟩; obtain rfl := hw'.symm)
    | (go_at_call 25; refine (unveil HI _).mono ?_; rintro e w' ⟨rfl, hw'⟩; obtain rfl := hw'.symm)
    | (go_at_call 26; refine (unveil HP _).mono ?_; rintro e w' ⟨rfl, hw'⟩; obtain rfl := hw'.symm)
    | (go_at_call 27; (first | with_reducible refine (unveil HTa _).mono ?_ | with_reducible refine (unveil HTb _).mono ?_); rintro e w' ⟨rfl, hw'⟩; obtain rfl := hw'.symm)
    | (go_at_call 28; refine (unveil HL _).mono ?_; rintro e w' ⟨rfl, hw'⟩; obtain rfl := hw'.symm))
  refine (unveil H3 _ (unveil HB3)).mono ?_
  rintro e W4 ⟨rfl, hb⟩
  have HB4 := veil ((unveil HB3).trans (hb.mono (unveil HB3).size))
  clear hb HB3
  go_wp2_with (first
    | (go_at_call 24; refine (unveil HU _).mono ?_; rintro e w' ⟨rfl, hw'⟩; obtain rfl := hw'.symm)
    | (go_at_call 25; refine (unveil HI _).mono ?_; rintro e w' ⟨rfl, hw'⟩; obtain rfl := hw'.symm)
    | (go_at_call 26; refine (unveil HP _).mono ?_; rintro e w' ⟨rfl, hw'⟩; obtain rfl := hw'.symm)
    | (go_at_call 27; (first | with_reducible refine (unveil HTa _).mono ?_ | with_reducible refine (unveil HTb _).mono ?_); rintro e w' ⟨rfl, hw'⟩; obtain rfl := hw'.symm)
    | (go_at_call 28; refine (unveil HL _).mono ?_; rintro e w' ⟨rfl, hw'⟩; obtain rfl := hw'.symm))
  all_goals go_ret
  all_goals exact ⟨rfl, unveil HB4⟩
end Go.Proofs.YtobfpdhfmbpidaaDoor
