/-
  ArithDivides and ArithRounds over whatever the calls tell.
-/
import Derived.Test.YtobfpdhfmbpidaaDoorEw
namespace Go.Proofs.YtobfpdhfmbpidaaDoor
open Go Go.RowKit
set_option linter.unusedVariables false
set_option linter.unusedSimpArgs false
set_option maxRecDepth 100000 in
set_option maxHeartbeats 4000000 in
theorem div_no (a ak b bk q k r l er : Int) (w : World) (he : (er != 0) = true) (he2 : (er == 0) = false)
    (HH : Hid (∀ W, Below w.heap.size w W → Calls Tryd.prog 11 #[] W fun e w' => e = .returned (.bool true) ∧ Below W.heap.size W w'))
    (H1 : Hid (∀ W, Below w.heap.size w W → Calls Tryd.prog 18 #[.int .i64 4, .int .i64 a, .int .i64 ak, .int .i64 b, .int .i64 bk] W fun e w' => e = .returned (.tuple #[.int .i64 q, .int .i64 k, .int .i64 er]) ∧ Below W.heap.size W w'))
    (H2 : Hid (∀ W, Below w.heap.size w W → Calls Tryd.prog 18 #[.int .i64 5, .int .i64 a, .int .i64 ak, .int .i64 b, .int .i64 bk] W fun e w' => e = .returned (.tuple #[.int .i64 r, .int .i64 l, .int .i64 er]) ∧ Below W.heap.size W w'))
    : Calls Tryd.prog 9 #[.int .i64 a, .int .i64 ak, .int .i64 b, .int .i64 bk] w fun e w' => e = .returned (.bool true) ∧ Below w.heap.size w w' := by
  have HB0 := veil (Below.refl w.heap.size w)
  go_enter Tryd.func9, Tryd.ntmps9
  go_wp2_with fail
  refine (unveil HH _ (unveil HB0)).mono ?_
  rintro e W1 ⟨rfl, hb⟩
  have HB1 := veil ((unveil HB0).trans (hb.mono (unveil HB0).size))
  clear hb HB0
  go_wp2_with fail
  refine (unveil H1 _ (unveil HB1)).mono ?_
  rintro e W2 ⟨rfl, hb⟩
  have HB2 := veil ((unveil HB1).trans (hb.mono (unveil HB1).size))
  clear hb HB1
  go_wp2_with fail
  refine (unveil H2 _ (unveil HB2)).mono ?_
  rintro e W3 ⟨rfl, hb⟩
  have HB3 := veil ((unveil HB2).trans (hb.mono (unveil HB2).size))
  clear hb HB2
  go_wp2_with fail
  all_goals go_ret
  all_goals exact ⟨rfl, unveil HB3⟩
set_option maxRecDepth 100000 in
set_option maxHeartbeats 4000000 in
theorem div_yes (a ak b bk q k r l p m s : Int) (w : World)
    (HH : Hid (∀ W, Below w.heap.size w W → Calls Tryd.prog 11 #[] W fun e w' => e = .returned (.bool true) ∧ Below W.heap.size W w'))
    (H1 : Hid (∀ W, Below w.heap.size w W → Calls Tryd.prog 18 #[.int .i64 4, .int .i64 a, .int .i64 ak, .int .i64 b, .int .i64 bk] W fun e w' => e = .returned (.tuple #[.int .i64 q, .int .i64 k, .int .i64 0]) ∧ Below W.heap.size W w'))
    (H2 : Hid (∀ W, Below w.heap.size w W → Calls Tryd.prog 18 #[.int .i64 5, .int .i64 a, .int .i64 ak, .int .i64 b, .int .i64 bk] W fun e w' => e = .returned (.tuple #[.int .i64 r, .int .i64 l, .int .i64 0]) ∧ Below W.heap.size W w'))
    (H3 : Hid (∀ W, Below w.heap.size w W → Calls Tryd.prog 18 #[.int .i64 3, .int .i64 q, .int .i64 k, .int .i64 b, .int .i64 bk] W fun e w' => e = .returned (.tuple #[.int .i64 p, .int .i64 m, .int .i64 0]) ∧ Below W.heap.size W w'))
    (H4 : Hid (∀ W, Below w.heap.size w W → Calls Tryd.prog 18 #[.int .i64 1, .int .i64 p, .int .i64 m, .int .i64 r, .int .i64 l] W fun e w' => e = .returned (.tuple #[.int .i64 s, .int .i64 k, .int .i64 0]) ∧ Below W.heap.size W w'))
    (HT : Hid (∀ W, Calls Tryd.prog 27 #[.int .i64 a, .int .i64 k] W fun e w' => e = .returned (.tuple #[.int .i64 s, .int .i64 0]) ∧ w' = W))
    : Calls Tryd.prog 9 #[.int .i64 a, .int .i64 ak, .int .i64 b, .int .i64 bk] w fun e w' => e = .returned (.bool true) ∧ Below w.heap.size w w' := by
  have HB0 := veil (Below.refl w.heap.size w)
  go_enter Tryd.func9, Tryd.ntmps9
  go_wp2_with (first
    | (go_at_call 27; refine (unveil HT _).mono ?_; rintro e w' ⟨rfl, hw'⟩; obtain rfl := hw'.symm))
  refine (unveil HH _ (unveil HB0)).mono ?_
  rintro e W1 ⟨rfl, hb⟩
  have HB1 := veil ((unveil HB0).trans (hb.mono (unveil HB0).size))
  clear hb HB0
  go_wp2_with (first
    | (go_at_call 27; refine (unveil HT _).mono ?_; rintro e w' ⟨rfl, hw'⟩; obtain rfl := hw'.symm))
  refine (unveil H1 _ (unveil HB1)).mono ?_
  rintro e W2 ⟨rfl, hb⟩
  have HB2 := veil ((unveil HB1).trans (hb.mono (unveil HB1).size))
  clear hb HB1
  go_wp2_with (first
    | (go_at_call 27; refine (unveil HT _).mono ?_; rintro e w' ⟨rfl, hw'⟩; obtain rfl := hw'.symm))
  refine (unveil H2 _ (unveil HB2)).mono ?_
  rintro e W3 ⟨rfl, hb⟩
  have HB3 := veil ((unveil HB2).trans (hb.mono (unveil HB2).size))
  clear hb HB2
  go_wp2_with (first
    | (go_at_call 27; refine (unveil HT _).mono ?_; rintro e w' ⟨rfl, hw'⟩; obtain rfl := hw'.symm))
  refine (unveil H3 _ (unveil HB3)).mono ?_
  rintro e W4 ⟨rfl, hb⟩
  have HB4 := veil ((unveil HB3).trans (hb.mono (unveil HB3).size))
  clear hb HB3
  go_wp2_with (first
    | (go_at_call 27; refine (unveil HT _).mono ?_; rintro e w' ⟨rfl, hw'⟩; obtain rfl := hw'.symm))
  refine (unveil H4 _ (unveil HB4)).mono ?_
  rintro e W5 ⟨rfl, hb⟩
  have HB5 := veil ((unveil HB4).trans (hb.mono (unveil HB4).size))
  clear hb HB4
  go_wp2_with (first
    | (go_at_call 27; refine (unveil HT _).mono ?_; rintro e w' ⟨rfl, hw'⟩; obtain rfl := hw'.symm))
  all_goals go_ret
  all_goals exact ⟨rfl, unveil HB5⟩
set_option maxRecDepth 100000 in
set_option maxHeartbeats 4000000 in
theorem rnd_no (k a b d n er f : Int) (w : World) (he : (er != 0) = true) (he2 : (er == 0) = false)
    (HH : Hid (∀ W, Below w.heap.size w W → Calls Tryd.prog 11 #[] W fun e w' => e = .returned (.bool true) ∧ Below W.heap.size W w'))
    (H1 : Hid (∀ W, Below w.heap.size w W → Calls Tryd.prog 22 #[.int .i64 2, .int .i64 k, .int .i64 a, .int .i64 b] W fun e w' => e = .returned (.tuple #[.int .i64 d, .int .i64 er]) ∧ Below W.heap.size W w'))
    (H2 : Hid (∀ W, Below w.heap.size w W → Calls Tryd.prog 22 #[.int .i64 15, .int .i64 k, .int .i64 b, .int .i64 0] W fun e w' => e = .returned (.tuple #[.int .i64 n, .int .i64 f]) ∧ Below W.heap.size W w'))
    : Calls Tryd.prog 10 #[.int .i64 k, .int .i64 a, .int .i64 b] w fun e w' => e = .returned (.bool true) ∧ Below w.heap.size w w' := by
  have HB0 := veil (Below.refl w.heap.size w)
  go_enter Tryd.func10, Tryd.ntmps10
  go_wp2_with fail
  refine (unveil HH _ (unveil HB0)).mono ?_
  rintro e W1 ⟨rfl, hb⟩
  have HB1 := veil ((unveil HB0).trans (hb.mono (unveil HB0).size))
  clear hb HB0
  go_wp2_with fail
  refine (unveil H1 _ (unveil HB1)).mono ?_
  rintro e W2 ⟨rfl, hb⟩
  have HB2 := veil ((unveil HB1).trans (hb.mono (unveil HB1).size))
  clear hb HB1
  go_wp2_with fail
  refine (unveil H2 _ (unveil HB2)).mono ?_
  rintro e W3 ⟨rfl, hb⟩
  have HB3 := veil ((unveil HB2).trans (hb.mono (unveil HB2).size))
  clear hb HB2
  go_wp2_with fail
  all_goals go_ret
  all_goals exact ⟨rfl, unveil HB3⟩
set_option maxRecDepth 100000 in
set_option maxHeartbeats 4000000 in
theorem rnd_yes (k a b d n x y z u v t : Int) (w : World)
    (HH : Hid (∀ W, Below w.heap.size w W → Calls Tryd.prog 11 #[] W fun e w' => e = .returned (.bool true) ∧ Below W.heap.size W w'))
    (H1 : Hid (∀ W, Below w.heap.size w W → Calls Tryd.prog 22 #[.int .i64 2, .int .i64 k, .int .i64 a, .int .i64 b] W fun e w' => e = .returned (.tuple #[.int .i64 d, .int .i64 0]) ∧ Below W.heap.size W w'))
    (H2 : Hid (∀ W, Below w.heap.size w W → Calls Tryd.prog 22 #[.int .i64 15, .int .i64 k, .int .i64 b, .int .i64 0] W fun e w' => e = .returned (.tuple #[.int .i64 n, .int .i64 0]) ∧ Below W.heap.size W w'))
    (H3 : Hid (∀ W, Below w.heap.size w W → Calls Tryd.prog 22 #[.int .i64 1, .int .i64 k, .int .i64 a, .int .i64 n] W fun e w' => e = .returned (.tuple #[.int .i64 d, .int .i64 0]) ∧ Below W.heap.size W w'))
    (H4 : Hid (∀ W, Below w.heap.size w W → Calls Tryd.prog 22 #[.int .i64 8, .int .i64 k, .int .i64 a, .int .i64 b] W fun e w' => e = .returned (.tuple #[.int .i64 x, .int .i64 0]) ∧ Below W.heap.size W w'))
    (H5 : Hid (∀ W, Below w.heap.size w W → Calls Tryd.prog 22 #[.int .i64 10, .int .i64 k, .int .i64 a, .int .i64 b] W fun e w' => e = .returned (.tuple #[.int .i64 y, .int .i64 0]) ∧ Below W.heap.size W w'))
    (H6 : Hid (∀ W, Below w.heap.size w W → Calls Tryd.prog 22 #[.int .i64 1, .int .i64 k, .int .i64 x, .int .i64 y] W fun e w' => e = .returned (.tuple #[.int .i64 z, .int .i64 0]) ∧ Below W.heap.size W w'))
    (H7 : Hid (∀ W, Below w.heap.size w W → Calls Tryd.prog 22 #[.int .i64 1, .int .i64 k, .int .i64 a, .int .i64 b] W fun e w' => e = .returned (.tuple #[.int .i64 z, .int .i64 0]) ∧ Below W.heap.size W w'))
    (H8 : Hid (∀ W, Below w.heap.size w W → Calls Tryd.prog 22 #[.int .i64 16, .int .i64 k, .int .i64 a, .int .i64 0] W fun e w' => e = .returned (.tuple #[.int .i64 u, .int .i64 0]) ∧ Below W.heap.size W w'))
    (H9 : Hid (∀ W, Below w.heap.size w W → Calls Tryd.prog 22 #[.int .i64 2, .int .i64 k, .int .i64 n, .int .i64 b] W fun e w' => e = .returned (.tuple #[.int .i64 v, .int .i64 0]) ∧ Below W.heap.size W w'))
    (Ha : Hid (∀ W, Below w.heap.size w W → Calls Tryd.prog 22 #[.int .i64 3, .int .i64 k, .int .i64 n, .int .i64 n] W fun e w' => e = .returned (.tuple #[.int .i64 t, .int .i64 0]) ∧ Below W.heap.size W w'))
    (Hb : Hid (∀ W, Below w.heap.size w W → Calls Tryd.prog 22 #[.int .i64 3, .int .i64 k, .int .i64 b, .int .i64 b] W fun e w' => e = .returned (.tuple #[.int .i64 t, .int .i64 0]) ∧ Below W.heap.size W w'))
    (HL1 : Hid (∀ W, Calls Tryd.prog 28 #[.int .i64 u, .int .i64 k] W fun e w' => e = .returned (.bool true) ∧ w' = W))
    (HL2 : Hid (∀ W, Calls Tryd.prog 28 #[.int .i64 v, .int .i64 k] W fun e w' => e = .returned (.bool true) ∧ w' = W))
    : Calls Tryd.prog 10 #[.int .i64 k, .int .i64 a, .int .i64 b] w fun e w' => e = .returned (.bool true) ∧ Below w.heap.size w w' := by
  have HB0 := veil (Below.refl w.heap.size w)
  go_enter Tryd.func10, Tryd.ntmps10
  go_wp2_with (first
    | (go_at_call 28; (first | with_reducible refine (unveil HL1 _).mono ?_ | with_reducible refine (unveil HL2 _).mono ?_); rintro e w' ⟨rfl, hw'⟩; obtain rfl := hw'.symm))
  refine (unveil HH _ (unveil HB0)).mono ?_
  rintro e W1 ⟨rfl, hb⟩
  have HB1 := veil ((unveil HB0).trans (hb.mono (unveil HB0).size))
  clear hb HB0
  go_wp2_with (first
    | (go_at_call 28; (first | with_reducible refine (unveil HL1 _).mono ?_ | with_reducible refine (unveil HL2 _).mono ?_); rintro e w' ⟨rfl, hw'⟩; obtain rfl := hw'.symm))
  refine (unveil H1 _ (unveil HB1)).mono ?_
  rintro e W2 ⟨rfl, hb⟩
  have HB2 := veil ((unveil HB1).trans (hb.mono (unveil HB1).size))
  clear hb HB1
  go_wp2_with (first
    | (go_at_call 28; (first | with_reducible refine (unveil HL1 _).mono ?_ | with_reducible refine (unveil HL2 _).mono ?_); rintro e w' ⟨rfl, hw'⟩; obtain rfl := hw'.symm))
  refine (unveil H2 _ (unveil HB2)).mono ?_
  rintro e W3 ⟨rfl, hb⟩
  have HB3 := veil ((unveil HB2).trans (hb.mono (unveil HB2).size))
  clear hb HB2
  go_wp2_with (first
    | (go_at_call 28; (first | with_reducible refine (unveil HL1 _).mono ?_ | with_reducible refine (unveil HL2 _).mono ?_); rintro e w' ⟨rfl, hw'⟩; obtain rfl := hw'.symm))
  refine (unveil H3 _ (unveil HB3)).mono ?_
  rintro e W4 ⟨rfl, hb⟩
  have HB4 := veil ((unveil HB3).trans (hb.mono (unveil HB3).size))
  clear hb HB3
  go_wp2_with (first
    | (go_at_call 28; (first | with_reducible refine (unveil HL1 _).mono ?_ | with_reducible refine (unveil HL2 _).mono ?_); rintro e w' ⟨rfl, hw'⟩; obtain rfl := hw'.symm))
  refine (unveil H4 _ (unveil HB4)).mono ?_
  rintro e W5 ⟨rfl, hb⟩
  have HB5 := veil ((unveil HB4).trans (hb.mono (unveil HB4).size))
  clear hb HB4
  go_wp2_with (first
    | (go_at_call 28; (first | with_reducible refine (unveil HL1 _).mono ?_ | with_reducible refine (unveil HL2 _).mono ?_); rintro e w' ⟨rfl, hw'⟩; obtain rfl := hw'.symm))
  refine (unveil H5 _ (unveil HB5)).mono ?_
  rintro e W6 ⟨rfl, hb⟩
  have HB6 := veil ((unveil HB5).trans (hb.mono (unveil HB5).size))
  clear hb HB5
  go_wp2_with (first
    | (go_at_call 28; (first | with_reducible refine (unveil HL1 _).mono ?_ | with_reducible refine (unveil HL2 _).mono ?_); rintro e w' ⟨rfl, hw'⟩; obtain rfl := hw'.symm))
  refine (unveil H6 _ (unveil HB6)).mono ?_
  rintro e W7 ⟨rfl, hb⟩
  have HB7 := veil ((unveil HB6).trans (hb.mono (unveil HB6).size))
  clear hb HB6
  go_wp2_with (first
    | (go_at_call 28; (first | with_reducible refine (unveil HL1 _).mono ?_ | with_reducible refine (unveil HL2 _).mono ?_); rintro e w' ⟨rfl, hw'⟩; obtain rfl := hw'.symm))
  refine (unveil H7 _ (unveil HB7)).mono ?_
  rintro e W8 ⟨rfl, hb⟩
  have HB8 := veil ((unveil HB7).trans (hb.mono (unveil HB7).size))
  clear hb HB7
  go_wp2_with (first
    | (go_at_call 28; (first | with_reducible refine (unveil HL1 _).mono ?_ | with_reducible refine (unveil HL2 _).mono ?_); rintro e w' ⟨rfl, hw'⟩; obtain rfl := hw'.symm))
  refine (unveil H8 _ (unveil HB8)).mono ?_
  rintro e W9 ⟨rfl, hb⟩
  have HB9 := veil ((unveil HB8).trans (hb.mono (unveil HB8).size))
  clear hb HB8
  go_wp2_with (first
    | (go_at_call 28; (first | with_reducible refine (unveil HL1 _).mono ?_ | with_reducible refine (unveil HL2 _).mono ?_); rintro e w' ⟨rfl, hw'⟩; obtain rfl := hw'.symm))
  refine (unveil H9 _ (unveil HB9)).mono ?_
  rintro e W10 ⟨rfl, hb⟩
  have HB10 := veil ((unveil HB9).trans (hb.mono (unveil HB9).size))
  clear hb HB9
  go_wp2_with (first
    | (go_at_call 28; (first | with_reducible refine (unveil HL1 _).mono ?_ | with_reducible refine (unveil HL2 _).mono ?_); rintro e w' ⟨rfl, hw'⟩; obtain rfl := hw'.symm))
  refine (unveil Ha _ (unveil HB10)).mono ?_
  rintro e W11 ⟨rfl, hb⟩
  have HB11 := veil ((unveil HB10).trans (hb.mono (unveil HB10).size))
  clear hb HB10
  go_wp2_with (first
    | (go_at_call 28; (first | with_reducible refine (unveil HL1 _).mono ?_ | with_reducible refine (unveil HL2 _).mono ?_); rintro e w' ⟨rfl, hw'⟩; obtain rfl := hw'.symm))
  refine (unveil Hb _ (unveil HB11)).mono ?_
  rintro e W12 ⟨rfl, hb⟩
  have HB12 := veil ((unveil HB11).trans (hb.mono (unveil HB11).size))
  clear hb HB11
  go_wp2_with (first
    | (go_at_call 28; (first | with_reducible refine (unveil HL1 _).mono ?_ | with_reducible refine (unveil HL2 _).mono ?_); rintro e w' ⟨rfl, hw'⟩; obtain rfl := hw'.symm))
  all_goals go_ret
  all_goals exact ⟨rfl, unveil HB12⟩
end Go.Proofs.YtobfpdhfmbpidaaDoor
