/-
  The document's own One, over whatever the calls tell.
  The document's own Wrap, over whatever the calls tell.
  The document's own Wrap, over whatever the calls tell.
-/
import Derived.Test.YtobfpdhfmbpidaaDoorGd
import Derived.Test.YtobfpdhfmbpidaaDoorGc
import Derived.Test.YtobfpdhfmbpidaaDoorGe
namespace Go.Proofs.YtobfpdhfmbpidaaDoor
open Go Go.RowKit
set_option linter.unusedVariables false
set_option linter.unusedSimpArgs false
set_option maxRecDepth 100000 in
set_option maxHeartbeats 4000000 in
theorem RO_arg (op a ak : Int) (w : World)
    (HO : Hid (∀ W, Calls Tryd.prog 32 #[.int .i64 op] W fun e w' => e = .returned (.bool false) ∧ w' = W))
    : Calls Tryd.prog 21 #[.int .i64 op, .int .i64 a, .int .i64 ak] w fun e w' => e = .returned (.tuple #[.int .i64 0, .int .i64 0, .int .i64 2]) ∧ w' = w := by
  go_enter Tryd.func21, Tryd.ntmps21
  go_wp2_with (first
    | (go_at_call 32; refine (unveil HO _).mono ?_; rintro e w' ⟨rfl, hw'⟩; obtain rfl := hw'.symm))
  go_ret3
  exact ⟨rfl, rfl⟩
set_option maxRecDepth 100000 in
set_option maxHeartbeats 4000000 in
theorem RO_kind (op a ak : Int) (w : World)
    (HO : Hid (∀ W, Calls Tryd.prog 32 #[.int .i64 op] W fun e w' => e = .returned (.bool true) ∧ w' = W))
    (HL : Hid (∀ W, Calls Tryd.prog 39 #[.int .i64 a, .int .i64 ak] W fun e w' => e = .returned (.bool false) ∧ w' = W))
    : Calls Tryd.prog 21 #[.int .i64 op, .int .i64 a, .int .i64 ak] w fun e w' => e = .returned (.tuple #[.int .i64 0, .int .i64 0, .int .i64 80]) ∧ w' = w := by
  go_enter Tryd.func21, Tryd.ntmps21
  go_wp2_with (first
    | (go_at_call 32; refine (unveil HO _).mono ?_; rintro e w' ⟨rfl, hw'⟩; obtain rfl := hw'.symm)
    | (go_at_call 39; refine (unveil HL _).mono ?_; rintro e w' ⟨rfl, hw'⟩; obtain rfl := hw'.symm))
  go_ret3
  exact ⟨rfl, rfl⟩
set_option maxRecDepth 100000 in
set_option maxHeartbeats 4000000 in
theorem RO_not (a ak : Int) (w : World)
    (HO : Hid (∀ W, Calls Tryd.prog 32 #[.int .i64 17] W fun e w' => e = .returned (.bool true) ∧ w' = W))
    (HL : Hid (∀ W, Calls Tryd.prog 39 #[.int .i64 a, .int .i64 ak] W fun e w' => e = .returned (.bool true) ∧ w' = W))
    : Calls Tryd.prog 21 #[.int .i64 17, .int .i64 a, .int .i64 ak] w fun e w' => e = .returned (.tuple #[.int .i64 (tru (a == 0)), .int .i64 5, .int .i64 0]) ∧ w' = w := by
  have HT := veil Rtruth_any
  go_enter Tryd.func21, Tryd.ntmps21
  go_wp2_with (first
    | (go_at_call 32; refine (unveil HO _).mono ?_; rintro e w' ⟨rfl, hw'⟩; obtain rfl := hw'.symm)
    | (go_at_call 39; refine (unveil HL _).mono ?_; rintro e w' ⟨rfl, hw'⟩; obtain rfl := hw'.symm)
    | (go_at_call 47; refine (unveil HT _ _).mono ?_; rintro e w' ⟨rfl, hw'⟩; obtain rfl := hw'.symm))
  go_ret3
  exact ⟨rfl, rfl⟩
set_option maxRecDepth 100000 in
set_option maxHeartbeats 4000000 in
theorem RO_flip (a ak k ke v ev : Int) (w : World)
    (HO : Hid (∀ W, Calls Tryd.prog 32 #[.int .i64 16] W fun e w' => e = .returned (.bool true) ∧ w' = W))
    (HL : Hid (∀ W, Calls Tryd.prog 39 #[.int .i64 a, .int .i64 ak] W fun e w' => e = .returned (.bool true) ∧ w' = W))
    (HI : Hid (∀ W, Calls Tryd.prog 33 #[.int .i64 16, .int .i64 ak, .int .i64 ak] W fun e w' => e = .returned (.tuple #[.int .i64 k, .int .i64 ke]) ∧ w' = W))
    (HT : Hid (∀ W, Calls Tryd.prog 42 #[.int .i64 (bits .xor .i64 (-1) a), .int .i64 k] W fun e w' => e = .returned (.tuple #[.int .i64 v, .int .i64 ev]) ∧ w' = W))
    : Calls Tryd.prog 21 #[.int .i64 16, .int .i64 a, .int .i64 ak] w fun e w' => e = .returned (.tuple #[.int .i64 v, .int .i64 k, .int .i64 0]) ∧ w' = w := by
  go_enter Tryd.func21, Tryd.ntmps21
  go_wp2_with (first
    | (go_at_call 32; refine (unveil HO _).mono ?_; rintro e w' ⟨rfl, hw'⟩; obtain rfl := hw'.symm)
    | (go_at_call 39; refine (unveil HL _).mono ?_; rintro e w' ⟨rfl, hw'⟩; obtain rfl := hw'.symm)
    | (go_at_call 33; refine (unveil HI _).mono ?_; rintro e w' ⟨rfl, hw'⟩; obtain rfl := hw'.symm)
    | (go_at_call 42; refine (unveil HT _).mono ?_; rintro e w' ⟨rfl, hw'⟩; obtain rfl := hw'.symm))
  go_ret3
  exact ⟨rfl, rfl⟩
set_option maxRecDepth 100000 in
set_option maxHeartbeats 4000000 in
theorem RO_neg (a ak k ke t0 t1 t2 : Int) (w : World)
    (H2 : Hid (∀ W, Calls Tryd.prog 19 #[.int .i64 2, .int .i64 0, .int .i64 k, .int .i64 a, .int .i64 k] W fun e w' => e = .returned (.tuple #[.int .i64 t0, .int .i64 t1, .int .i64 t2]) ∧ Below W.heap.size W w'))
    (HO : Hid (∀ W, Calls Tryd.prog 32 #[.int .i64 15] W fun e w' => e = .returned (.bool true) ∧ w' = W))
    (HL : Hid (∀ W, Calls Tryd.prog 39 #[.int .i64 a, .int .i64 ak] W fun e w' => e = .returned (.bool true) ∧ w' = W))
    (HI : Hid (∀ W, Calls Tryd.prog 33 #[.int .i64 15, .int .i64 ak, .int .i64 ak] W fun e w' => e = .returned (.tuple #[.int .i64 k, .int .i64 ke]) ∧ w' = W))
    : Calls Tryd.prog 21 #[.int .i64 15, .int .i64 a, .int .i64 ak] w fun e w' => e = .returned (.tuple #[.int .i64 t0, .int .i64 t1, .int .i64 t2]) ∧ Below w.heap.size w w' := by
  go_enter Tryd.func21, Tryd.ntmps21
  go_wp2_with (first
    | (go_at_call 32; refine (unveil HO _).mono ?_; rintro e w' ⟨rfl, hw'⟩; obtain rfl := hw'.symm)
    | (go_at_call 39; refine (unveil HL _).mono ?_; rintro e w' ⟨rfl, hw'⟩; obtain rfl := hw'.symm)
    | (go_at_call 33; refine (unveil HI _).mono ?_; rintro e w' ⟨rfl, hw'⟩; obtain rfl := hw'.symm))
  refine (unveil H2 _).mono ?_
  rintro e W1 ⟨rfl, hb⟩
  have HB1 := veil hb
  clear hb
  go_wp2_with (first
    | (go_at_call 32; refine (unveil HO _).mono ?_; rintro e w' ⟨rfl, hw'⟩; obtain rfl := hw'.symm)
    | (go_at_call 39; refine (unveil HL _).mono ?_; rintro e w' ⟨rfl, hw'⟩; obtain rfl := hw'.symm)
    | (go_at_call 33; refine (unveil HI _).mono ?_; rintro e w' ⟨rfl, hw'⟩; obtain rfl := hw'.symm))
  go_ret3
  exact ⟨rfl, unveil HB1⟩
end Go.Proofs.YtobfpdhfmbpidaaDoor
namespace Go.Proofs.YtobfpdhfmbpidaaDoor
open Go Go.RowKit
set_option linter.unusedVariables false
set_option linter.unusedSimpArgs false
set_option maxRecDepth 100000 in
set_option maxHeartbeats 4000000 in
theorem RW_arg (op k a b : Int) (w : World)
    (HB : Hid (∀ W, Calls Tryd.prog 15 #[.int .i64 op] W fun e w' => e = .returned (.bool false) ∧ w' = W))
    (HO : Hid (∀ W, Calls Tryd.prog 32 #[.int .i64 op] W fun e w' => e = .returned (.bool false) ∧ w' = W))
    : Calls Tryd.prog 23 #[.int .i64 op, .int .i64 k, .int .i64 a, .int .i64 b] w fun e w' => e = .returned (.tuple #[.int .i64 0, .int .i64 2]) ∧ w' = w := by
  go_enter Tryd.func23, Tryd.ntmps23
  go_wp2_with (first
    | (go_at_call 15; refine (unveil HB _).mono ?_; rintro e w' ⟨rfl, hw'⟩; obtain rfl := hw'.symm)
    | (go_at_call 32; refine (unveil HO _).mono ?_; rintro e w' ⟨rfl, hw'⟩; obtain rfl := hw'.symm))
  go_ret2
  exact ⟨rfl, rfl⟩
set_option maxRecDepth 100000 in
set_option maxHeartbeats 4000000 in
theorem RW_kind (op k a b : Int) (B1 B2 LA LB : Bool) (w : World) (hb : (B2 || B1) = true) (hl : (LA && LB) = false)
    (HB : Hid (∀ W, Calls Tryd.prog 15 #[.int .i64 op] W fun e w' => e = .returned (.bool B2) ∧ w' = W))
    (HO : Hid (∀ W, Calls Tryd.prog 32 #[.int .i64 op] W fun e w' => e = .returned (.bool B1) ∧ w' = W))
    (HLa : Hid (∀ W, Calls Tryd.prog 39 #[.int .i64 a, .int .i64 k] W fun e w' => e = .returned (.bool LA) ∧ w' = W))
    (HLb : Hid (∀ W, Calls Tryd.prog 39 #[.int .i64 b, .int .i64 k] W fun e w' => e = .returned (.bool LB) ∧ w' = W))
    : Calls Tryd.prog 23 #[.int .i64 op, .int .i64 k, .int .i64 a, .int .i64 b] w fun e w' => e = .returned (.tuple #[.int .i64 0, .int .i64 80]) ∧ w' = w := by
  cases B2 <;> cases B1 <;> cases LA <;> cases LB
  all_goals first
    | (exfalso; revert hb hl; decide)
    | (
       go_enter Tryd.func23, Tryd.ntmps23
       go_wp2_with (first
    | (go_at_call 15; refine (unveil HB _).mono ?_; rintro e w' ⟨rfl, hw'⟩; obtain rfl := hw'.symm)
    | (go_at_call 32; refine (unveil HO _).mono ?_; rintro e w' ⟨rfl, hw'⟩; obtain rfl := hw'.symm)
    | (go_at_call 39; (first | with_reducible refine (unveil HLa _).mono ?_ | with_reducible refine (unveil HLb _).mono ?_); rintro e w' ⟨rfl, hw'⟩; obtain rfl := hw'.symm))
       go_ret2
       exact ⟨rfl, rfl⟩)
set_option maxRecDepth 100000 in
set_option maxHeartbeats 4000000 in
theorem RW_not (k a b : Int) (w : World)
    (HB : Hid (∀ W, Calls Tryd.prog 15 #[.int .i64 17] W fun e w' => e = .returned (.bool false) ∧ w' = W))
    (HO : Hid (∀ W, Calls Tryd.prog 32 #[.int .i64 17] W fun e w' => e = .returned (.bool true) ∧ w' = W))
    (HLa : Hid (∀ W, Calls Tryd.prog 39 #[.int .i64 a, .int .i64 k] W fun e w' => e = .returned (.bool true) ∧ w' = W))
    (HLb : Hid (∀ W, Calls Tryd.prog 39 #[.int .i64 b, .int .i64 k] W fun e w' => e = .returned (.bool true) ∧ w' = W))
    : Calls Tryd.prog 23 #[.int .i64 17, .int .i64 k, .int .i64 a, .int .i64 b] w fun e w' => e = .returned (.tuple #[.int .i64 (tru (a == 0)), .int .i64 0]) ∧ w' = w := by
  have HT := veil Rtruth_any
  go_enter Tryd.func23, Tryd.ntmps23
  go_wp2_with (first
    | (go_at_call 15; refine (unveil HB _).mono ?_; rintro e w' ⟨rfl, hw'⟩; obtain rfl := hw'.symm)
    | (go_at_call 32; refine (unveil HO _).mono ?_; rintro e w' ⟨rfl, hw'⟩; obtain rfl := hw'.symm)
    | (go_at_call 39; (first | with_reducible refine (unveil HLa _).mono ?_ | with_reducible refine (unveil HLb _).mono ?_); rintro e w' ⟨rfl, hw'⟩; obtain rfl := hw'.symm)
    | (go_at_call 47; refine (unveil HT _ _).mono ?_; rintro e w' ⟨rfl, hw'⟩; obtain rfl := hw'.symm))
  go_ret2
  exact ⟨rfl, rfl⟩
set_option maxRecDepth 100000 in
set_option maxHeartbeats 4000000 in
theorem RW_truth (op k a b c : Int) (w : World) (h17 : (op == 17) = false)
    (HB : Hid (∀ W, Calls Tryd.prog 15 #[.int .i64 op] W fun e w' => e = .returned (.bool true) ∧ w' = W))
    (HLa : Hid (∀ W, Calls Tryd.prog 39 #[.int .i64 a, .int .i64 k] W fun e w' => e = .returned (.bool true) ∧ w' = W))
    (HLb : Hid (∀ W, Calls Tryd.prog 39 #[.int .i64 b, .int .i64 k] W fun e w' => e = .returned (.bool true) ∧ w' = W))
    (HQ : Hid (∀ W, Calls Tryd.prog 34 #[.int .i64 op] W fun e w' => e = .returned (.bool true) ∧ w' = W))
    (HC : Hid (∀ W, Calls Tryd.prog 43 #[.int .i64 op, .int .i64 k, .int .i64 a, .int .i64 b] W fun e w' => e = .returned (.int .i64 c) ∧ w' = W))
    : Calls Tryd.prog 23 #[.int .i64 op, .int .i64 k, .int .i64 a, .int .i64 b] w fun e w' => e = .returned (.tuple #[.int .i64 c, .int .i64 0]) ∧ w' = w := by
  go_enter Tryd.func23, Tryd.ntmps23
  go_wp2_with (first
    | (go_at_call 15; refine (unveil HB _).mono ?_; rintro e w' ⟨rfl, hw'⟩; obtain rfl := hw'.symm)
    | (go_at_call 39; (first | with_reducible refine (unveil HLa _).mono ?_ | with_reducible refine (unveil HLb _).mono ?_); rintro e w' ⟨rfl, hw'⟩; obtain rfl := hw'.symm)
    | (go_at_call 34; refine (unveil HQ _).mono ?_; rintro e w' ⟨rfl, hw'⟩; obtain rfl := hw'.symm)
    | (go_at_call 43; refine (unveil HC _).mono ?_; rintro e w' ⟨rfl, hw'⟩; obtain rfl := hw'.symm))
  go_ret2
  exact ⟨rfl, rfl⟩
set_option maxRecDepth 100000 in
set_option maxHeartbeats 4000000 in
theorem RW_15 (k a b v ev : Int) (w : World)
    (HB : Hid (∀ W, Calls Tryd.prog 15 #[.int .i64 15] W fun e w' => e = .returned (.bool false) ∧ w' = W))
    (HO : Hid (∀ W, Calls Tryd.prog 32 #[.int .i64 15] W fun e w' => e = .returned (.bool true) ∧ w' = W))
    (HLa : Hid (∀ W, Calls Tryd.prog 39 #[.int .i64 a, .int .i64 k] W fun e w' => e = .returned (.bool true) ∧ w' = W))
    (HLb : Hid (∀ W, Calls Tryd.prog 39 #[.int .i64 b, .int .i64 k] W fun e w' => e = .returned (.bool true) ∧ w' = W))
    (HQ : Hid (∀ W, Calls Tryd.prog 34 #[.int .i64 15] W fun e w' => e = .returned (.bool false) ∧ w' = W))
    (HT : Hid (∀ W, Calls Tryd.prog 42 #[.int .i64 (wrap64 (-a)), .int .i64 k] W fun e w' => e = .returned (.tuple #[.int .i64 v, .int .i64 ev]) ∧ w' = W))
    : Calls Tryd.prog 23 #[.int .i64 15, .int .i64 k, .int .i64 a, .int .i64 b] w fun e w' => e = .returned (.tuple #[.int .i64 v, .int .i64 ev]) ∧ w' = w := by
  go_enter Tryd.func23, Tryd.ntmps23
  go_wp2_with (first
    | (go_at_call 15; refine (unveil HB _).mono ?_; rintro e w' ⟨rfl, hw'⟩; obtain rfl := hw'.symm)
    | (go_at_call 32; refine (unveil HO _).mono ?_; rintro e w' ⟨rfl, hw'⟩; obtain rfl := hw'.symm)
    | (go_at_call 39; (first | with_reducible refine (unveil HLa _).mono ?_ | with_reducible refine (unveil HLb _).mono ?_); rintro e w' ⟨rfl, hw'⟩; obtain rfl := hw'.symm)
    | (go_at_call 34; refine (unveil HQ _).mono ?_; rintro e w' ⟨rfl, hw'⟩; obtain rfl := hw'.symm)
    | (go_at_call 42; refine (unveil HT _).mono ?_; rintro e w' ⟨rfl, hw'⟩; obtain rfl := hw'.symm))
  go_ret2
  exact ⟨rfl, rfl⟩
set_option maxRecDepth 100000 in
set_option maxHeartbeats 4000000 in
theorem RW_16 (k a b v ev : Int) (w : World)
    (HB : Hid (∀ W, Calls Tryd.prog 15 #[.int .i64 16] W fun e w' => e = .returned (.bool false) ∧ w' = W))
    (HO : Hid (∀ W, Calls Tryd.prog 32 #[.int .i64 16] W fun e w' => e = .returned (.bool true) ∧ w' = W))
    (HLa : Hid (∀ W, Calls Tryd.prog 39 #[.int .i64 a, .int .i64 k] W fun e w' => e = .returned (.bool true) ∧ w' = W))
    (HLb : Hid (∀ W, Calls Tryd.prog 39 #[.int .i64 b, .int .i64 k] W fun e w' => e = .returned (.bool true) ∧ w' = W))
    (HQ : Hid (∀ W, Calls Tryd.prog 34 #[.int .i64 16] W fun e w' => e = .returned (.bool false) ∧ w' = W))
    (HT : Hid (∀ W, Calls Tryd.prog 42 #[.int .i64 (bits .xor .i64 (-1) a), .int .i64 k] W fun e w' => e = .returned (.tuple #[.int .i64 v, .int .i64 ev]) ∧ w' = W))
    : Calls Tryd.prog 23 #[.int .i64 16, .int .i64 k, .int .i64 a, .int .i64 b] w fun e w' => e = .returned (.tuple #[.int .i64 v, .int .i64 ev]) ∧ w' = w := by
  go_enter Tryd.func23, Tryd.ntmps23
  go_wp2_with (first
    | (go_at_call 15; refine (unveil HB _).mono ?_; rintro e w' ⟨rfl, hw'⟩; obtain rfl := hw'.symm)
    | (go_at_call 32; refine (unveil HO _).mono ?_; rintro e w' ⟨rfl, hw'⟩; obtain rfl := hw'.symm)
    | (go_at_call 39; (first | with_reducible refine (unveil HLa _).mono ?_ | with_reducible refine (unveil HLb _).mono ?_); rintro e w' ⟨rfl, hw'⟩; obtain rfl := hw'.symm)
    | (go_at_call 34; refine (unveil HQ _).mono ?_; rintro e w' ⟨rfl, hw'⟩; obtain rfl := hw'.symm)
    | (go_at_call 42; refine (unveil HT _).mono ?_; rintro e w' ⟨rfl, hw'⟩; obtain rfl := hw'.symm))
  go_ret2
  exact ⟨rfl, rfl⟩
set_option maxRecDepth 100000 in
set_option maxHeartbeats 4000000 in
theorem RW_plain (op k a b v u eu : Int) (OK : Bool) (w : World) (h4 : (op == 4) = false) (h5 : (op == 5) = false) (h6 : (op == 6) = false) (h7 : (op == 7) = false) (h15 : (op == 15) = false) (h16 : (op == 16) = false) (h17 : (op == 17) = false)
    (HB : Hid (∀ W, Calls Tryd.prog 15 #[.int .i64 op] W fun e w' => e = .returned (.bool true) ∧ w' = W))
    (HLa : Hid (∀ W, Calls Tryd.prog 39 #[.int .i64 a, .int .i64 k] W fun e w' => e = .returned (.bool true) ∧ w' = W))
    (HLb : Hid (∀ W, Calls Tryd.prog 39 #[.int .i64 b, .int .i64 k] W fun e w' => e = .returned (.bool true) ∧ w' = W))
    (HQ : Hid (∀ W, Calls Tryd.prog 34 #[.int .i64 op] W fun e w' => e = .returned (.bool false) ∧ w' = W))
    (HPl : Hid (∀ W, Calls Tryd.prog 45 #[.int .i64 op, .int .i64 a, .int .i64 b] W fun e w' => e = .returned (.tuple #[.int .i64 v, .bool OK]) ∧ w' = W))
    (HT : Hid (∀ W, Calls Tryd.prog 42 #[.int .i64 v, .int .i64 k] W fun e w' => e = .returned (.tuple #[.int .i64 u, .int .i64 eu]) ∧ w' = W))
    : Calls Tryd.prog 23 #[.int .i64 op, .int .i64 k, .int .i64 a, .int .i64 b] w fun e w' => e = .returned (.tuple #[.int .i64 u, .int .i64 eu]) ∧ w' = w := by
  go_enter Tryd.func23, Tryd.ntmps23
  go_wp2_with (first
    | (go_at_call 15; refine (unveil HB _).mono ?_; rintro e w' ⟨rfl, hw'⟩; obtain rfl := hw'.symm)
    | (go_at_call 39; (first | with_reducible refine (unveil HLa _).mono ?_ | with_reducible refine (unveil HLb _).mono ?_); rintro e w' ⟨rfl, hw'⟩; obtain rfl := hw'.symm)
    | (go_at_call 34; refine (unveil HQ _).mono ?_; rintro e w' ⟨rfl, hw'⟩; obtain rfl := hw'.symm)
    | (go_at_call 45; refine (unveil HPl _).mono ?_; rintro e w' ⟨rfl, hw'⟩; obtain rfl := hw'.symm)
    | (go_at_call 42; refine (unveil HT _).mono ?_; rintro e w' ⟨rfl, hw'⟩; obtain rfl := hw'.symm))
  go_ret2
  exact ⟨rfl, rfl⟩
set_option maxRecDepth 100000 in
set_option maxHeartbeats 4000000 in
theorem RW_div0_4 (k a u eu : Int) (w : World)
    (HB : Hid (∀ W, Calls Tryd.prog 15 #[.int .i64 4] W fun e w' => e = .returned (.bool true) ∧ w' = W))
    (HLa : Hid (∀ W, Calls Tryd.prog 39 #[.int .i64 a, .int .i64 k] W fun e w' => e = .returned (.bool true) ∧ w' = W))
    (HLb : Hid (∀ W, Calls Tryd.prog 39 #[.int .i64 0, .int .i64 k] W fun e w' => e = .returned (.bool true) ∧ w' = W))
    (HQ : Hid (∀ W, Calls Tryd.prog 34 #[.int .i64 4] W fun e w' => e = .returned (.bool false) ∧ w' = W))
    (HT : Hid (∀ W, Calls Tryd.prog 42 #[.int .i64 0, .int .i64 k] W fun e w' => e = .returned (.tuple #[.int .i64 u, .int .i64 eu]) ∧ w' = W))
    : Calls Tryd.prog 23 #[.int .i64 4, .int .i64 k, .int .i64 a, .int .i64 0] w fun e w' => e = .returned (.tuple #[.int .i64 u, .int .i64 eu]) ∧ w' = w := by
  go_enter Tryd.func23, Tryd.ntmps23
  go_wp2_with (first
    | (go_at_call 15; refine (unveil HB _).mono ?_; rintro e w' ⟨rfl, hw'⟩; obtain rfl := hw'.symm)
    | (go_at_call 39; (first | with_reducible refine (unveil HLa _).mono ?_ | with_reducible refine (unveil HLb _).mono ?_); rintro e w' ⟨rfl, hw'⟩; obtain rfl := hw'.symm)
    | (go_at_call 34; refine (unveil HQ _).mono ?_; rintro e w' ⟨rfl, hw'⟩; obtain rfl := hw'.symm)
    | (go_at_call 42; refine (unveil HT _).mono ?_; rintro e w' ⟨rfl, hw'⟩; obtain rfl := hw'.symm))
  go_ret2
  exact ⟨rfl, rfl⟩
set_option maxRecDepth 100000 in
set_option maxHeartbeats 4000000 in
theorem RW_div_4 (k a b v u eu : Int) (w : World) (h0 : (b == 0) = false) (h1 : (b != 0) = true)
    (HB : Hid (∀ W, Calls Tryd.prog 15 #[.int .i64 4] W fun e w' => e = .returned (.bool true) ∧ w' = W))
    (HLa : Hid (∀ W, Calls Tryd.prog 39 #[.int .i64 a, .int .i64 k] W fun e w' => e = .returned (.bool true) ∧ w' = W))
    (HLb : Hid (∀ W, Calls Tryd.prog 39 #[.int .i64 b, .int .i64 k] W fun e w' => e = .returned (.bool true) ∧ w' = W))
    (HQ : Hid (∀ W, Calls Tryd.prog 34 #[.int .i64 4] W fun e w' => e = .returned (.bool false) ∧ w' = W))
    (HD : Hid (∀ W, Calls Tryd.prog 44 #[.int .i64 4, .int .i64 k, .int .i64 a, .int .i64 b] W fun e w' => e = .returned (.int .i64 v) ∧ w' = W))
    (HT : Hid (∀ W, Calls Tryd.prog 42 #[.int .i64 v, .int .i64 k] W fun e w' => e = .returned (.tuple #[.int .i64 u, .int .i64 eu]) ∧ w' = W))
    : Calls Tryd.prog 23 #[.int .i64 4, .int .i64 k, .int .i64 a, .int .i64 b] w fun e w' => e = .returned (.tuple #[.int .i64 u, .int .i64 eu]) ∧ w' = w := by
  go_enter Tryd.func23, Tryd.ntmps23
  go_wp2_with (first
    | (go_at_call 15; refine (unveil HB _).mono ?_; rintro e w' ⟨rfl, hw'⟩; obtain rfl := hw'.symm)
    | (go_at_call 39; (first | with_reducible refine (unveil HLa _).mono ?_ | with_reducible refine (unveil HLb _).mono ?_); rintro e w' ⟨rfl, hw'⟩; obtain rfl := hw'.symm)
    | (go_at_call 34; refine (unveil HQ _).mono ?_; rintro e w' ⟨rfl, hw'⟩; obtain rfl := hw'.symm)
    | (go_at_call 44; refine (unveil HD _).mono ?_; rintro e w' ⟨rfl, hw'⟩; obtain rfl := hw'.symm)
    | (go_at_call 42; refine (unveil HT _).mono ?_; rintro e w' ⟨rfl, hw'⟩; obtain rfl := hw'.symm))
  go_ret2
  exact ⟨rfl, rfl⟩
set_option maxRecDepth 100000 in
set_option maxHeartbeats 4000000 in
theorem RW_div0_5 (k a u eu : Int) (w : World)
    (HB : Hid (∀ W, Calls Tryd.prog 15 #[.int .i64 5] W fun e w' => e = .returned (.bool true) ∧ w' = W))
    (HLa : Hid (∀ W, Calls Tryd.prog 39 #[.int .i64 a, .int .i64 k] W fun e w' => e = .returned (.bool true) ∧ w' = W))
    (HLb : Hid (∀ W, Calls Tryd.prog 39 #[.int .i64 0, .int .i64 k] W fun e w' => e = .returned (.bool true) ∧ w' = W))
    (HQ : Hid (∀ W, Calls Tryd.prog 34 #[.int .i64 5] W fun e w' => e = .returned (.bool false) ∧ w' = W))
    (HT : Hid (∀ W, Calls Tryd.prog 42 #[.int .i64 a, .int .i64 k] W fun e w' => e = .returned (.tuple #[.int .i64 u, .int .i64 eu]) ∧ w' = W))
    : Calls Tryd.prog 23 #[.int .i64 5, .int .i64 k, .int .i64 a, .int .i64 0] w fun e w' => e = .returned (.tuple #[.int .i64 u, .int .i64 eu]) ∧ w' = w := by
  go_enter Tryd.func23, Tryd.ntmps23
  go_wp2_with (first
    | (go_at_call 15; refine (unveil HB _).mono ?_; rintro e w' ⟨rfl, hw'⟩; obtain rfl := hw'.symm)
    | (go_at_call 39; (first | with_reducible refine (unveil HLa _).mono ?_ | with_reducible refine (unveil HLb _).mono ?_); rintro e w' ⟨rfl, hw'⟩; obtain rfl := hw'.symm)
    | (go_at_call 34; refine (unveil HQ _).mono ?_; rintro e w' ⟨rfl, hw'⟩; obtain rfl := hw'.symm)
    | (go_at_call 42; refine (unveil HT _).mono ?_; rintro e w' ⟨rfl, hw'⟩; obtain rfl := hw'.symm))
  go_ret2
  exact ⟨rfl, rfl⟩
set_option maxRecDepth 100000 in
set_option maxHeartbeats 4000000 in
theorem RW_div_5 (k a b v u eu : Int) (w : World) (h0 : (b == 0) = false) (h1 : (b != 0) = true)
    (HB : Hid (∀ W, Calls Tryd.prog 15 #[.int .i64 5] W fun e w' => e = .returned (.bool true) ∧ w' = W))
    (HLa : Hid (∀ W, Calls Tryd.prog 39 #[.int .i64 a, .int .i64 k] W fun e w' => e = .returned (.bool true) ∧ w' = W))
    (HLb : Hid (∀ W, Calls Tryd.prog 39 #[.int .i64 b, .int .i64 k] W fun e w' => e = .returned (.bool true) ∧ w' = W))
    (HQ : Hid (∀ W, Calls Tryd.prog 34 #[.int .i64 5] W fun e w' => e = .returned (.bool false) ∧ w' = W))
    (HD : Hid (∀ W, Calls Tryd.prog 44 #[.int .i64 5, .int .i64 k, .int .i64 a, .int .i64 b] W fun e w' => e = .returned (.int .i64 v) ∧ w' = W))
    (HT : Hid (∀ W, Calls Tryd.prog 42 #[.int .i64 v, .int .i64 k] W fun e w' => e = .returned (.tuple #[.int .i64 u, .int .i64 eu]) ∧ w' = W))
    : Calls Tryd.prog 23 #[.int .i64 5, .int .i64 k, .int .i64 a, .int .i64 b] w fun e w' => e = .returned (.tuple #[.int .i64 u, .int .i64 eu]) ∧ w' = w := by
  go_enter Tryd.func23, Tryd.ntmps23
  go_wp2_with (first
    | (go_at_call 15; refine (unveil HB _).mono ?_; rintro e w' ⟨rfl, hw'⟩; obtain rfl := hw'.symm)
    | (go_at_call 39; (first | with_reducible refine (unveil HLa _).mono ?_ | with_reducible refine (unveil HLb _).mono ?_); rintro e w' ⟨rfl, hw'⟩; obtain rfl := hw'.symm)
    | (go_at_call 34; refine (unveil HQ _).mono ?_; rintro e w' ⟨rfl, hw'⟩; obtain rfl := hw'.symm)
    | (go_at_call 44; refine (unveil HD _).mono ?_; rintro e w' ⟨rfl, hw'⟩; obtain rfl := hw'.symm)
    | (go_at_call 42; refine (unveil HT _).mono ?_; rintro e w' ⟨rfl, hw'⟩; obtain rfl := hw'.symm))
  go_ret2
  exact ⟨rfl, rfl⟩
end Go.Proofs.YtobfpdhfmbpidaaDoor
namespace Go.Proofs.YtobfpdhfmbpidaaDoor
open Go Go.RowKit
set_option linter.unusedVariables false
set_option linter.unusedSimpArgs false
set_option maxRecDepth 100000 in
set_option maxHeartbeats 4000000 in
theorem RW_sh6_1 (k a b v u eu : Int) (OK : Bool) (w : World)
    (HSh : Hid (∀ W, Calls Tryd.prog 41 #[.int .i64 6, .int .i64 k, .int .i64 a, .int .i64 (wrap64 ((IntKind.u64.wrap b).tmod 8))] W fun e w' => e = .returned (.tuple #[.int .i64 v, .bool OK]) ∧ Below W.heap.size W w'))
    (HB : Hid (∀ W, Calls Tryd.prog 15 #[.int .i64 6] W fun e w' => e = .returned (.bool true) ∧ w' = W))
    (HLa : Hid (∀ W, Calls Tryd.prog 39 #[.int .i64 a, .int .i64 k] W fun e w' => e = .returned (.bool true) ∧ w' = W))
    (HLb : Hid (∀ W, Calls Tryd.prog 39 #[.int .i64 b, .int .i64 k] W fun e w' => e = .returned (.bool true) ∧ w' = W))
    (HQ : Hid (∀ W, Calls Tryd.prog 34 #[.int .i64 6] W fun e w' => e = .returned (.bool false) ∧ w' = W))
    (HZ : Hid (∀ W, Calls Tryd.prog 40 #[.int .i64 k] W fun e w' => e = .returned (.int .i64 1) ∧ w' = W))
    (HT : Hid (∀ W, Calls Tryd.prog 42 #[.int .i64 v, .int .i64 k] W fun e w' => e = .returned (.tuple #[.int .i64 u, .int .i64 eu]) ∧ w' = W))
    : Calls Tryd.prog 23 #[.int .i64 6, .int .i64 k, .int .i64 a, .int .i64 b] w fun e w' => e = .returned (.tuple #[.int .i64 u, .int .i64 eu]) ∧ Below w.heap.size w w' := by
  go_enter Tryd.func23, Tryd.ntmps23
  go_wp2_with (first
    | (go_at_call 15; refine (unveil HB _).mono ?_; rintro e w' ⟨rfl, hw'⟩; obtain rfl := hw'.symm)
    | (go_at_call 39; (first | with_reducible refine (unveil HLa _).mono ?_ | with_reducible refine (unveil HLb _).mono ?_); rintro e w' ⟨rfl, hw'⟩; obtain rfl := hw'.symm)
    | (go_at_call 34; refine (unveil HQ _).mono ?_; rintro e w' ⟨rfl, hw'⟩; obtain rfl := hw'.symm)
    | (go_at_call 40; refine (unveil HZ _).mono ?_; rintro e w' ⟨rfl, hw'⟩; obtain rfl := hw'.symm)
    | (go_at_call 42; refine (unveil HT _).mono ?_; rintro e w' ⟨rfl, hw'⟩; obtain rfl := hw'.symm))
  refine (unveil HSh _).mono ?_
  rintro e W1 ⟨rfl, hb⟩
  have HB1 := veil hb
  clear hb
  go_wp2_with (first
    | (go_at_call 15; refine (unveil HB _).mono ?_; rintro e w' ⟨rfl, hw'⟩; obtain rfl := hw'.symm)
    | (go_at_call 39; (first | with_reducible refine (unveil HLa _).mono ?_ | with_reducible refine (unveil HLb _).mono ?_); rintro e w' ⟨rfl, hw'⟩; obtain rfl := hw'.symm)
    | (go_at_call 34; refine (unveil HQ _).mono ?_; rintro e w' ⟨rfl, hw'⟩; obtain rfl := hw'.symm)
    | (go_at_call 40; refine (unveil HZ _).mono ?_; rintro e w' ⟨rfl, hw'⟩; obtain rfl := hw'.symm)
    | (go_at_call 42; refine (unveil HT _).mono ?_; rintro e w' ⟨rfl, hw'⟩; obtain rfl := hw'.symm))
  go_ret2
  exact ⟨rfl, unveil HB1⟩
set_option maxRecDepth 100000 in
set_option maxHeartbeats 4000000 in
theorem RW_sh6_2 (k a b v u eu : Int) (OK : Bool) (w : World)
    (HSh : Hid (∀ W, Calls Tryd.prog 41 #[.int .i64 6, .int .i64 k, .int .i64 a, .int .i64 (wrap64 ((IntKind.u64.wrap b).tmod 16))] W fun e w' => e = .returned (.tuple #[.int .i64 v, .bool OK]) ∧ Below W.heap.size W w'))
    (HB : Hid (∀ W, Calls Tryd.prog 15 #[.int .i64 6] W fun e w' => e = .returned (.bool true) ∧ w' = W))
    (HLa : Hid (∀ W, Calls Tryd.prog 39 #[.int .i64 a, .int .i64 k] W fun e w' => e = .returned (.bool true) ∧ w' = W))
    (HLb : Hid (∀ W, Calls Tryd.prog 39 #[.int .i64 b, .int .i64 k] W fun e w' => e = .returned (.bool true) ∧ w' = W))
    (HQ : Hid (∀ W, Calls Tryd.prog 34 #[.int .i64 6] W fun e w' => e = .returned (.bool false) ∧ w' = W))
    (HZ : Hid (∀ W, Calls Tryd.prog 40 #[.int .i64 k] W fun e w' => e = .returned (.int .i64 2) ∧ w' = W))
    (HT : Hid (∀ W, Calls Tryd.prog 42 #[.int .i64 v, .int .i64 k] W fun e w' => e = .returned (.tuple #[.int .i64 u, .int .i64 eu]) ∧ w' = W))
    : Calls Tryd.prog 23 #[.int .i64 6, .int .i64 k, .int .i64 a, .int .i64 b] w fun e w' => e = .returned (.tuple #[.int .i64 u, .int .i64 eu]) ∧ Below w.heap.size w w' := by
  go_enter Tryd.func23, Tryd.ntmps23
  go_wp2_with (first
    | (go_at_call 15; refine (unveil HB _).mono ?_; rintro e w' ⟨rfl, hw'⟩; obtain rfl := hw'.symm)
    | (go_at_call 39; (first | with_reducible refine (unveil HLa _).mono ?_ | with_reducible refine (unveil HLb _).mono ?_); rintro e w' ⟨rfl, hw'⟩; obtain rfl := hw'.symm)
    | (go_at_call 34; refine (unveil HQ _).mono ?_; rintro e w' ⟨rfl, hw'⟩; obtain rfl := hw'.symm)
    | (go_at_call 40; refine (unveil HZ _).mono ?_; rintro e w' ⟨rfl, hw'⟩; obtain rfl := hw'.symm)
    | (go_at_call 42; refine (unveil HT _).mono ?_; rintro e w' ⟨rfl, hw'⟩; obtain rfl := hw'.symm))
  refine (unveil HSh _).mono ?_
  rintro e W1 ⟨rfl, hb⟩
  have HB1 := veil hb
  clear hb
  go_wp2_with (first
    | (go_at_call 15; refine (unveil HB _).mono ?_; rintro e w' ⟨rfl, hw'⟩; obtain rfl := hw'.symm)
    | (go_at_call 39; (first | with_reducible refine (unveil HLa _).mono ?_ | with_reducible refine (unveil HLb _).mono ?_); rintro e w' ⟨rfl, hw'⟩; obtain rfl := hw'.symm)
    | (go_at_call 34; refine (unveil HQ _).mono ?_; rintro e w' ⟨rfl, hw'⟩; obtain rfl := hw'.symm)
    | (go_at_call 40; refine (unveil HZ _).mono ?_; rintro e w' ⟨rfl, hw'⟩; obtain rfl := hw'.symm)
    | (go_at_call 42; refine (unveil HT _).mono ?_; rintro e w' ⟨rfl, hw'⟩; obtain rfl := hw'.symm))
  go_ret2
  exact ⟨rfl, unveil HB1⟩
set_option maxRecDepth 100000 in
set_option maxHeartbeats 4000000 in
theorem RW_sh6_4 (k a b v u eu : Int) (OK : Bool) (w : World)
    (HSh : Hid (∀ W, Calls Tryd.prog 41 #[.int .i64 6, .int .i64 k, .int .i64 a, .int .i64 (wrap64 ((IntKind.u64.wrap b).tmod 32))] W fun e w' => e = .returned (.tuple #[.int .i64 v, .bool OK]) ∧ Below W.heap.size W w'))
    (HB : Hid (∀ W, Calls Tryd.prog 15 #[.int .i64 6] W fun e w' => e = .returned (.bool true) ∧ w' = W))
    (HLa : Hid (∀ W, Calls Tryd.prog 39 #[.int .i64 a, .int .i64 k] W fun e w' => e = .returned (.bool true) ∧ w' = W))
    (HLb : Hid (∀ W, Calls Tryd.prog 39 #[.int .i64 b, .int .i64 k] W fun e w' => e = .returned (.bool true) ∧ w' = W))
    (HQ : Hid (∀ W, Calls Tryd.prog 34 #[.int .i64 6] W fun e w' => e = .returned (.bool false) ∧ w' = W))
    (HZ : Hid (∀ W, Calls Tryd.prog 40 #[.int .i64 k] W fun e w' => e = .returned (.int .i64 4) ∧ w' = W))
    (HT : Hid (∀ W, Calls Tryd.prog 42 #[.int .i64 v, .int .i64 k] W fun e w' => e = .returned (.tuple #[.int .i64 u, .int .i64 eu]) ∧ w' = W))
    : Calls Tryd.prog 23 #[.int .i64 6, .int .i64 k, .int .i64 a, .int .i64 b] w fun e w' => e = .returned (.tuple #[.int .i64 u, .int .i64 eu]) ∧ Below w.heap.size w w' := by
  go_enter Tryd.func23, Tryd.ntmps23
  go_wp2_with (first
    | (go_at_call 15; refine (unveil HB _).mono ?_; rintro e w' ⟨rfl, hw'⟩; obtain rfl := hw'.symm)
    | (go_at_call 39; (first | with_reducible refine (unveil HLa _).mono ?_ | with_reducible refine (unveil HLb _).mono ?_); rintro e w' ⟨rfl, hw'⟩; obtain rfl := hw'.symm)
    | (go_at_call 34; refine (unveil HQ _).mono ?_; rintro e w' ⟨rfl, hw'⟩; obtain rfl := hw'.symm)
    | (go_at_call 40; refine (unveil HZ _).mono ?_; rintro e w' ⟨rfl, hw'⟩; obtain rfl := hw'.symm)
    | (go_at_call 42; refine (unveil HT _).mono ?_; rintro e w' ⟨rfl, hw'⟩; obtain rfl := hw'.symm))
  refine (unveil HSh _).mono ?_
  rintro e W1 ⟨rfl, hb⟩
  have HB1 := veil hb
  clear hb
  go_wp2_with (first
    | (go_at_call 15; refine (unveil HB _).mono ?_; rintro e w' ⟨rfl, hw'⟩; obtain rfl := hw'.symm)
    | (go_at_call 39; (first | with_reducible refine (unveil HLa _).mono ?_ | with_reducible refine (unveil HLb _).mono ?_); rintro e w' ⟨rfl, hw'⟩; obtain rfl := hw'.symm)
    | (go_at_call 34; refine (unveil HQ _).mono ?_; rintro e w' ⟨rfl, hw'⟩; obtain rfl := hw'.symm)
    | (go_at_call 40; refine (unveil HZ _).mono ?_; rintro e w' ⟨rfl, hw'⟩; obtain rfl := hw'.symm)
    | (go_at_call 42; refine (unveil HT _).mono ?_; rintro e w' ⟨rfl, hw'⟩; obtain rfl := hw'.symm))
  go_ret2
  exact ⟨rfl, unveil HB1⟩
set_option maxRecDepth 100000 in
set_option maxHeartbeats 4000000 in
theorem RW_sh6_8 (k a b v u eu : Int) (OK : Bool) (w : World)
    (HSh : Hid (∀ W, Calls Tryd.prog 41 #[.int .i64 6, .int .i64 k, .int .i64 a, .int .i64 (wrap64 ((IntKind.u64.wrap b).tmod 64))] W fun e w' => e = .returned (.tuple #[.int .i64 v, .bool OK]) ∧ Below W.heap.size W w'))
    (HB : Hid (∀ W, Calls Tryd.prog 15 #[.int .i64 6] W fun e w' => e = .returned (.bool true) ∧ w' = W))
    (HLa : Hid (∀ W, Calls Tryd.prog 39 #[.int .i64 a, .int .i64 k] W fun e w' => e = .returned (.bool true) ∧ w' = W))
    (HLb : Hid (∀ W, Calls Tryd.prog 39 #[.int .i64 b, .int .i64 k] W fun e w' => e = .returned (.bool true) ∧ w' = W))
    (HQ : Hid (∀ W, Calls Tryd.prog 34 #[.int .i64 6] W fun e w' => e = .returned (.bool false) ∧ w' = W))
    (HZ : Hid (∀ W, Calls Tryd.prog 40 #[.int .i64 k] W fun e w' => e = .returned (.int .i64 8) ∧ w' = W))
    (HT : Hid (∀ W, Calls Tryd.prog 42 #[.int .i64 v, .int .i64 k] W fun e w' => e = .returned (.tuple #[.int .i64 u, .int .i64 eu]) ∧ w' = W))
    : Calls Tryd.prog 23 #[.int .i64 6, .int .i64 k, .int .i64 a, .int .i64 b] w fun e w' => e = .returned (.tuple #[.int .i64 u, .int .i64 eu]) ∧ Below w.heap.size w w' := by
  go_enter Tryd.func23, Tryd.ntmps23
  go_wp2_with (first
    | (go_at_call 15; refine (unveil HB _).mono ?_; rintro e w' ⟨rfl, hw'⟩; obtain rfl := hw'.symm)
    | (go_at_call 39; (first | with_reducible refine (unveil HLa _).mono ?_ | with_reducible refine (unveil HLb _).mono ?_); rintro e w' ⟨rfl, hw'⟩; obtain rfl := hw'.symm)
    | (go_at_call 34; refine (unveil HQ _).mono ?_; rintro e w' ⟨rfl, hw'⟩; obtain rfl := hw'.symm)
    | (go_at_call 40; refine (unveil HZ _).mono ?_; rintro e w' ⟨rfl, hw'⟩; obtain rfl := hw'.symm)
    | (go_at_call 42; refine (unveil HT _).mono ?_; rintro e w' ⟨rfl, hw'⟩; obtain rfl := hw'.symm))
  refine (unveil HSh _).mono ?_
  rintro e W1 ⟨rfl, hb⟩
  have HB1 := veil hb
  clear hb
  go_wp2_with (first
    | (go_at_call 15; refine (unveil HB _).mono ?_; rintro e w' ⟨rfl, hw'⟩; obtain rfl := hw'.symm)
    | (go_at_call 39; (first | with_reducible refine (unveil HLa _).mono ?_ | with_reducible refine (unveil HLb _).mono ?_); rintro e w' ⟨rfl, hw'⟩; obtain rfl := hw'.symm)
    | (go_at_call 34; refine (unveil HQ _).mono ?_; rintro e w' ⟨rfl, hw'⟩; obtain rfl := hw'.symm)
    | (go_at_call 40; refine (unveil HZ _).mono ?_; rintro e w' ⟨rfl, hw'⟩; obtain rfl := hw'.symm)
    | (go_at_call 42; refine (unveil HT _).mono ?_; rintro e w' ⟨rfl, hw'⟩; obtain rfl := hw'.symm))
  go_ret2
  exact ⟨rfl, unveil HB1⟩
set_option maxRecDepth 100000 in
set_option maxHeartbeats 4000000 in
theorem RW_sh7_1 (k a b v u eu : Int) (OK : Bool) (w : World)
    (HSh : Hid (∀ W, Calls Tryd.prog 41 #[.int .i64 7, .int .i64 k, .int .i64 a, .int .i64 (wrap64 ((IntKind.u64.wrap b).tmod 8))] W fun e w' => e = .returned (.tuple #[.int .i64 v, .bool OK]) ∧ Below W.heap.size W w'))
    (HB : Hid (∀ W, Calls Tryd.prog 15 #[.int .i64 7] W fun e w' => e = .returned (.bool true) ∧ w' = W))
    (HLa : Hid (∀ W, Calls Tryd.prog 39 #[.int .i64 a, .int .i64 k] W fun e w' => e = .returned (.bool true) ∧ w' = W))
    (HLb : Hid (∀ W, Calls Tryd.prog 39 #[.int .i64 b, .int .i64 k] W fun e w' => e = .returned (.bool true) ∧ w' = W))
    (HQ : Hid (∀ W, Calls Tryd.prog 34 #[.int .i64 7] W fun e w' => e = .returned (.bool false) ∧ w' = W))
    (HZ : Hid (∀ W, Calls Tryd.prog 40 #[.int .i64 k] W fun e w' => e = .returned (.int .i64 1) ∧ w' = W))
    (HT : Hid (∀ W, Calls Tryd.prog 42 #[.int .i64 v, .int .i64 k] W fun e w' => e = .returned (.tuple #[.int .i64 u, .int .i64 eu]) ∧ w' = W))
    : Calls Tryd.prog 23 #[.int .i64 7, .int .i64 k, .int .i64 a, .int .i64 b] w fun e w' => e = .returned (.tuple #[.int .i64 u, .int .i64 eu]) ∧ Below w.heap.size w w' := by
  go_enter Tryd.func23, Tryd.ntmps23
  go_wp2_with (first
    | (go_at_call 15; refine (unveil HB _).mono ?_; rintro e w' ⟨rfl, hw'⟩; obtain rfl := hw'.symm)
    | (go_at_call 39; (first | with_reducible refine (unveil HLa _).mono ?_ | with_reducible refine (unveil HLb _).mono ?_); rintro e w' ⟨rfl, hw'⟩; obtain rfl := hw'.symm)
    | (go_at_call 34; refine (unveil HQ _).mono ?_; rintro e w' ⟨rfl, hw'⟩; obtain rfl := hw'.symm)
    | (go_at_call 40; refine (unveil HZ _).mono ?_; rintro e w' ⟨rfl, hw'⟩; obtain rfl := hw'.symm)
    | (go_at_call 42; refine (unveil HT _).mono ?_; rintro e w' ⟨rfl, hw'⟩; obtain rfl := hw'.symm))
  refine (unveil HSh _).mono ?_
  rintro e W1 ⟨rfl, hb⟩
  have HB1 := veil hb
  clear hb
  go_wp2_with (first
    | (go_at_call 15; refine (unveil HB _).mono ?_; rintro e w' ⟨rfl, hw'⟩; obtain rfl := hw'.symm)
    | (go_at_call 39; (first | with_reducible refine (unveil HLa _).mono ?_ | with_reducible refine (unveil HLb _).mono ?_); rintro e w' ⟨rfl, hw'⟩; obtain rfl := hw'.symm)
    | (go_at_call 34; refine (unveil HQ _).mono ?_; rintro e w' ⟨rfl, hw'⟩; obtain rfl := hw'.symm)
    | (go_at_call 40; refine (unveil HZ _).mono ?_; rintro e w' ⟨rfl, hw'⟩; obtain rfl := hw'.symm)
    | (go_at_call 42; refine (unveil HT _).mono ?_; rintro e w' ⟨rfl, hw'⟩; obtain rfl := hw'.symm))
  go_ret2
  exact ⟨rfl, unveil HB1⟩
set_option maxRecDepth 100000 in
set_option maxHeartbeats 4000000 in
theorem RW_sh7_2 (k a b v u eu : Int) (OK : Bool) (w : World)
    (HSh : Hid (∀ W, Calls Tryd.prog 41 #[.int .i64 7, .int .i64 k, .int .i64 a, .int .i64 (wrap64 ((IntKind.u64.wrap b).tmod 16))] W fun e w' => e = .returned (.tuple #[.int .i64 v, .bool OK]) ∧ Below W.heap.size W w'))
    (HB : Hid (∀ W, Calls Tryd.prog 15 #[.int .i64 7] W fun e w' => e = .returned (.bool true) ∧ w' = W))
    (HLa : Hid (∀ W, Calls Tryd.prog 39 #[.int .i64 a, .int .i64 k] W fun e w' => e = .returned (.bool true) ∧ w' = W))
    (HLb : Hid (∀ W, Calls Tryd.prog 39 #[.int .i64 b, .int .i64 k] W fun e w' => e = .returned (.bool true) ∧ w' = W))
    (HQ : Hid (∀ W, Calls Tryd.prog 34 #[.int .i64 7] W fun e w' => e = .returned (.bool false) ∧ w' = W))
    (HZ : Hid (∀ W, Calls Tryd.prog 40 #[.int .i64 k] W fun e w' => e = .returned (.int .i64 2) ∧ w' = W))
    (HT : Hid (∀ W, Calls Tryd.prog 42 #[.int .i64 v, .int .i64 k] W fun e w' => e = .returned (.tuple #[.int .i64 u, .int .i64 eu]) ∧ w' = W))
    : Calls Tryd.prog 23 #[.int .i64 7, .int .i64 k, .int .i64 a, .int .i64 b] w fun e w' => e = .returned (.tuple #[.int .i64 u, .int .i64 eu]) ∧ Below w.heap.size w w' := by
  go_enter Tryd.func23, Tryd.ntmps23
  go_wp2_with (first
    | (go_at_call 15; refine (unveil HB _).mono ?_; rintro e w' ⟨rfl, hw'⟩; obtain rfl := hw'.symm)
    | (go_at_call 39; (first | with_reducible refine (unveil HLa _).mono ?_ | with_reducible refine (unveil HLb _).mono ?_); rintro e w' ⟨rfl, hw'⟩; obtain rfl := hw'.symm)
    | (go_at_call 34; refine (unveil HQ _).mono ?_; rintro e w' ⟨rfl, hw'⟩; obtain rfl := hw'.symm)
    | (go_at_call 40; refine (unveil HZ _).mono ?_; rintro e w' ⟨rfl, hw'⟩; obtain rfl := hw'.symm)
    | (go_at_call 42; refine (unveil HT _).mono ?_; rintro e w' ⟨rfl, hw'⟩; obtain rfl := hw'.symm))
  refine (unveil HSh _).mono ?_
  rintro e W1 ⟨rfl, hb⟩
  have HB1 := veil hb
  clear hb
  go_wp2_with (first
    | (go_at_call 15; refine (unveil HB _).mono ?_; rintro e w' ⟨rfl, hw'⟩; obtain rfl := hw'.symm)
    | (go_at_call 39; (first | with_reducible refine (unveil HLa _).mono ?_ | with_reducible refine (unveil HLb _).mono ?_); rintro e w' ⟨rfl, hw'⟩; obtain rfl := hw'.symm)
    | (go_at_call 34; refine (unveil HQ _).mono ?_; rintro e w' ⟨rfl, hw'⟩; obtain rfl := hw'.symm)
    | (go_at_call 40; refine (unveil HZ _).mono ?_; rintro e w' ⟨rfl, hw'⟩; obtain rfl := hw'.symm)
    | (go_at_call 42; refine (unveil HT _).mono ?_; rintro e w' ⟨rfl, hw'⟩; obtain rfl := hw'.symm))
  go_ret2
  exact ⟨rfl, unveil HB1⟩
set_option maxRecDepth 100000 in
set_option maxHeartbeats 4000000 in
theorem RW_sh7_4 (k a b v u eu : Int) (OK : Bool) (w : World)
    (HSh : Hid (∀ W, Calls Tryd.prog 41 #[.int .i64 7, .int .i64 k, .int .i64 a, .int .i64 (wrap64 ((IntKind.u64.wrap b).tmod 32))] W fun e w' => e = .returned (.tuple #[.int .i64 v, .bool OK]) ∧ Below W.heap.size W w'))
    (HB : Hid (∀ W, Calls Tryd.prog 15 #[.int .i64 7] W fun e w' => e = .returned (.bool true) ∧ w' = W))
    (HLa : Hid (∀ W, Calls Tryd.prog 39 #[.int .i64 a, .int .i64 k] W fun e w' => e = .returned (.bool true) ∧ w' = W))
    (HLb : Hid (∀ W, Calls Tryd.prog 39 #[.int .i64 b, .int .i64 k] W fun e w' => e = .returned (.bool true) ∧ w' = W))
    (HQ : Hid (∀ W, Calls Tryd.prog 34 #[.int .i64 7] W fun e w' => e = .returned (.bool false) ∧ w' = W))
    (HZ : Hid (∀ W, Calls Tryd.prog 40 #[.int .i64 k] W fun e w' => e = .returned (.int .i64 4) ∧ w' = W))
    (HT : Hid (∀ W, Calls Tryd.prog 42 #[.int .i64 v, .int .i64 k] W fun e w' => e = .returned (.tuple #[.int .i64 u, .int .i64 eu]) ∧ w' = W))
    : Calls Tryd.prog 23 #[.int .i64 7, .int .i64 k, .int .i64 a, .int .i64 b] w fun e w' => e = .returned (.tuple #[.int .i64 u, .int .i64 eu]) ∧ Below w.heap.size w w' := by
  go_enter Tryd.func23, Tryd.ntmps23
  go_wp2_with (first
    | (go_at_call 15; refine (unveil HB _).mono ?_; rintro e w' ⟨rfl, hw'⟩; obtain rfl := hw'.symm)
    | (go_at_call 39; (first | with_reducible refine (unveil HLa _).mono ?_ | with_reducible refine (unveil HLb _).mono ?_); rintro e w' ⟨rfl, hw'⟩; obtain rfl := hw'.symm)
    | (go_at_call 34; refine (unveil HQ _).mono ?_; rintro e w' ⟨rfl, hw'⟩; obtain rfl := hw'.symm)
    | (go_at_call 40; refine (unveil HZ _).mono ?_; rintro e w' ⟨rfl, hw'⟩; obtain rfl := hw'.symm)
    | (go_at_call 42; refine (unveil HT _).mono ?_; rintro e w' ⟨rfl, hw'⟩; obtain rfl := hw'.symm))
  refine (unveil HSh _).mono ?_
  rintro e W1 ⟨rfl, hb⟩
  have HB1 := veil hb
  clear hb
  go_wp2_with (first
    | (go_at_call 15; refine (unveil HB _).mono ?_; rintro e w' ⟨rfl, hw'⟩; obtain rfl := hw'.symm)
    | (go_at_call 39; (first | with_reducible refine (unveil HLa _).mono ?_ | with_reducible refine (unveil HLb _).mono ?_); rintro e w' ⟨rfl, hw'⟩; obtain rfl := hw'.symm)
    | (go_at_call 34; refine (unveil HQ _).mono ?_; rintro e w' ⟨rfl, hw'⟩; obtain rfl := hw'.symm)
    | (go_at_call 40; refine (unveil HZ _).mono ?_; rintro e w' ⟨rfl, hw'⟩; obtain rfl := hw'.symm)
    | (go_at_call 42; refine (unveil HT _).mono ?_; rintro e w' ⟨rfl, hw'⟩; obtain rfl := hw'.symm))
  go_ret2
  exact ⟨rfl, unveil HB1⟩
set_option maxRecDepth 100000 in
set_option maxHeartbeats 4000000 in
theorem RW_sh7_8 (k a b v u eu : Int) (OK : Bool) (w : World)
    (HSh : Hid (∀ W, Calls Tryd.prog 41 #[.int .i64 7, .int .i64 k, .int .i64 a, .int .i64 (wrap64 ((IntKind.u64.wrap b).tmod 64))] W fun e w' => e = .returned (.tuple #[.int .i64 v, .bool OK]) ∧ Below W.heap.size W w'))
    (HB : Hid (∀ W, Calls Tryd.prog 15 #[.int .i64 7] W fun e w' => e = .returned (.bool true) ∧ w' = W))
    (HLa : Hid (∀ W, Calls Tryd.prog 39 #[.int .i64 a, .int .i64 k] W fun e w' => e = .returned (.bool true) ∧ w' = W))
    (HLb : Hid (∀ W, Calls Tryd.prog 39 #[.int .i64 b, .int .i64 k] W fun e w' => e = .returned (.bool true) ∧ w' = W))
    (HQ : Hid (∀ W, Calls Tryd.prog 34 #[.int .i64 7] W fun e w' => e = .returned (.bool false) ∧ w' = W))
    (HZ : Hid (∀ W, Calls Tryd.prog 40 #[.int .i64 k] W fun e w' => e = .returned (.int .i64 8) ∧ w' = W))
    (HT : Hid (∀ W, Calls Tryd.prog 42 #[.int .i64 v, .int .i64 k] W fun e w' => e = .returned (.tuple #[.int .i64 u, .int .i64 eu]) ∧ w' = W))
    : Calls Tryd.prog 23 #[.int .i64 7, .int .i64 k, .int .i64 a, .int .i64 b] w fun e w' => e = .returned (.tuple #[.int .i64 u, .int .i64 eu]) ∧ Below w.heap.size w w' := by
  go_enter Tryd.func23, Tryd.ntmps23
  go_wp2_with (first
    | (go_at_call 15; refine (unveil HB _).mono ?_; rintro e w' ⟨rfl, hw'⟩; obtain rfl := hw'.symm)
    | (go_at_call 39; (first | with_reducible refine (unveil HLa _).mono ?_ | with_reducible refine (unveil HLb _).mono ?_); rintro e w' ⟨rfl, hw'⟩; obtain rfl := hw'.symm)
    | (go_at_call 34; refine (unveil HQ _).mono ?_; rintro e w' ⟨rfl, hw'⟩; obtain rfl := hw'.symm)
    | (go_at_call 40; refine (unveil HZ _).mono ?_; rintro e w' ⟨rfl, hw'⟩; obtain rfl := hw'.symm)
    | (go_at_call 42; refine (unveil HT _).mono ?_; rintro e w' ⟨rfl, hw'⟩; obtain rfl := hw'.symm))
  refine (unveil HSh _).mono ?_
  rintro e W1 ⟨rfl, hb⟩
  have HB1 := veil hb
  clear hb
  go_wp2_with (first
    | (go_at_call 15; refine (unveil HB _).mono ?_; rintro e w' ⟨rfl, hw'⟩; obtain rfl := hw'.symm)
    | (go_at_call 39; (first | with_reducible refine (unveil HLa _).mono ?_ | with_reducible refine (unveil HLb _).mono ?_); rintro e w' ⟨rfl, hw'⟩; obtain rfl := hw'.symm)
    | (go_at_call 34; refine (unveil HQ _).mono ?_; rintro e w' ⟨rfl, hw'⟩; obtain rfl := hw'.symm)
    | (go_at_call 40; refine (unveil HZ _).mono ?_; rintro e w' ⟨rfl, hw'⟩; obtain rfl := hw'.symm)
    | (go_at_call 42; refine (unveil HT _).mono ?_; rintro e w' ⟨rfl, hw'⟩; obtain rfl := hw'.symm))
  go_ret2
  exact ⟨rfl, unveil HB1⟩
end Go.Proofs.YtobfpdhfmbpidaaDoor
