/-
  Package arith: Wrap over whatever the calls tell.
-/
import Derived.Test.YtobfpdhfmbpidaaDoorEr
namespace Go.Proofs.YtobfpdhfmbpidaaDoor
open Go Go.RowKit
set_option linter.unusedVariables false
set_option linter.unusedSimpArgs false
set_option maxRecDepth 100000 in
set_option maxHeartbeats 4000000 in
theorem WrapZ4 (k a b o : Int) (S : ByteArray) (w : World) (ho : (o == 0) = false)
    (HB : Hid (Calls Tryd.prog 29 #[.int .i64 4] w fun e w' => e = .returned (.agg #[.string S, .int .i64 o]) ∧ Below w.heap.size w w'))
    (HLa : Hid (∀ W, Calls Tryd.prog 28 #[.int .i64 a, .int .i64 k] W fun e w' => e = .returned (.bool true) ∧ w' = W))
    (HLb : Hid (∀ W, Calls Tryd.prog 28 #[.int .i64 b, .int .i64 k] W fun e w' => e = .returned (.bool true) ∧ w' = W))
    (HW : Hid (∀ W, Calls Tryd.prog 35 #[.int .i64 b, .int .i64 k] W fun e w' => e = .returned (.agg #[.int .u64 0, .int .u64 0]) ∧ Below W.heap.size W w'))
    (HS : Hid (∀ W, Calls Tryd.prog 36 #[.int .i64 4] W fun e w' => e = .returned (.bool false) ∧ w' = W))
    : Calls Tryd.prog 22 #[.int .i64 4, .int .i64 k, .int .i64 a, .int .i64 b] w fun e w' => e = .returned (.tuple #[.int .i64 0, .int .i64 0]) ∧ Below w.heap.size w w' := by
  have hf := fldO1 (.string S) (.int .i64 o)
  go_enter Tryd.func22, Tryd.ntmps22
  go_wp2_with fail
  refine (unveil HB).mono ?_
  rintro e W1 ⟨rfl, hb⟩
  have HB1 := veil hb
  clear hb HB
  go_wp2_with (go_at_call 28; (first | with_reducible refine (unveil HLa _).mono ?_ | with_reducible refine (unveil HLb _).mono ?_); rintro e w' ⟨rfl, hw'⟩; obtain rfl := hw'.symm)
  refine (unveil HW _).mono ?_
  rintro e W3 ⟨rfl, hb⟩
  have HB3 := veil ((unveil HB1).trans (hb.mono (unveil HB1).size))
  have HX : Hid (BxW w (W3.alloc (.cells #[.int .u64 0, .int .u64 0] 48)) W3.heap.size 0 0) := ⟨heap_newW W3 _, (unveil HB3).size, (unveil HB3).alloc (unveil HB3).size _⟩
  clear hb HB1 HW HLa HLb
  go_wp2_with (go_at_call 36; refine (unveil HS _).mono ?_; rintro e w' ⟨rfl, hw'⟩; obtain rfl := hw'.symm)
  go_ret2
  exact ⟨rfl, (unveil HX).2.2⟩
set_option maxRecDepth 100000 in
set_option maxHeartbeats 4000000 in
theorem WrapZ5 (k a b o : Int) (S : ByteArray) (w : World) (ho : (o == 0) = false)
    (HB : Hid (Calls Tryd.prog 29 #[.int .i64 5] w fun e w' => e = .returned (.agg #[.string S, .int .i64 o]) ∧ Below w.heap.size w w'))
    (HLa : Hid (∀ W, Calls Tryd.prog 28 #[.int .i64 a, .int .i64 k] W fun e w' => e = .returned (.bool true) ∧ w' = W))
    (HLb : Hid (∀ W, Calls Tryd.prog 28 #[.int .i64 b, .int .i64 k] W fun e w' => e = .returned (.bool true) ∧ w' = W))
    (HW : Hid (∀ W, Calls Tryd.prog 35 #[.int .i64 b, .int .i64 k] W fun e w' => e = .returned (.agg #[.int .u64 0, .int .u64 0]) ∧ Below W.heap.size W w'))
    (HS : Hid (∀ W, Calls Tryd.prog 36 #[.int .i64 5] W fun e w' => e = .returned (.bool false) ∧ w' = W))
    : Calls Tryd.prog 22 #[.int .i64 5, .int .i64 k, .int .i64 a, .int .i64 b] w fun e w' => e = .returned (.tuple #[.int .i64 a, .int .i64 0]) ∧ Below w.heap.size w w' := by
  have hf := fldO1 (.string S) (.int .i64 o)
  go_enter Tryd.func22, Tryd.ntmps22
  go_wp2_with fail
  refine (unveil HB).mono ?_
  rintro e W1 ⟨rfl, hb⟩
  have HB1 := veil hb
  clear hb HB
  go_wp2_with (go_at_call 28; (first | with_reducible refine (unveil HLa _).mono ?_ | with_reducible refine (unveil HLb _).mono ?_); rintro e w' ⟨rfl, hw'⟩; obtain rfl := hw'.symm)
  refine (unveil HW _).mono ?_
  rintro e W3 ⟨rfl, hb⟩
  have HB3 := veil ((unveil HB1).trans (hb.mono (unveil HB1).size))
  have HX : Hid (BxW w (W3.alloc (.cells #[.int .u64 0, .int .u64 0] 48)) W3.heap.size 0 0) := ⟨heap_newW W3 _, (unveil HB3).size, (unveil HB3).alloc (unveil HB3).size _⟩
  clear hb HB1 HW HLa HLb
  go_wp2_with (go_at_call 36; refine (unveil HS _).mono ?_; rintro e w' ⟨rfl, hw'⟩; obtain rfl := hw'.symm)
  go_ret2
  exact ⟨rfl, (unveil HX).2.2⟩
set_option maxRecDepth 100000 in
set_option maxHeartbeats 4000000 in
theorem WrapN (op k a b o wh wl nh nl rh rl v er : Int) (S : ByteArray) (w : World) (ho : (o == 0) = false)
    (HB : Hid (Calls Tryd.prog 29 #[.int .i64 op] w fun e w' => e = .returned (.agg #[.string S, .int .i64 o]) ∧ Below w.heap.size w w'))
    (HLa : Hid (∀ W, Calls Tryd.prog 28 #[.int .i64 a, .int .i64 k] W fun e w' => e = .returned (.bool true) ∧ w' = W))
    (HLb : Hid (∀ W, Calls Tryd.prog 28 #[.int .i64 b, .int .i64 k] W fun e w' => e = .returned (.bool true) ∧ w' = W))
    (HW : Hid (∀ W, Calls Tryd.prog 35 #[.int .i64 b, .int .i64 k] W fun e w' => e = .returned (.agg #[.int .u64 wh, .int .u64 wl]) ∧ Below W.heap.size W w'))
    (HS : Hid (∀ W, Calls Tryd.prog 36 #[.int .i64 op] W fun e w' => e = .returned (.bool false) ∧ w' = W))
    (HN : Hid (∀ W, Calls Tryd.prog 35 #[.int .i64 a, .int .i64 k] W fun e w' => e = .returned (.agg #[.int .u64 nh, .int .u64 nl]) ∧ Below W.heap.size W w'))
    (HC : Hid (∀ W, Calls Tryd.prog 49 #[.int .i64 op, .agg #[.int .u64 nh, .int .u64 nl], .agg #[.int .u64 wh, .int .u64 wl]] W fun e w' => e = .returned (.agg #[.int .u64 rh, .int .u64 rl]) ∧ Below W.heap.size W w'))
    (HT : Hid (∀ W, Calls Tryd.prog 27 #[.int .i64 (IntKind.i64.wrap rl), .int .i64 k] W fun e w' => e = .returned (.tuple #[.int .i64 v, .int .i64 er]) ∧ w' = W))
    (h4 : (op == 4) = false) (h5 : (op == 5) = false)
    : Calls Tryd.prog 22 #[.int .i64 op, .int .i64 k, .int .i64 a, .int .i64 b] w fun e w' => e = .returned (.tuple #[.int .i64 v, .int .i64 er]) ∧ Below w.heap.size w w' := by
  have hf := fldO1 (.string S) (.int .i64 o)
  go_enter Tryd.func22, Tryd.ntmps22
  go_wp2_with fail
  refine (unveil HB).mono ?_
  rintro e W1 ⟨rfl, hb⟩
  have HB1 := veil hb
  clear hb HB
  go_wp2_with (go_at_call 28; (first | with_reducible refine (unveil HLa _).mono ?_ | with_reducible refine (unveil HLb _).mono ?_); rintro e w' ⟨rfl, hw'⟩; obtain rfl := hw'.symm)
  refine (unveil HW _).mono ?_
  rintro e W3 ⟨rfl, hb⟩
  have HB3 := veil ((unveil HB1).trans (hb.mono (unveil HB1).size))
  have HX : Hid (BxW w (W3.alloc (.cells #[.int .u64 wh, .int .u64 wl] 48)) W3.heap.size wh wl) := ⟨heap_newW W3 _, (unveil HB3).size, (unveil HB3).alloc (unveil HB3).size _⟩
  clear hb HB1 HW HLa HLb
  go_upto_region 12 with (go_at_call 36; refine (unveil HS _).mono ?_; rintro e w' ⟨rfl, hw'⟩; obtain rfl := hw'.symm)
  generalize W3.alloc (.cells #[.int .u64 wh, .int .u64 wl] 48) = W4 at HX ⊢
  generalize W3.heap.size = M at HX ⊢
  refine wp_region_noPanic (wpIn_wide.1 (wpIn_region_mix (ro := none) (n := 0) (fun w' => Hid (BxW w w' M wh wl))
    [(0, true), (1, true), (2, true), (4, true), (8, true), (3, false), (5, false), (6, true), (7, true), (9, false), (10, true), (11, true), (12, true)]
    13 hmixW (by kernel_rfl) (by kernel_rfl) (by kernel_rfl) (by kernel_rfl) (by kernel_rfl) (by kernel_rfl) (fun _ _ _ _ h => h) (unveil HX).drew ?_))
  iterate 5 (refine mix_pure _ rfl _ (.inl ⟨rfl, fun W hS => (by obtain ⟨f0, f1⟩ := (unveil hS).1.two; go_simp; rfl)⟩) (fun B hB => ?_); simp only [Act.put, List.setIfInBounds_toArray, List.set_cons_zero, List.set_cons_succ] at hB; subst hB)
  refine mix_sole _ rfl (fun K hK => ?_)
  go_simp
  refine ⟨trivial, rfl, (callsIn_wide.2 (unveil HN _)).mono ?_⟩
  rintro e W7 ⟨rfl, hb⟩
  have HX7 := veil ((unveil HX).drew.call hb)
  refine hK _ _ HX7 ?_
  clear hK K hb HX
  refine mix_sole _ rfl (fun K hK => ?_)
  go_simp
  refine ⟨trivial, rfl, (callsIn_wide.2 (unveil HC _)).mono ?_⟩
  rintro e W8 ⟨rfl, hb⟩
  have HX8 := veil ((unveil HX7).call hb)
  refine hK _ _ HX8 ?_
  clear hK K hb HX7
  refine mix_pure _ rfl (.int .u64 rl) (.inl ⟨rfl, fun W hS => (by have hf2 := fldW1 (.int .u64 rh) (.int .u64 rl) W; go_simp)⟩) (fun B hB => ?_)
  simp only [Act.put, List.setIfInBounds_toArray, List.set_cons_zero, List.set_cons_succ] at hB
  subst hB
  iterate 1 (refine mix_pure _ rfl _ (.inl ⟨rfl, fun W hS => (by obtain ⟨f0, f1⟩ := (unveil hS).1.two; go_simp; rfl)⟩) (fun B hB => ?_); simp only [Act.put, List.setIfInBounds_toArray, List.set_cons_zero, List.set_cons_succ] at hB; subst hB)
  refine mix_sole _ rfl (fun K hK => ?_)
  go_simp
  refine ⟨trivial, rfl, (callsIn_wide.2 (unveil HT _)).mono ?_⟩
  rintro e W9 ⟨rfl, hb⟩
  obtain rfl := hb.symm
  refine hK _ _ HX8 ?_
  clear hK K hb
  iterate 3 (refine mix_pure _ rfl _ (.inl ⟨rfl, fun W hS => (by obtain ⟨f0, f1⟩ := (unveil hS).1.two; go_simp; rfl)⟩) (fun B hB => ?_); simp only [Act.put, List.setIfInBounds_toArray, List.set_cons_zero, List.set_cons_succ] at hB; subst hB)
  refine mix_nil ?_
  refine listIn_last rfl (fun K hK => ?_)
  go_simp
  refine hK _ _ ?_
  clear hK K
  go_wp2
  go_ret2
  exact ⟨rfl, (unveil HX8).2.2⟩
set_option maxRecDepth 100000 in
set_option maxHeartbeats 4000000 in
theorem WrapD4 (k a b o wh wl nh nl rh rl v er : Int) (S : ByteArray) (w : World) (ho : (o == 0) = false)
    (HB : Hid (Calls Tryd.prog 29 #[.int .i64 4] w fun e w' => e = .returned (.agg #[.string S, .int .i64 o]) ∧ Below w.heap.size w w'))
    (HLa : Hid (∀ W, Calls Tryd.prog 28 #[.int .i64 a, .int .i64 k] W fun e w' => e = .returned (.bool true) ∧ w' = W))
    (HLb : Hid (∀ W, Calls Tryd.prog 28 #[.int .i64 b, .int .i64 k] W fun e w' => e = .returned (.bool true) ∧ w' = W))
    (HW : Hid (∀ W, Calls Tryd.prog 35 #[.int .i64 b, .int .i64 k] W fun e w' => e = .returned (.agg #[.int .u64 wh, .int .u64 wl]) ∧ Below W.heap.size W w'))
    (HS : Hid (∀ W, Calls Tryd.prog 36 #[.int .i64 4] W fun e w' => e = .returned (.bool false) ∧ w' = W))
    (HN : Hid (∀ W, Calls Tryd.prog 35 #[.int .i64 a, .int .i64 k] W fun e w' => e = .returned (.agg #[.int .u64 nh, .int .u64 nl]) ∧ Below W.heap.size W w'))
    (HC : Hid (∀ W, Calls Tryd.prog 49 #[.int .i64 4, .agg #[.int .u64 nh, .int .u64 nl], .agg #[.int .u64 wh, .int .u64 wl]] W fun e w' => e = .returned (.agg #[.int .u64 rh, .int .u64 rl]) ∧ Below W.heap.size W w'))
    (HT : Hid (∀ W, Calls Tryd.prog 27 #[.int .i64 (IntKind.i64.wrap rl), .int .i64 k] W fun e w' => e = .returned (.tuple #[.int .i64 v, .int .i64 er]) ∧ w' = W))
    (hz : (decide (wh = 0) && decide (wl = 0)) = false)
    : Calls Tryd.prog 22 #[.int .i64 4, .int .i64 k, .int .i64 a, .int .i64 b] w fun e w' => e = .returned (.tuple #[.int .i64 v, .int .i64 er]) ∧ Below w.heap.size w w' := by
  have hf := fldO1 (.string S) (.int .i64 o)
  go_enter Tryd.func22, Tryd.ntmps22
  go_wp2_with fail
  refine (unveil HB).mono ?_
  rintro e W1 ⟨rfl, hb⟩
  have HB1 := veil hb
  clear hb HB
  go_wp2_with (go_at_call 28; (first | with_reducible refine (unveil HLa _).mono ?_ | with_reducible refine (unveil HLb _).mono ?_); rintro e w' ⟨rfl, hw'⟩; obtain rfl := hw'.symm)
  refine (unveil HW _).mono ?_
  rintro e W3 ⟨rfl, hb⟩
  have HB3 := veil ((unveil HB1).trans (hb.mono (unveil HB1).size))
  have HX : Hid (BxW w (W3.alloc (.cells #[.int .u64 wh, .int .u64 wl] 48)) W3.heap.size wh wl) := ⟨heap_newW W3 _, (unveil HB3).size, (unveil HB3).alloc (unveil HB3).size _⟩
  clear hb HB1 HW HLa HLb
  have hq := wide_eq wh wl 0 0
  simp only [hz] at hq
  clear hz
  go_upto_region 8 with (go_at_call 36; refine (unveil HS _).mono ?_; rintro e w' ⟨rfl, hw'⟩; obtain rfl := hw'.symm)
  generalize W3.alloc (.cells #[.int .u64 wh, .int .u64 wl] 48) = W4 at HX ⊢
  generalize W3.heap.size = M at HX ⊢
  obtain ⟨c0, c1⟩ := (unveil HX).1.two
  go_upto_region 12 with fail
  clear c0 c1
  refine wp_region_noPanic (wpIn_wide.1 (wpIn_region_mix (ro := none) (n := 0) (fun w' => Hid (BxW w w' M wh wl))
    [(0, true), (1, true), (2, true), (4, true), (8, true), (3, false), (5, false), (6, true), (7, true), (9, false), (10, true), (11, true), (12, true)]
    13 hmixW (by kernel_rfl) (by kernel_rfl) (by kernel_rfl) (by kernel_rfl) (by kernel_rfl) (by kernel_rfl) (fun _ _ _ _ h => h) (unveil HX).drew ?_))
  iterate 5 (refine mix_pure _ rfl _ (.inl ⟨rfl, fun W hS => (by obtain ⟨f0, f1⟩ := (unveil hS).1.two; go_simp; rfl)⟩) (fun B hB => ?_); simp only [Act.put, List.setIfInBounds_toArray, List.set_cons_zero, List.set_cons_succ] at hB; subst hB)
  refine mix_sole _ rfl (fun K hK => ?_)
  go_simp
  refine ⟨trivial, rfl, (callsIn_wide.2 (unveil HN _)).mono ?_⟩
  rintro e W7 ⟨rfl, hb⟩
  have HX7 := veil ((unveil HX).drew.call hb)
  refine hK _ _ HX7 ?_
  clear hK K hb HX
  refine mix_sole _ rfl (fun K hK => ?_)
  go_simp
  refine ⟨trivial, rfl, (callsIn_wide.2 (unveil HC _)).mono ?_⟩
  rintro e W8 ⟨rfl, hb⟩
  have HX8 := veil ((unveil HX7).call hb)
  refine hK _ _ HX8 ?_
  clear hK K hb HX7
  refine mix_pure _ rfl (.int .u64 rl) (.inl ⟨rfl, fun W hS => (by have hf2 := fldW1 (.int .u64 rh) (.int .u64 rl) W; go_simp)⟩) (fun B hB => ?_)
  simp only [Act.put, List.setIfInBounds_toArray, List.set_cons_zero, List.set_cons_succ] at hB
  subst hB
  iterate 1 (refine mix_pure _ rfl _ (.inl ⟨rfl, fun W hS => (by obtain ⟨f0, f1⟩ := (unveil hS).1.two; go_simp; rfl)⟩) (fun B hB => ?_); simp only [Act.put, List.setIfInBounds_toArray, List.set_cons_zero, List.set_cons_succ] at hB; subst hB)
  refine mix_sole _ rfl (fun K hK => ?_)
  go_simp
  refine ⟨trivial, rfl, (callsIn_wide.2 (unveil HT _)).mono ?_⟩
  rintro e W9 ⟨rfl, hb⟩
  obtain rfl := hb.symm
  refine hK _ _ HX8 ?_
  clear hK K hb
  iterate 3 (refine mix_pure _ rfl _ (.inl ⟨rfl, fun W hS => (by obtain ⟨f0, f1⟩ := (unveil hS).1.two; go_simp; rfl)⟩) (fun B hB => ?_); simp only [Act.put, List.setIfInBounds_toArray, List.set_cons_zero, List.set_cons_succ] at hB; subst hB)
  refine mix_nil ?_
  refine listIn_last rfl (fun K hK => ?_)
  go_simp
  refine hK _ _ ?_
  clear hK K
  go_wp2
  go_ret2
  exact ⟨rfl, (unveil HX8).2.2⟩
set_option maxRecDepth 100000 in
set_option maxHeartbeats 4000000 in
theorem WrapD5 (k a b o wh wl nh nl rh rl v er : Int) (S : ByteArray) (w : World) (ho : (o == 0) = false)
    (HB : Hid (Calls Tryd.prog 29 #[.int .i64 5] w fun e w' => e = .returned (.agg #[.string S, .int .i64 o]) ∧ Below w.heap.size w w'))
    (HLa : Hid (∀ W, Calls Tryd.prog 28 #[.int .i64 a, .int .i64 k] W fun e w' => e = .returned (.bool true) ∧ w' = W))
    (HLb : Hid (∀ W, Calls Tryd.prog 28 #[.int .i64 b, .int .i64 k] W fun e w' => e = .returned (.bool true) ∧ w' = W))
    (HW : Hid (∀ W, Calls Tryd.prog 35 #[.int .i64 b, .int .i64 k] W fun e w' => e = .returned (.agg #[.int .u64 wh, .int .u64 wl]) ∧ Below W.heap.size W w'))
    (HS : Hid (∀ W, Calls Tryd.prog 36 #[.int .i64 5] W fun e w' => e = .returned (.bool false) ∧ w' = W))
    (HN : Hid (∀ W, Calls Tryd.prog 35 #[.int .i64 a, .int .i64 k] W fun e w' => e = .returned (.agg #[.int .u64 nh, .int .u64 nl]) ∧ Below W.heap.size W w'))
    (HC : Hid (∀ W, Calls Tryd.prog 49 #[.int .i64 5, .agg #[.int .u64 nh, .int .u64 nl], .agg #[.int .u64 wh, .int .u64 wl]] W fun e w' => e = .returned (.agg #[.int .u64 rh, .int .u64 rl]) ∧ Below W.heap.size W w'))
    (HT : Hid (∀ W, Calls Tryd.prog 27 #[.int .i64 (IntKind.i64.wrap rl), .int .i64 k] W fun e w' => e = .returned (.tuple #[.int .i64 v, .int .i64 er]) ∧ w' = W))
    (hz : (decide (wh = 0) && decide (wl = 0)) = false)
    : Calls Tryd.prog 22 #[.int .i64 5, .int .i64 k, .int .i64 a, .int .i64 b] w fun e w' => e = .returned (.tuple #[.int .i64 v, .int .i64 er]) ∧ Below w.heap.size w w' := by
  have hf := fldO1 (.string S) (.int .i64 o)
  go_enter Tryd.func22, Tryd.ntmps22
  go_wp2_with fail
  refine (unveil HB).mono ?_
  rintro e W1 ⟨rfl, hb⟩
  have HB1 := veil hb
  clear hb HB
  go_wp2_with (go_at_call 28; (first | with_reducible refine (unveil HLa _).mono ?_ | with_reducible refine (unveil HLb _).mono ?_); rintro e w' ⟨rfl, hw'⟩; obtain rfl := hw'.symm)
  refine (unveil HW _).mono ?_
  rintro e W3 ⟨rfl, hb⟩
  have HB3 := veil ((unveil HB1).trans (hb.mono (unveil HB1).size))
  have HX : Hid (BxW w (W3.alloc (.cells #[.int .u64 wh, .int .u64 wl] 48)) W3.heap.size wh wl) := ⟨heap_newW W3 _, (unveil HB3).size, (unveil HB3).alloc (unveil HB3).size _⟩
  clear hb HB1 HW HLa HLb
  have hq := wide_eq wh wl 0 0
  simp only [hz] at hq
  clear hz
  go_upto_region 10 with (go_at_call 36; refine (unveil HS _).mono ?_; rintro e w' ⟨rfl, hw'⟩; obtain rfl := hw'.symm)
  generalize W3.alloc (.cells #[.int .u64 wh, .int .u64 wl] 48) = W4 at HX ⊢
  generalize W3.heap.size = M at HX ⊢
  obtain ⟨c0, c1⟩ := (unveil HX).1.two
  go_upto_region 12 with fail
  clear c0 c1
  refine wp_region_noPanic (wpIn_wide.1 (wpIn_region_mix (ro := none) (n := 0) (fun w' => Hid (BxW w w' M wh wl))
    [(0, true), (1, true), (2, true), (4, true), (8, true), (3, false), (5, false), (6, true), (7, true), (9, false), (10, true), (11, true), (12, true)]
    13 hmixW (by kernel_rfl) (by kernel_rfl) (by kernel_rfl) (by kernel_rfl) (by kernel_rfl) (by kernel_rfl) (fun _ _ _ _ h => h) (unveil HX).drew ?_))
  iterate 5 (refine mix_pure _ rfl _ (.inl ⟨rfl, fun W hS => (by obtain ⟨f0, f1⟩ := (unveil hS).1.two; go_simp; rfl)⟩) (fun B hB => ?_); simp only [Act.put, List.setIfInBounds_toArray, List.set_cons_zero, List.set_cons_succ] at hB; subst hB)
  refine mix_sole _ rfl (fun K hK => ?_)
  go_simp
  refine ⟨trivial, rfl, (callsIn_wide.2 (unveil HN _)).mono ?_⟩
  rintro e W7 ⟨rfl, hb⟩
  have HX7 := veil ((unveil HX).drew.call hb)
  refine hK _ _ HX7 ?_
  clear hK K hb HX
  refine mix_sole _ rfl (fun K hK => ?_)
  go_simp
  refine ⟨trivial, rfl, (callsIn_wide.2 (unveil HC _)).mono ?_⟩
  rintro e W8 ⟨rfl, hb⟩
  have HX8 := veil ((unveil HX7).call hb)
  refine hK _ _ HX8 ?_
  clear hK K hb HX7
  refine mix_pure _ rfl (.int .u64 rl) (.inl ⟨rfl, fun W hS => (by have hf2 := fldW1 (.int .u64 rh) (.int .u64 rl) W; go_simp)⟩) (fun B hB => ?_)
  simp only [Act.put, List.setIfInBounds_toArray, List.set_cons_zero, List.set_cons_succ] at hB
  subst hB
  iterate 1 (refine mix_pure _ rfl _ (.inl ⟨rfl, fun W hS => (by obtain ⟨f0, f1⟩ := (unveil hS).1.two; go_simp; rfl)⟩) (fun B hB => ?_); simp only [Act.put, List.setIfInBounds_toArray, List.set_cons_zero, List.set_cons_succ] at hB; subst hB)
  refine mix_sole _ rfl (fun K hK => ?_)
  go_simp
  refine ⟨trivial, rfl, (callsIn_wide.2 (unveil HT _)).mono ?_⟩
  rintro e W9 ⟨rfl, hb⟩
  obtain rfl := hb.symm
  refine hK _ _ HX8 ?_
  clear hK K hb
  iterate 3 (refine mix_pure _ rfl _ (.inl ⟨rfl, fun W hS => (by obtain ⟨f0, f1⟩ := (unveil hS).1.two; go_simp; rfl)⟩) (fun B hB => ?_); simp only [Act.put, List.setIfInBounds_toArray, List.set_cons_zero, List.set_cons_succ] at hB; subst hB)
  refine mix_nil ?_
  refine listIn_last rfl (fun K hK => ?_)
  go_simp
  refine hK _ _ ?_
  clear hK K
  go_wp2
  go_ret2
  exact ⟨rfl, (unveil HX8).2.2⟩
end Go.Proofs.YtobfpdhfmbpidaaDoor
