/-
  Package arith: Wrap over whatever the calls tell.
-/
import Derived.Test.YtobfpdhfmbpidaaDoorEr
namespace Go.Proofs.YtobfpdhfmbpidaaDoor
open Go Go.RowKit
set_option linter.unusedVariables false
set_option linter.unusedSimpArgs false
set_option maxRecDepth 100000 in
set_option maxHeartbeats 4000000 in
theorem WrapS (op k a b o wh wl nh nl rh rl v er B : Int) (S : ByteArray) (w : World) (ho : (o == 0) = false)
    (HB : Hid (Calls Tryd.prog 29 #[.int .i64 op] w fun e w' => e = .returned (.agg #[.string S, .int .i64 o]) ∧ Below w.heap.size w w'))
    (HLa : Hid (∀ W, Calls Tryd.prog 28 #[.int .i64 a, .int .i64 k] W fun e w' => e = .returned (.bool true) ∧ w' = W))
    (HLb : Hid (∀ W, Calls Tryd.prog 28 #[.int .i64 b, .int .i64 k] W fun e w' => e = .returned (.bool true) ∧ w' = W))
    (HW : Hid (∀ W, Calls Tryd.prog 35 #[.int .i64 b, .int .i64 k] W fun e w' => e = .returned (.agg #[.int .u64 wh, .int .u64 wl]) ∧ Below W.heap.size W w'))
    (HS : Hid (∀ W, Calls Tryd.prog 36 #[.int .i64 op] W fun e w' => e = .returned (.bool true) ∧ w' = W))
    (HBi : Hid (∀ W, Calls Tryd.prog 48 #[.int .i64 k] W fun e w' => e = .returned (.int .u64 B) ∧ w' = W))
    (HN : Hid (∀ W, Calls Tryd.prog 35 #[.int .i64 a, .int .i64 k] W fun e w' => e = .returned (.agg #[.int .u64 nh, .int .u64 nl]) ∧ Below W.heap.size W w'))
    (HC : Hid (∀ W, Calls Tryd.prog 49 #[.int .i64 op, .agg #[.int .u64 nh, .int .u64 nl], .agg #[.int .u64 0, .int .u64 (wl.tmod B)]] W fun e w' => e = .returned (.agg #[.int .u64 rh, .int .u64 rl]) ∧ Below W.heap.size W w'))
    (HT : Hid (∀ W, Calls Tryd.prog 27 #[.int .i64 (IntKind.i64.wrap rl), .int .i64 k] W fun e w' => e = .returned (.tuple #[.int .i64 v, .int .i64 er]) ∧ w' = W))
    (hB : (B == 0) = false) (hB0 : B ≠ 0)
    : Calls Tryd.prog 22 #[.int .i64 op, .int .i64 k, .int .i64 a, .int .i64 b] w fun e w' => e = .returned (.tuple #[.int .i64 v, .int .i64 er]) ∧ Below w.heap.size w w' := by
  have hf := fldO1 (.string S) (.int .i64 o)
  go_enter Tryd.func22, Tryd.ntmps22
  go_wp2_with fail
  refine (unveil HB).mono ?_
  rintro e W1 ⟨rfl, hb⟩
  have HB1 := veil hb
  clear hb HB
  go_wp2_with (go_at_call 28; (first | with_reducible refine (unveil HLa _).mono ?_ | with_reducible refine (unveil HLb _).mono ?_); rintro e w' ⟨rfl, hw'⟩; obtain rfl := hw'.symm)
  refine (unveil HW _).mono ?_
  rintro e W3 ⟨rfl, hb⟩
  have HB3 := veil ((unveil HB1).trans (hb.mono (unveil HB1).size))
  have HX : Hid (BxW w (W3.alloc (.cells #[.int .u64 wh, .int .u64 wl] 48)) W3.heap.size wh wl) := ⟨heap_newW W3 _, (unveil HB3).size, (unveil HB3).alloc (unveil HB3).size _⟩
  clear hb HB1 HW HLa HLb
  go_upto_region 7 with (go_at_call 36; refine (unveil HS _).mono ?_; rintro e w' ⟨rfl, hw'⟩; obtain rfl := hw'.symm)
  generalize W3.alloc (.cells #[.int .u64 wh, .int .u64 wl] 48) = W4 at HX ⊢
  generalize W3.heap.size = M at HX ⊢
  refine wp_region_noPanic (wpIn_wide.1 (wpIn_region_mix (ro := none) (n := 0) (fun w' => Hid (BxW w w' M wh wl))
    [(0, true), (1, true), (2, true), (3, false), (4, true), (5, true)]
    6 hmixW (by kernel_rfl) (by kernel_rfl) (by kernel_rfl) (by kernel_rfl) (by kernel_rfl) (by kernel_rfl) (fun _ _ _ _ h => h) (unveil HX).drew ?_))
  iterate 3 (refine mix_pure _ rfl _ (.inl ⟨rfl, fun W hS => (by obtain ⟨f0, f1⟩ := (unveil hS).1.two; go_simp; rfl)⟩) (fun B hB => ?_); simp only [Act.put, List.setIfInBounds_toArray, List.set_cons_zero, List.set_cons_succ] at hB; subst hB)
  refine mix_sole _ rfl (fun K hK => ?_)
  go_simp
  refine ⟨trivial, rfl, (callsIn_wide.2 (unveil HBi _)).mono ?_⟩
  rintro e W5 ⟨rfl, hb⟩
  obtain rfl := hb.symm
  have HX5 : Hid (BxW w W4.drew M wh wl) := (unveil HX).drew
  refine hK _ _ HX5 ?_
  clear hK K hb HX
  refine mix_pure _ rfl (.int .u64 (wl.tmod B)) (.inl ⟨rfl, fun W hS => (by go_simp)⟩) (fun B hB => ?_)
  simp only [Act.put, List.setIfInBounds_toArray, List.set_cons_zero, List.set_cons_succ] at hB
  subst hB
  iterate 1 (refine mix_pure _ rfl _ (.inl ⟨rfl, fun W hS => (by obtain ⟨f0, f1⟩ := (unveil hS).1.two; go_simp; rfl)⟩) (fun B hB => ?_); simp only [Act.put, List.setIfInBounds_toArray, List.set_cons_zero, List.set_cons_succ] at hB; subst hB)
  refine mix_nil ?_
  refine listIn_last rfl (fun K hK => ?_)
  have HX6 : Hid (BxW w ((W4.drew.setCell ⟨M, 0, none⟩ (.int .u64 0)).setCell ⟨M, 1, none⟩ (.int .u64 (wl.tmod B))) M 0 (wl.tmod B)) := (unveil HX5).put 0 (wl.tmod B)
  obtain ⟨c0, c1⟩ := (unveil HX5).1.two
  have f0 := (unveil HX5).1.frozen 0
  have f1 := (unveil HX5).1.frozen 1
  clear HX5
  generalize W4.drew = W5 at *
  go_simp
  refine hK _ _ ?_
  clear hK K
  go_upto_region 12 with fail
  generalize (W5.setCell ⟨M, 0, none⟩ (.int .u64 0)).setCell ⟨M, 1, none⟩ (.int .u64 (wl.tmod B)) = W6 at HX6 ⊢
  refine wp_region_noPanic (wpIn_wide.1 (wpIn_region_mix (ro := none) (n := 0) (fun w' => Hid (BxW w w' M 0 (wl.tmod B)))
    [(0, true), (1, true), (2, true), (4, true), (8, true), (3, false), (5, false), (6, true), (7, true), (9, false), (10, true), (11, true), (12, true)]
    13 hmixW (by kernel_rfl) (by kernel_rfl) (by kernel_rfl) (by kernel_rfl) (by kernel_rfl) (by kernel_rfl) (fun _ _ _ _ h => h) (unveil HX6).drew ?_))
  iterate 5 (refine mix_pure _ rfl _ (.inl ⟨rfl, fun W hS => (by obtain ⟨f0, f1⟩ := (unveil hS).1.two; go_simp; rfl)⟩) (fun B hB => ?_); simp only [Act.put, List.setIfInBounds_toArray, List.set_cons_zero, List.set_cons_succ] at hB; subst hB)
  refine mix_sole _ rfl (fun K hK => ?_)
  go_simp
  refine ⟨trivial, rfl, (callsIn_wide.2 (unveil HN _)).mono ?_⟩
  rintro e W7 ⟨rfl, hb⟩
  have HX7 := veil ((unveil HX6).drew.call hb)
  refine hK _ _ HX7 ?_
  clear hK K hb HX6
  refine mix_sole _ rfl (fun K hK => ?_)
  go_simp
  refine ⟨trivial, rfl, (callsIn_wide.2 (unveil HC _)).mono ?_⟩
  rintro e W8 ⟨rfl, hb⟩
  have HX8 := veil ((unveil HX7).call hb)
  refine hK _ _ HX8 ?_
  clear hK K hb HX7
  refine mix_pure _ rfl (.int .u64 rl) (.inl ⟨rfl, fun W hS => (by have hf2 := fldW1 (.int .u64 rh) (.int .u64 rl) W; go_simp)⟩) (fun B hB => ?_)
  simp only [Act.put, List.setIfInBounds_toArray, List.set_cons_zero, List.set_cons_succ] at hB
  subst hB
  iterate 1 (refine mix_pure _ rfl _ (.inl ⟨rfl, fun W hS => (by obtain ⟨f0, f1⟩ := (unveil hS).1.two; go_simp; rfl)⟩) (fun B hB => ?_); simp only [Act.put, List.setIfInBounds_toArray, List.set_cons_zero, List.set_cons_succ] at hB; subst hB)
  refine mix_sole _ rfl (fun K hK => ?_)
  go_simp
  refine ⟨trivial, rfl, (callsIn_wide.2 (unveil HT _)).mono ?_⟩
  rintro e W9 ⟨rfl, hb⟩
  obtain rfl := hb.symm
  refine hK _ _ HX8 ?_
  clear hK K hb
  iterate 3 (refine mix_pure _ rfl _ (.inl ⟨rfl, fun W hS => (by obtain ⟨f0, f1⟩ := (unveil hS).1.two; go_simp; rfl)⟩) (fun B hB => ?_); simp only [Act.put, List.setIfInBounds_toArray, List.set_cons_zero, List.set_cons_succ] at hB; subst hB)
  refine mix_nil ?_
  refine listIn_last rfl (fun K hK => ?_)
  go_simp
  refine hK _ _ ?_
  clear hK K
  go_wp2
  go_ret2
  exact ⟨rfl, (unveil HX8).2.2⟩
end Go.Proofs.YtobfpdhfmbpidaaDoor
