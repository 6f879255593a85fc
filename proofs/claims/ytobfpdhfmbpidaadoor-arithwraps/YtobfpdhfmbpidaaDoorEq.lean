/-
  Package arith: Two over whatever the calls tell.
-/
import Derived.Test.YtobfpdhfmbpidaaDoorEk
import Derived.Test.YtobfpdhfmbpidaaDoorEg
namespace Go.Proofs.YtobfpdhfmbpidaaDoor
open Go Go.RowKit
set_option linter.unusedVariables false
set_option linter.unusedSimpArgs false
/-- A number in box M, and all below as it was. -/
def BxW (w W : World) (M : Nat) (h l : Int) : Prop := WB W M h l ∧ w.heap.size ≤ M ∧ Below w.heap.size w W
theorem BxW.call {w A W : World} {M : Nat} {h l : Int} (s : BxW w A M h l) (hb : Below A.heap.size A W) : BxW w W M h l := ⟨s.1.below hb s.1.lt, s.2.1, s.2.2.trans (hb.mono s.2.2.size)⟩
theorem BxW.drew {w A : World} {M : Nat} {h l : Int} (s : BxW w A M h l) : BxW w A.drew M h l := ⟨s.1, s.2.1, s.2.2.drew⟩
theorem BxW.put {w A : World} {M : Nat} {h l : Int} (s : BxW w A M h l) (b u : Int) : BxW w (putW A M b u) M b u := ⟨s.1.put _ _, s.2.1, below_putW s.2.2 s.2.1 _ _⟩
set_option maxRecDepth 100000 in
set_option maxHeartbeats 2000000 in
theorem TwoArg (op a ak b bk : Int) (w : World)
    (HB : Hid (Calls Tryd.prog 14 #[.int .i64 op] w fun e w' => e = .returned (.bool false) ∧ Below w.heap.size w w')) :
    Calls Tryd.prog 18 #[.int .i64 op, .int .i64 a, .int .i64 ak, .int .i64 b, .int .i64 bk] w fun e w' => e = .returned (.tuple #[.int .i64 0, .int .i64 0, .int .i64 2]) ∧ Below w.heap.size w w' := by
  go_enter Tryd.func18, Tryd.ntmps18
  go_wp2_with fail
  refine (unveil HB).mono ?_
  rintro e W1 ⟨rfl, hb⟩
  have HB1 := veil hb
  clear hb HB
  go_wp2
  go_ret3
  exact ⟨rfl, unveil HB1⟩
set_option maxRecDepth 100000 in
set_option maxHeartbeats 2000000 in
theorem TwoKind (op a ak b bk : Int) (LA LB : Bool) (w : World) (hl : (LA && LB) = false)
    (HB : Hid (Calls Tryd.prog 14 #[.int .i64 op] w fun e w' => e = .returned (.bool true) ∧ Below w.heap.size w w'))
    (HLa : Hid (∀ W, Calls Tryd.prog 28 #[.int .i64 a, .int .i64 ak] W fun e w' => e = .returned (.bool LA) ∧ w' = W))
    (HLb : Hid (∀ W, Calls Tryd.prog 28 #[.int .i64 b, .int .i64 bk] W fun e w' => e = .returned (.bool LB) ∧ w' = W))
    : Calls Tryd.prog 18 #[.int .i64 op, .int .i64 a, .int .i64 ak, .int .i64 b, .int .i64 bk] w fun e w' => e = .returned (.tuple #[.int .i64 0, .int .i64 0, .int .i64 80]) ∧ Below w.heap.size w w' := by
  cases LA
  · clear HLb
    go_enter Tryd.func18, Tryd.ntmps18
    go_wp2_with fail
    refine (unveil HB).mono ?_
    rintro e W1 ⟨rfl, hb⟩
    have HB1 := veil hb
    clear hb HB
    go_wp2_with (go_at_call 28; refine (unveil HLa _).mono ?_; rintro e w' ⟨rfl, hw'⟩; obtain rfl := hw'.symm)
    go_ret3
    exact ⟨rfl, unveil HB1⟩
  · cases LB
    · go_enter Tryd.func18, Tryd.ntmps18
      go_wp2_with fail
      refine (unveil HB).mono ?_
      rintro e W1 ⟨rfl, hb⟩
      have HB1 := veil hb
      clear hb HB
      go_wp2_with (go_at_call 28; (first | with_reducible refine (unveil HLa _).mono ?_ | with_reducible refine (unveil HLb _).mono ?_); rintro e w' ⟨rfl, hw'⟩; obtain rfl := hw'.symm)
      go_ret3
      exact ⟨rfl, unveil HB1⟩
    · cases hl
set_option maxRecDepth 100000 in
set_option maxHeartbeats 4000000 in
theorem TwoS (op a ak b bk k ke wh wl mh ml nh nl t0 t1 t2 : Int) (w : World)
    (HB : Hid (Calls Tryd.prog 14 #[.int .i64 op] w fun e w' => e = .returned (.bool true) ∧ Below w.heap.size w w'))
    (HLa : Hid (∀ W, Calls Tryd.prog 28 #[.int .i64 a, .int .i64 ak] W fun e w' => e = .returned (.bool true) ∧ w' = W))
    (HLb : Hid (∀ W, Calls Tryd.prog 28 #[.int .i64 b, .int .i64 bk] W fun e w' => e = .returned (.bool true) ∧ w' = W))
    (HR : Hid (∀ W, Below w.heap.size w W → Calls Tryd.prog 30 #[.int .i64 op, .int .i64 ak, .int .i64 bk] W fun e w' => e = .returned (.tuple #[.int .i64 k, .int .i64 ke]) ∧ Below W.heap.size W w'))
    (HW : Hid (∀ W, Calls Tryd.prog 35 #[.int .i64 b, .int .i64 bk] W fun e w' => e = .returned (.agg #[.int .u64 wh, .int .u64 wl]) ∧ Below W.heap.size W w'))
    (HS : Hid (∀ W, Calls Tryd.prog 36 #[.int .i64 op] W fun e w' => e = .returned (.bool true) ∧ w' = W))
    (HMa : Hid (∀ W, Calls Tryd.prog 37 #[.int .i64 a, .int .i64 k] W fun e w' => e = .returned (.agg #[.int .u64 nh, .int .u64 nl]) ∧ Below W.heap.size W w'))
    (HT : Hid (∀ W, Calls Tryd.prog 38 #[.int .i64 op, .int .i64 k, .agg #[.int .u64 nh, .int .u64 nl], .agg #[.int .u64 wh, .int .u64 wl]] W fun e w' => e = .returned (.tuple #[.int .i64 t0, .int .i64 t1, .int .i64 t2]) ∧ Below W.heap.size W w'))
    : Calls Tryd.prog 18 #[.int .i64 op, .int .i64 a, .int .i64 ak, .int .i64 b, .int .i64 bk] w fun e w' => e = .returned (.tuple #[.int .i64 t0, .int .i64 t1, .int .i64 t2]) ∧ Below w.heap.size w w' := by
  go_enter Tryd.func18, Tryd.ntmps18
  go_wp2_with fail
  refine (unveil HB).mono ?_
  rintro e W1 ⟨rfl, hb⟩
  have HB1 := veil hb
  have HR1 := veil (unveil HR W1 hb)
  clear hb HB HR
  go_wp2_with (go_at_call 28; (first | with_reducible refine (unveil HLa _).mono ?_ | with_reducible refine (unveil HLb _).mono ?_); rintro e w' ⟨rfl, hw'⟩; obtain rfl := hw'.symm)
  refine (unveil HR1).mono ?_
  rintro e W2 ⟨rfl, hb⟩
  have HB2 := veil ((unveil HB1).trans (hb.mono (unveil HB1).size))
  clear hb HB1 HR1 HLa HLb
  go_wp2_with fail
  refine (unveil HW _).mono ?_
  rintro e W3 ⟨rfl, hb⟩
  have HB3 := veil ((unveil HB2).trans (hb.mono (unveil HB2).size))
  have HX : Hid (BxW w (W3.alloc (.cells #[.int .u64 wh, .int .u64 wl] 48)) W3.heap.size wh wl) := ⟨heap_newW W3 _, (unveil HB3).size, (unveil HB3).alloc (unveil HB3).size _⟩
  clear hb HB2 HW
  go_upto_region 9 with (go_at_call 36; refine (unveil HS _).mono ?_; rintro e w' ⟨rfl, hw'⟩; obtain rfl := hw'.symm)
  generalize W3.alloc (.cells #[.int .u64 wh, .int .u64 wl] 48) = W4 at HX ⊢
  generalize W3.heap.size = M at HX ⊢
  refine wp_region_noPanic (wpIn_wide.1 (wpIn_region_mix (ro := none) (n := 0) (fun w' => Hid (BxW w w' M wh wl))
    [(0, true), (1, true), (2, true), (3, true), (5, true), (4, false), (6, false), (7, true), (8, true), (9, true), (10, true), (11, true)]
    12 hmixW (by kernel_rfl) (by kernel_rfl) (by kernel_rfl) (by kernel_rfl) (by kernel_rfl) (by kernel_rfl) (fun _ _ _ _ h => h) (unveil HX).drew ?_))
  iterate 5 (refine mix_pure _ rfl _ (.inl ⟨rfl, fun W hS => (by obtain ⟨f0, f1⟩ := (unveil hS).1.two; go_simp; rfl)⟩) (fun B hB => ?_); simp only [Act.put, List.setIfInBounds_toArray, List.set_cons_zero, List.set_cons_succ] at hB; subst hB)
  refine mix_sole _ rfl (fun K hK => ?_)
  go_simp
  refine ⟨trivial, rfl, (callsIn_wide.2 (unveil HMa _)).mono ?_⟩
  rintro e W7 ⟨rfl, hb⟩
  have HX7 := veil ((unveil HX).drew.call hb)
  refine hK _ _ HX7 ?_
  clear hK K hb HX
  refine mix_sole _ rfl (fun K hK => ?_)
  go_simp
  refine ⟨trivial, rfl, (callsIn_wide.2 (unveil HT _)).mono ?_⟩
  rintro e W8 ⟨rfl, hb⟩
  have HX8 := veil ((unveil HX7).call hb)
  refine hK _ _ HX8 ?_
  clear hK K hb HX7
  iterate 5 (refine mix_pure _ rfl _ (.inl ⟨rfl, fun W hS => (by obtain ⟨f0, f1⟩ := (unveil hS).1.two; go_simp; rfl)⟩) (fun B hB => ?_); simp only [Act.put, List.setIfInBounds_toArray, List.set_cons_zero, List.set_cons_succ] at hB; subst hB)
  refine mix_nil ?_
  refine listIn_last rfl (fun K hK => ?_)
  go_simp
  refine hK _ _ ?_
  clear hK K
  go_wp2
  go_ret3
  exact ⟨rfl, (unveil HX8).2.2⟩
set_option maxRecDepth 100000 in
set_option maxHeartbeats 4000000 in
theorem TwoN (op a ak b bk k ke wh wl mh ml nh nl t0 t1 t2 : Int) (w : World)
    (HB : Hid (Calls Tryd.prog 14 #[.int .i64 op] w fun e w' => e = .returned (.bool true) ∧ Below w.heap.size w w'))
    (HLa : Hid (∀ W, Calls Tryd.prog 28 #[.int .i64 a, .int .i64 ak] W fun e w' => e = .returned (.bool true) ∧ w' = W))
    (HLb : Hid (∀ W, Calls Tryd.prog 28 #[.int .i64 b, .int .i64 bk] W fun e w' => e = .returned (.bool true) ∧ w' = W))
    (HR : Hid (∀ W, Below w.heap.size w W → Calls Tryd.prog 30 #[.int .i64 op, .int .i64 ak, .int .i64 bk] W fun e w' => e = .returned (.tuple #[.int .i64 k, .int .i64 ke]) ∧ Below W.heap.size W w'))
    (HW : Hid (∀ W, Calls Tryd.prog 35 #[.int .i64 b, .int .i64 bk] W fun e w' => e = .returned (.agg #[.int .u64 wh, .int .u64 wl]) ∧ Below W.heap.size W w'))
    (HS : Hid (∀ W, Calls Tryd.prog 36 #[.int .i64 op] W fun e w' => e = .returned (.bool false) ∧ w' = W))
    (HMb : Hid (∀ W, Calls Tryd.prog 37 #[.int .i64 b, .int .i64 k] W fun e w' => e = .returned (.agg #[.int .u64 mh, .int .u64 ml]) ∧ Below W.heap.size W w'))
    (HMa : Hid (∀ W, Calls Tryd.prog 37 #[.int .i64 a, .int .i64 k] W fun e w' => e = .returned (.agg #[.int .u64 nh, .int .u64 nl]) ∧ Below W.heap.size W w'))
    (HT : Hid (∀ W, Calls Tryd.prog 38 #[.int .i64 op, .int .i64 k, .agg #[.int .u64 nh, .int .u64 nl], .agg #[.int .u64 mh, .int .u64 ml]] W fun e w' => e = .returned (.tuple #[.int .i64 t0, .int .i64 t1, .int .i64 t2]) ∧ Below W.heap.size W w'))
    : Calls Tryd.prog 18 #[.int .i64 op, .int .i64 a, .int .i64 ak, .int .i64 b, .int .i64 bk] w fun e w' => e = .returned (.tuple #[.int .i64 t0, .int .i64 t1, .int .i64 t2]) ∧ Below w.heap.size w w' := by
  go_enter Tryd.func18, Tryd.ntmps18
  go_wp2_with fail
  refine (unveil HB).mono ?_
  rintro e W1 ⟨rfl, hb⟩
  have HB1 := veil hb
  have HR1 := veil (unveil HR W1 hb)
  clear hb HB HR
  go_wp2_with (go_at_call 28; (first | with_reducible refine (unveil HLa _).mono ?_ | with_reducible refine (unveil HLb _).mono ?_); rintro e w' ⟨rfl, hw'⟩; obtain rfl := hw'.symm)
  refine (unveil HR1).mono ?_
  rintro e W2 ⟨rfl, hb⟩
  have HB2 := veil ((unveil HB1).trans (hb.mono (unveil HB1).size))
  clear hb HB1 HR1 HLa HLb
  go_wp2_with fail
  refine (unveil HW _).mono ?_
  rintro e W3 ⟨rfl, hb⟩
  have HB3 := veil ((unveil HB2).trans (hb.mono (unveil HB2).size))
  have HX : Hid (BxW w (W3.alloc (.cells #[.int .u64 wh, .int .u64 wl] 48)) W3.heap.size wh wl) := ⟨heap_newW W3 _, (unveil HB3).size, (unveil HB3).alloc (unveil HB3).size _⟩
  clear hb HB2 HW
  go_upto_region 8 with (go_at_call 36; refine (unveil HS _).mono ?_; rintro e w' ⟨rfl, hw'⟩; obtain rfl := hw'.symm)
  generalize W3.alloc (.cells #[.int .u64 wh, .int .u64 wl] 48) = W5 at HX ⊢
  generalize W3.heap.size = M at HX ⊢
  go_wp2_with fail
  refine (unveil HMb _).mono ?_
  rintro e W6 ⟨rfl, hb⟩
  have hx := (unveil HX).call hb
  obtain ⟨c0, c1⟩ := hx.1.two
  have f0 := hx.1.frozen 0
  have f1 := hx.1.frozen 1
  have HX6 : Hid (BxW w ((W6.setCell ⟨M, 0, none⟩ (.int .u64 mh)).setCell ⟨M, 1, none⟩ (.int .u64 ml)) M mh ml) := hx.put mh ml
  clear hb hx HX
  go_upto_region 9 with fail
  generalize (W6.setCell ⟨M, 0, none⟩ (.int .u64 mh)).setCell ⟨M, 1, none⟩ (.int .u64 ml) = W4 at HX6 ⊢
  have HX := HX6
  clear HX6 c0 c1 f0 f1
  refine wp_region_noPanic (wpIn_wide.1 (wpIn_region_mix (ro := none) (n := 0) (fun w' => Hid (BxW w w' M mh ml))
    [(0, true), (1, true), (2, true), (3, true), (5, true), (4, false), (6, false), (7, true), (8, true), (9, true), (10, true), (11, true)]
    12 hmixW (by kernel_rfl) (by kernel_rfl) (by kernel_rfl) (by kernel_rfl) (by kernel_rfl) (by kernel_rfl) (fun _ _ _ _ h => h) (unveil HX).drew ?_))
  iterate 5 (refine mix_pure _ rfl _ (.inl ⟨rfl, fun W hS => (by obtain ⟨f0, f1⟩ := (unveil hS).1.two; go_simp; rfl)⟩) (fun B hB => ?_); simp only [Act.put, List.setIfInBounds_toArray, List.set_cons_zero, List.set_cons_succ] at hB; subst hB)
  refine mix_sole _ rfl (fun K hK => ?_)
  go_simp
  refine ⟨trivial, rfl, (callsIn_wide.2 (unveil HMa _)).mono ?_⟩
  rintro e W7 ⟨rfl, hb⟩
  have HX7 := veil ((unveil HX).drew.call hb)
  refine hK _ _ HX7 ?_
  clear hK K hb HX
  refine mix_sole _ rfl (fun K hK => ?_)
  go_simp
  refine ⟨trivial, rfl, (callsIn_wide.2 (unveil HT _)).mono ?_⟩
  rintro e W8 ⟨rfl, hb⟩
  have HX8 := veil ((unveil HX7).call hb)
  refine hK _ _ HX8 ?_
  clear hK K hb HX7
  iterate 5 (refine mix_pure _ rfl _ (.inl ⟨rfl, fun W hS => (by obtain ⟨f0, f1⟩ := (unveil hS).1.two; go_simp; rfl)⟩) (fun B hB => ?_); simp only [Act.put, List.setIfInBounds_toArray, List.set_cons_zero, List.set_cons_succ] at hB; subst hB)
  refine mix_nil ?_
  refine listIn_last rfl (fun K hK => ?_)
  go_simp
  refine hK _ _ ?_
  clear hK K
  go_wp2
  go_ret3
  exact ⟨rfl, (unveil HX8).2.2⟩
end Go.Proofs.YtobfpdhfmbpidaaDoor
