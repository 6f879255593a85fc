/-
  Package arith: defined, strict, over whatever the calls tell.
-/
import Derived.Test.YtobfpdhfmbpidaaDoorEe
import Derived.Test.YtobfpdhfmbpidaaDoorEg
import Derived.Test.YtobfpdhfmbpidaaDoorEk
namespace Go.Proofs.YtobfpdhfmbpidaaDoor
open Go Go.RowKit
set_option linter.unusedVariables false
set_option linter.unusedSimpArgs false
/-- Two numbers in the first boxes. -/
structure St2 (w W : World) (h l h' l' : Int) : Prop where
  a : WB W w.heap.size h l
  b : WB W (w.heap.size + 1) h' l'
  bel : Below w.heap.size w W
theorem St2.call {w A W : World} {h l h' l' : Int} (s : St2 w A h l h' l') (hb : Below A.heap.size A W) : St2 w W h l h' l' :=
  ⟨s.a.below hb s.a.lt, s.b.below hb s.b.lt, s.bel.trans (hb.mono s.bel.size)⟩
theorem St2.start (w : World) (h l h' l' : Int) : St2 w ((w.alloc (.cells #[.int .u64 h, .int .u64 l] 48)).alloc (.cells #[.int .u64 h', .int .u64 l'] 48)) h l h' l' :=
  ⟨(show WB _ _ _ _ from heap_newW w _).below (below_newW _ _) (by simp), heap_new2 w _ _, below_new2 w _ _⟩
set_option maxRecDepth 100000 in
set_option maxHeartbeats 2000000 in
theorem def4 (k h l h' l' : Int) (w : World) : Calls Tryd.prog 54 #[.int .i64 4, .int .i64 k, .agg #[.int .u64 h, .int .u64 l], .agg #[.int .u64 h', .int .u64 l']] w fun e w' => e = .returned (.bool (!decide (h' = 0) || !decide (l' = 0))) ∧ Below w.heap.size w w' := by
  have hS := veil (St2.start w h l h' l')
  go_enter Tryd.func54, Tryd.ntmps54
  go_upto_region 3 with fail
  have hq := wide_neq h' l' 0 0
  go_wp2
  go_ret
  exact ⟨by first | rfl | (simp; done), (unveil hS).bel⟩
set_option maxRecDepth 100000 in
set_option maxHeartbeats 2000000 in
theorem def5no (k h l h' l' : Int) (w : World) (hz : (!decide (h' = 0) || !decide (l' = 0)) = false) : Calls Tryd.prog 54 #[.int .i64 5, .int .i64 k, .agg #[.int .u64 h, .int .u64 l], .agg #[.int .u64 h', .int .u64 l']] w fun e w' => e = .returned (.bool false) ∧ Below w.heap.size w w' := by
  obtain ⟨rfl, rfl⟩ : h' = 0 ∧ l' = 0 := by simpa using hz
  clear hz
  have hS := veil (St2.start w h l 0 0)
  go_enter Tryd.func54, Tryd.ntmps54
  go_wp2
  go_ret
  exact ⟨rfl, (unveil hS).bel⟩
set_option maxRecDepth 100000 in
set_option maxHeartbeats 2000000 in
theorem def5 (k h l h' l' qh ql : Int) (KP : Bool) (w : World) (hz : (!decide (h' = 0) || !decide (l' = 0)) = true)
    (HO : Hid (∀ W, Calls Tryd.prog 61 #[.agg #[.int .u64 h, .int .u64 l], .agg #[.int .u64 h', .int .u64 l']] W fun e w' => e = .returned (.agg #[.int .u64 qh, .int .u64 ql]) ∧ Below W.heap.size W w'))
    (HK : Hid (∀ W, Calls Tryd.prog 55 #[.agg #[.int .u64 qh, .int .u64 ql], .int .i64 k] W fun e w' => e = .returned (.bool KP) ∧ Below W.heap.size W w')) :
    Calls Tryd.prog 54 #[.int .i64 5, .int .i64 k, .agg #[.int .u64 h, .int .u64 l], .agg #[.int .u64 h', .int .u64 l']] w fun e w' => e = .returned (.bool KP) ∧ Below w.heap.size w w' := by
  have hS := veil (St2.start w h l h' l')
  have hq := wide_neq h' l' 0 0
  simp only [Bool.not_and, hz] at hq
  clear hz
  go_enter Tryd.func54, Tryd.ntmps54
  go_upto_region 5 with fail
  go_wp2_with fail
  refine (unveil HO _).mono ?_
  rintro e W ⟨rfl, hb⟩
  have hS1 := veil ((unveil hS).call hb)
  clear hb hS
  go_wp2_with fail
  refine (unveil HK _).mono ?_
  rintro e W2 ⟨rfl, hb⟩
  have hS2 := veil ((unveil hS1).call hb)
  clear hb hS1
  go_wp2
  go_ret
  exact ⟨rfl, (unveil hS2).bel⟩
set_option maxRecDepth 100000 in
set_option maxHeartbeats 2000000 in
theorem def6 (k h l h' l' : Int) (U V : Bool) (w : World)
    (HU : Hid (∀ W, Calls Tryd.prog 66 #[.agg #[.int .u64 h, .int .u64 l], .agg #[.int .u64 0, .int .u64 0]] W fun e w' => e = .returned (.bool U) ∧ Below W.heap.size W w'))
    (HV : Hid (∀ W, Calls Tryd.prog 69 #[.agg #[.int .u64 h', .int .u64 l'], .int .i64 k] W fun e w' => e = .returned (.bool V) ∧ Below W.heap.size W w')) :
    Calls Tryd.prog 54 #[.int .i64 6, .int .i64 k, .agg #[.int .u64 h, .int .u64 l], .agg #[.int .u64 h', .int .u64 l']] w fun e w' => e = .returned (.bool (!U && V)) ∧ Below w.heap.size w w' := by
  have hS := veil (St2.start w h l h' l')
  cases U
  · go_enter Tryd.func54, Tryd.ntmps54
    go_wp2_with fail
    refine (unveil HU _).mono ?_
    rintro e W ⟨rfl, hb⟩
    have hS1 := veil ((unveil hS).call hb)
    obtain ⟨c0, c1⟩ := (unveil hS1).b.two
    clear hb hS
    go_wp2_with fail
    refine (unveil HV _).mono ?_
    rintro e W2 ⟨rfl, hb⟩
    have hS2 := veil ((unveil hS1).call hb)
    clear hb hS1 c0 c1
    go_wp2
    go_ret
    exact ⟨rfl, (unveil hS2).bel⟩
  · go_enter Tryd.func54, Tryd.ntmps54
    go_wp2_with fail
    refine (unveil HU _).mono ?_
    rintro e W ⟨rfl, hb⟩
    have hS1 := veil ((unveil hS).call hb)
    clear hb hS
    go_wp2
    go_ret
    exact ⟨rfl, (unveil hS1).bel⟩
set_option maxRecDepth 100000 in
set_option maxHeartbeats 2000000 in
theorem def7 (k h l h' l' : Int) (V : Bool) (w : World)
    (HV : Hid (∀ W, Calls Tryd.prog 69 #[.agg #[.int .u64 h', .int .u64 l'], .int .i64 k] W fun e w' => e = .returned (.bool V) ∧ Below W.heap.size W w')) :
    Calls Tryd.prog 54 #[.int .i64 7, .int .i64 k, .agg #[.int .u64 h, .int .u64 l], .agg #[.int .u64 h', .int .u64 l']] w fun e w' => e = .returned (.bool V) ∧ Below w.heap.size w w' := by
  have hS := veil (St2.start w h l h' l')
  go_enter Tryd.func54, Tryd.ntmps54
  go_wp2_with fail
  refine (unveil HV _).mono ?_
  rintro e W ⟨rfl, hb⟩
  have hS1 := veil ((unveil hS).call hb)
  clear hb hS
  go_wp2
  go_ret
  exact ⟨rfl, (unveil hS1).bel⟩
set_option maxRecDepth 100000 in
set_option maxHeartbeats 2000000 in
theorem defOther (op k h l h' l' : Int) (w : World) (h4 : (op == 4) = false) (h5 : (op == 5) = false) (h6 : (op == 6) = false) (h7 : (op == 7) = false) : Calls Tryd.prog 54 #[.int .i64 op, .int .i64 k, .agg #[.int .u64 h, .int .u64 l], .agg #[.int .u64 h', .int .u64 l']] w fun e w' => e = .returned (.bool true) ∧ Below w.heap.size w w' := by
  have hS := veil (St2.start w h l h' l')
  go_enter Tryd.func54, Tryd.ntmps54
  go_wp2
  go_ret
  exact ⟨rfl, (unveil hS).bel⟩
set_option maxRecDepth 100000 in
set_option maxHeartbeats 2000000 in
theorem strictNo (op k h l h' l' : Int) (w : World)
    (HD : Hid (∀ W, Calls Tryd.prog 54 #[.int .i64 op, .int .i64 k, .agg #[.int .u64 h, .int .u64 l], .agg #[.int .u64 h', .int .u64 l']] W fun e w' => e = .returned (.bool false) ∧ Below W.heap.size W w')) :
    Calls Tryd.prog 38 #[.int .i64 op, .int .i64 k, .agg #[.int .u64 h, .int .u64 l], .agg #[.int .u64 h', .int .u64 l']] w fun e w' => e = .returned (.tuple #[.int .i64 0, .int .i64 0, .int .i64 90]) ∧ Below w.heap.size w w' := by
  have hS := veil (St2.start w h l h' l')
  go_enter Tryd.func38, Tryd.ntmps38
  go_wp2_with fail
  refine (unveil HD _).mono ?_
  rintro e W ⟨rfl, hb⟩
  have hS1 := veil ((unveil hS).call hb)
  clear hb hS
  go_wp2
  go_ret3
  exact ⟨rfl, (unveil hS1).bel⟩
set_option maxRecDepth 100000 in
set_option maxHeartbeats 2000000 in
theorem strictYes (op k h l h' l' rh rl v er : Int) (KP Q : Bool) (w : World)
    (HD : Hid (∀ W, Calls Tryd.prog 54 #[.int .i64 op, .int .i64 k, .agg #[.int .u64 h, .int .u64 l], .agg #[.int .u64 h', .int .u64 l']] W fun e w' => e = .returned (.bool true) ∧ Below W.heap.size W w'))
    (HR : Hid (∀ W, Calls Tryd.prog 49 #[.int .i64 op, .agg #[.int .u64 h, .int .u64 l], .agg #[.int .u64 h', .int .u64 l']] W fun e w' => e = .returned (.agg #[.int .u64 rh, .int .u64 rl]) ∧ Below W.heap.size W w'))
    (HK : Hid (∀ W, Calls Tryd.prog 55 #[.agg #[.int .u64 rh, .int .u64 rl], .int .i64 k] W fun e w' => e = .returned (.bool KP) ∧ Below W.heap.size W w'))
    (HT : Hid (∀ W, Calls Tryd.prog 27 #[.int .i64 (wrap64 rl), .int .i64 k] W fun e w' => e = .returned (.tuple #[.int .i64 v, .int .i64 er]) ∧ w' = W))
    (HA : Hid (∀ W, Calls Tryd.prog 31 #[.int .i64 op] W fun e w' => e = .returned (.bool Q) ∧ w' = W)) :
    Calls Tryd.prog 38 #[.int .i64 op, .int .i64 k, .agg #[.int .u64 h, .int .u64 l], .agg #[.int .u64 h', .int .u64 l']] w fun e w' => e = .returned (if KP then .tuple #[.int .i64 v, .int .i64 (if Q then 5 else k), .int .i64 er] else .tuple #[.int .i64 0, .int .i64 0, .int .i64 90]) ∧ Below w.heap.size w w' := by
  have hS := veil (St2.start w h l h' l')
  go_enter Tryd.func38, Tryd.ntmps38
  go_wp2_with fail
  refine (unveil HD _).mono ?_
  rintro e W ⟨rfl, hb⟩
  have hS1 := veil ((unveil hS).call hb)
  obtain ⟨c0, c1⟩ := (unveil hS1).a.two
  obtain ⟨c2, c3⟩ := (unveil hS1).b.two
  clear hb hS
  go_wp2_with fail
  refine (unveil HR _).mono ?_
  rintro e W2 ⟨rfl, hb⟩
  have hS2 := veil ((unveil hS1).call hb)
  have hN := veil (heap_newW W2 (.cells #[.int .u64 rh, .int .u64 rl] 48))
  have hS3 := veil ((unveil hS2).call (below_newW W2 (.cells #[.int .u64 rh, .int .u64 rl] 48)))
  clear hb hS1 c0 c1 c2 c3 hS2
  go_wp2_with fail
  generalize W2.alloc (.cells #[.int .u64 rh, .int .u64 rl] 48) = W3 at hN hS3 ⊢
  have hN3 : Hid (WB W3 W2.heap.size rh rl) := hN
  clear hN
  generalize W2.heap.size = M at hN3 ⊢
  refine (unveil HK _).mono ?_
  rintro e W4 ⟨rfl, hb⟩
  have hS4 := veil ((unveil hS3).call hb)
  obtain ⟨c0, c1⟩ := ((unveil hN3).below hb (unveil hN3).lt).two
  clear hb hS3 hN3
  cases KP
  · go_wp2
    go_ret3
    exact ⟨rfl, (unveil hS4).bel⟩
  · cases Q
    all_goals (
      go_wp2_with (first
        | (go_at_call 27; refine (unveil HT _).mono ?_; rintro e w' ⟨rfl, hw'⟩; obtain rfl := hw'.symm)
        | (go_at_call 31; refine (unveil HA _).mono ?_; rintro e w' ⟨rfl, hw'⟩; obtain rfl := hw'.symm))
      go_ret3
      exact ⟨rfl, (unveil hS4).bel⟩)
end Go.Proofs.YtobfpdhfmbpidaaDoor
