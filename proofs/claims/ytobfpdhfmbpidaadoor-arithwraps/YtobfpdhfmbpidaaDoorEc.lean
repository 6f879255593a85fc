/-
  Package arith: numbers of two halves: worth, made, size, bitsOf.
-/
import Derived.Test.YtobfpdhfmbpidaaDoorEb
namespace Go.Proofs.YtobfpdhfmbpidaaDoor
open Go Go.RowKit
set_option linter.unusedVariables false
set_option linter.unusedSimpArgs false

theorem fldW0 (a b : Value) (W : World) : (Instr.field 48 (.agg #[a, b]) 0).run Tryd.prog W = .ok a W := by kernel_rfl
theorem fldW1 (a b : Value) (W : World) : (Instr.field 48 (.agg #[a, b]) 1).run Tryd.prog W = .ok b W := by kernel_rfl
/-- What a value of a kind stands for. -/
def worM (v k : Int) : Int := if unsM k then v % 18446744073709551616 else v
theorem worthW_any (v k : Int) (w : World) (h1 : -9223372036854775808 ≤ v) (h2 : v ≤ 9223372036854775807) : Calls Tryd.prog 35 #[.int .i64 v, .int .i64 k] w fun e w' => e = .returned (W128 (worM v k)) ∧ Below w.heap.size w w' := by
  have h := worthH_any v k w
  have e : wv (if unsM k then 0 else IntKind.u64.wrap (v / 9223372036854775808)) (IntKind.u64.wrap v) = W128 (worM v k) := by
    unfold W128 worM
    simp only [IntKind.wrap_u64]
    cases unsM k
    · simp only [Bool.false_eq_true, if_false]
      congr 1
      omega
    · simp only [if_true]
      congr 1 <;> omega
  rw [e] at h
  exact h
set_option maxRecDepth 100000 in
set_option maxHeartbeats 1000000 in
theorem madeW_any (v k : Int) (w : World) (h1 : -9223372036854775808 ≤ v) (h2 : v ≤ 9223372036854775807) : Calls Tryd.prog 37 #[.int .i64 v, .int .i64 k] w fun e w' => e = .returned (W128 (worM (toM v k) k)) ∧ Below w.heap.size w w' := by
  have HT := veil (fun W => To_any v k W h1 h2)
  have HW := veil (fun W => worthW_any (toM v k) k W (toM_in v k h1 h2).1 (toM_in v k h1 h2).2)
  clear h1 h2
  generalize worM (toM v k) k = X at *
  generalize toM v k = T at *
  generalize erM k = E at *
  unfold W128 wv at *
  generalize X / 18446744073709551616 % 18446744073709551616 = rh at *
  generalize X % 18446744073709551616 = rl at *
  have HQ : Hid (WB (w.alloc (.cells #[.int .u64 0, .int .u64 0] 48)) w.heap.size 0 0) := heap_newW w _
  have HB := veil (below_newW w (.cells #[.int .u64 0, .int .u64 0] 48))
  have HZ : Hid ((w.alloc (.cells #[.int .u64 0, .int .u64 0] 48)).heap.size = w.heap.size + 1) := by show _ = _; simp
  go_enter Tryd.func37, Tryd.ntmps37
  go_wp2_with (go_at_call 27; refine (unveil HT _).mono ?_; rintro e w' ⟨rfl, hw'⟩; obtain rfl := hw'.symm)
  refine (unveil HW _).mono ?_
  rintro e W ⟨rfl, hb⟩
  have hz := unveil HZ
  have hq := (unveil HQ).below hb (by omega)
  obtain ⟨c0, c1⟩ := hq.two
  have f0 := hq.frozen 0
  have f1 := hq.frozen 1
  have HQ2 := veil hq
  have HBB := veil ((unveil HB).trans (hb.mono (by omega)))
  clear hq hz hb HZ HQ HB
  go_wp2
  refine bodyPost_ret (res_w (f := Tryd.f37) rfl rfl ((unveil HQ2).put _ _) rfl) rfl ⟨rfl, below_putW (unveil HBB) (by omega) _ _⟩
/-- How far a number is from 0. -/
def absI (x : Int) : Int := if x < 0 then -x else x
set_option maxRecDepth 100000 in
set_option maxHeartbeats 1000000 in
theorem sizeW_any (x : Int) (w : World) (h1 : -18446744073709551616 < x) (h2 : x < 18446744073709551616) : Calls Tryd.prog 73 #[W128 x] w fun e w' => e = .returned (.int .u64 (absI x)) ∧ Below w.heap.size w w' := by
  have HL := veil (fun W => belowW_any x 0 W (by omega) (by omega) (by omega) (by omega))
  have HN := veil (fun W => negW_any x W)
  have e0 : W128 0 = .agg #[.int .u64 0, .int .u64 0] := rfl
  rw [e0] at HL
  clear e0
  unfold absI
  cases hx : decide (x < 0)
  · have e1 : x % 18446744073709551616 = x := by simp only [decide_eq_false_iff_not] at hx; omega
    have e2 : (if x < 0 then -x else x) = x := if_neg (by simpa using hx)
    rw [e2]
    rw [hx] at HL
    clear HN
    unfold W128 wv at *
    simp only [e1] at HL ⊢
    clear e1 e2 hx h1 h2
    generalize x / 18446744073709551616 % 18446744073709551616 = h at *
    generalize x = l at *
    have HQ : Hid (WB (w.alloc (.cells #[.int .u64 h, .int .u64 l] 48)) w.heap.size h l) := heap_newW w _
    have HB := veil (below_newW w (.cells #[.int .u64 h, .int .u64 l] 48))
    have HZ : Hid ((w.alloc (.cells #[.int .u64 h, .int .u64 l] 48)).heap.size = w.heap.size + 1) := by show _ = _; simp
    go_enter Tryd.func73, Tryd.ntmps73
    go_wp2_with fail
    refine (unveil HL _).mono ?_
    rintro e W ⟨rfl, hb⟩
    have hz := unveil HZ
    have hq := (unveil HQ).below hb (by omega)
    obtain ⟨c0, c1⟩ := hq.two
    have HBB := veil ((unveil HB).trans (hb.mono (by omega)))
    clear hq hz hb HZ HQ HB
    go_wp2
    go_ret
    exact ⟨rfl, unveil HBB⟩
  · have e1 : -x % 18446744073709551616 = -x := by simp only [decide_eq_true_eq] at hx; omega
    have e2 : (if x < 0 then -x else x) = -x := if_pos (by simpa using hx)
    rw [e2]
    rw [hx] at HL
    unfold W128 wv at *
    simp only [e1] at HN ⊢
    clear e1 e2 hx h1 h2
    generalize -x / 18446744073709551616 % 18446744073709551616 = rh at *
    generalize x / 18446744073709551616 % 18446744073709551616 = h at *
    generalize x % 18446744073709551616 = l at *
    generalize -x = X at *
    have HQ : Hid (WB (w.alloc (.cells #[.int .u64 h, .int .u64 l] 48)) w.heap.size h l) := heap_newW w _
    have HB := veil (below_newW w (.cells #[.int .u64 h, .int .u64 l] 48))
    have HZ : Hid ((w.alloc (.cells #[.int .u64 h, .int .u64 l] 48)).heap.size = w.heap.size + 1) := by show _ = _; simp
    go_enter Tryd.func73, Tryd.ntmps73
    go_wp2_with fail
    refine (unveil HL _).mono ?_
    rintro e W ⟨rfl, hb⟩
    have hz := unveil HZ
    have hq := (unveil HQ).below hb (by omega)
    obtain ⟨c0, c1⟩ := hq.two
    have HBB := veil ((unveil HB).trans (hb.mono (by omega)))
    clear hq hz hb HZ HQ HB
    go_wp2_with fail
    refine (unveil HN _).mono ?_
    rintro e W2 ⟨rfl, hb⟩
    have HB2 := veil ((unveil HBB).trans (hb.mono (unveil HBB).size))
    clear hb HBB
    have hf := fun W => fldW1 (.int .u64 rh) (.int .u64 X) W
    go_wp2
    go_ret
    exact ⟨rfl, unveil HB2⟩
set_option maxRecDepth 100000 in
set_option maxHeartbeats 1000000 in
theorem bitsOf_any (k : Int) (w : World) : Calls Tryd.prog 48 #[.int .i64 k] w fun e w' => e = .returned (.int .u64 (8 * sizM k)) ∧ w' = w := by
  have HS := veil (fun W => Size_any k W)
  have hs : sizM k = 0 ∨ sizM k = 1 ∨ sizM k = 2 ∨ sizM k = 4 ∨ sizM k = 8 := by
    unfold sizM
    repeat' split
    all_goals simp
  generalize sizM k = S at *
  rcases hs with rfl | rfl | rfl | rfl | rfl
  all_goals (
    go_enter Tryd.func48, Tryd.ntmps48
    go_wp2_with (go_at_call 51; refine (unveil HS _).mono ?_; rintro e w' ⟨rfl, hw'⟩; obtain rfl := hw'.symm)
    go_ret
    exact ⟨by first | rfl | (simp [IntKind.wrap_u64]; done), rfl⟩)
end Go.Proofs.YtobfpdhfmbpidaaDoor
