/-
  The document's own of package kind: Is, Size, Unsigned, Promoted, To, Lies, Usual.
-/
import Derived.Test.YtobfpdhfmbpidaaDoorHb
namespace Go.Proofs.YtobfpdhfmbpidaaDoor
open Go Go.RowKit
set_option linter.unusedVariables false
set_option linter.unusedSimpArgs false

set_option maxRecDepth 100000 in
set_option maxHeartbeats 4000000 in
theorem Lies_any (v k : Int) (w : World) (h1 : -9223372036854775808 ≤ v) (h2 : v ≤ 9223372036854775807) : Calls Tryd.prog 28 #[.int .i64 v, .int .i64 k] w fun e w' => e = .returned (.bool (liesM v k)) ∧ w' = w := by
  have HT := veil (To_any v k w h1 h2)
  unfold liesM
  unfold erM at HT
  generalize toM v k = T at *
  generalize kiM k = K at *
  cases K <;> cases hq : T == v
  all_goals (
    go_enter Tryd.func28, Tryd.ntmps28
    go_wp2_with (go_at_call 27; refine (unveil HT).mono ?_; rintro e w' ⟨rfl, hw'⟩; obtain rfl := hw'.symm)
    go_ret
    exact ⟨by simp, rfl⟩)
set_option maxRecDepth 100000 in
set_option maxHeartbeats 4000000 in
theorem RIs_any (k : Int) (w : World) : Calls Tryd.prog 68 #[.int .i64 k] w fun e w' => e = .returned (.bool (kiM k)) ∧ w' = w := by
  by_cases h0 : 1 ≤ k
  · by_cases h9 : k ≤ 8
    · obtain rfl | rfl | rfl | rfl | rfl | rfl | rfl | rfl : k = 1 ∨ k = 2 ∨ k = 3 ∨ k = 4 ∨ k = 5 ∨ k = 6 ∨ k = 7 ∨ k = 8 := by omega
      all_goals (
        go_enter Tryd.func68, Tryd.ntmps68
        go_wp2
        go_ret
        exact ⟨rfl, rfl⟩)
    · go_enter Tryd.func68, Tryd.ntmps68
      go_wp2
      go_ret
      refine ⟨?_, rfl⟩
      rcases kcases k with rfl | rfl | rfl | rfl | rfl | rfl | rfl | rfl | ⟨i1, i2, i3, i4, i5, i6, i7, i8⟩ <;> first | omega | simp [kiM, *]
  · go_enter Tryd.func68, Tryd.ntmps68
    go_wp2
    go_ret
    refine ⟨?_, rfl⟩
    rcases kcases k with rfl | rfl | rfl | rfl | rfl | rfl | rfl | rfl | ⟨i1, i2, i3, i4, i5, i6, i7, i8⟩ <;> first | omega | simp [kiM, *]
set_option maxRecDepth 100000 in
set_option maxHeartbeats 4000000 in
theorem RSize_any (k : Int) (w : World) : Calls Tryd.prog 40 #[.int .i64 k] w fun e w' => e = .returned (.int .i64 (sizM k)) ∧ w' = w := by
  rcases kcases k with rfl | rfl | rfl | rfl | rfl | rfl | rfl | rfl | ⟨h1, h2, h3, h4, h5, h6, h7, h8⟩
  all_goals (
    go_enter Tryd.func40, Tryd.ntmps40
    go_wp2
    go_ret
    refine ⟨?_, rfl⟩
    first | rfl | simp [sizM, *])
set_option maxRecDepth 100000 in
set_option maxHeartbeats 4000000 in
theorem RUnsigned_any (k : Int) (w : World) : Calls Tryd.prog 46 #[.int .i64 k] w fun e w' => e = .returned (.bool (unsM k)) ∧ w' = w := by
  rcases kcases k with rfl | rfl | rfl | rfl | rfl | rfl | rfl | rfl | ⟨h1, h2, h3, h4, h5, h6, h7, h8⟩
  all_goals (
    go_enter Tryd.func46, Tryd.ntmps46
    go_wp2
    go_ret
    refine ⟨?_, rfl⟩
    first | rfl | simp [unsM, *])
set_option maxRecDepth 100000 in
set_option maxHeartbeats 4000000 in
theorem RPromoted_any (k : Int) (w : World) : Calls Tryd.prog 52 #[.int .i64 k] w fun e w' => e = .returned (.tuple #[.int .i64 (proM k), .int .i64 (erM k)]) ∧ w' = w := by
  have HI := veil (RIs_any k)
  have HS := veil (RSize_any k)
  rcases kcases k with rfl | rfl | rfl | rfl | rfl | rfl | rfl | rfl | ⟨h1, h2, h3, h4, h5, h6, h7, h8⟩
  all_goals (
    first
      | rw [show kiM _ = true from rfl] at HI
      | rw [show kiM _ = false by simp [kiM, *]] at HI
    try simp only [sizM, Int.reduceBEq, Bool.false_eq_true, if_false, if_true] at HS
    go_enter Tryd.func52, Tryd.ntmps52
    go_wp2_with (first
      | (go_at_call 68; refine (unveil HI _).mono ?_; rintro e w' ⟨rfl, hw'⟩; obtain rfl := hw'.symm)
      | (go_at_call 40; refine (unveil HS _).mono ?_; rintro e w' ⟨rfl, hw'⟩; obtain rfl := hw'.symm))
    go_ret2
    refine ⟨?_, rfl⟩
    first | rfl | simp [proM, erM, kiM, *])
set_option maxRecDepth 100000 in
set_option maxHeartbeats 4000000 in
theorem RTo_any (v k : Int) (w : World) (h1 : -9223372036854775808 ≤ v) (h2 : v ≤ 9223372036854775807) : Calls Tryd.prog 42 #[.int .i64 v, .int .i64 k] w fun e w' => e = .returned (.tuple #[.int .i64 (toM v k), .int .i64 (erM k)]) ∧ w' = w := by
  rcases kcases k with rfl | rfl | rfl | rfl | rfl | rfl | rfl | rfl | ⟨h1, h2, h3, h4, h5, h6, h7, h8⟩
  all_goals (
    go_enter Tryd.func42, Tryd.ntmps42
    go_wp2
    go_ret2
    refine ⟨?_, rfl⟩
    first | rfl | (simp [toM, erM, kiM, *]; done) | (simp [toM, erM, kiM, i8w, i16w, u16w, wrap64, wrap32, IntKind.wrap_u8, IntKind.wrap_u32]; omega))
set_option maxRecDepth 100000 in
set_option maxHeartbeats 4000000 in
theorem RLies_any (v k : Int) (w : World) (h1 : -9223372036854775808 ≤ v) (h2 : v ≤ 9223372036854775807) : Calls Tryd.prog 39 #[.int .i64 v, .int .i64 k] w fun e w' => e = .returned (.bool (liesM v k)) ∧ w' = w := by
  have HT := veil (RTo_any v k w h1 h2)
  unfold liesM
  unfold erM at HT
  generalize toM v k = T at *
  generalize kiM k = K at *
  rw [show (T == v) = (v == T) from BEq.comm]
  cases K <;> cases hq : v == T
  all_goals (
    go_enter Tryd.func39, Tryd.ntmps39
    go_wp2_with (go_at_call 42; refine (unveil HT).mono ?_; rintro e w' ⟨rfl, hw'⟩; obtain rfl := hw'.symm)
    go_ret
    exact ⟨by simp, rfl⟩)
theorem pro_cases {k : Int} (h : kiM k = true) : proM k = 5 ∨ proM k = 6 ∨ proM k = 7 ∨ proM k = 8 := by
  rcases kcases k with rfl | rfl | rfl | rfl | rfl | rfl | rfl | rfl | ⟨i1, i2, i3, i4, i5, i6, i7, i8⟩
  all_goals first | decide | (simp [kiM, *] at h)
set_option maxRecDepth 100000 in
set_option maxHeartbeats 8000000 in
theorem RUsual_any (a b : Int) (w : World) : Calls Tryd.prog 53 #[.int .i64 a, .int .i64 b] w fun e w' => e = .returned (.tuple #[.int .i64 (usuM a b), .int .i64 (uerM a b)]) ∧ w' = w := by
  have HA := veil (RPromoted_any a)
  have HB := veil (RPromoted_any b)
  have HU := veil RUnsigned_any
  have HS := veil RSize_any
  unfold usuM uerM
  unfold erM at HA HB
  cases ka : kiM a
  · rw [ka] at HA
    generalize proM a = A at *
    generalize proM b = B at *
    generalize kiM b = KB at *
    cases KB
    all_goals (
      go_enter Tryd.func53, Tryd.ntmps53
      go_wp2_with (go_at_call 52; (first | with_reducible refine (unveil HA _).mono ?_ | with_reducible refine (unveil HB _).mono ?_); rintro e w' ⟨rfl, hw'⟩; obtain rfl := hw'.symm)
      go_ret2
      exact ⟨rfl, rfl⟩)
  · rw [ka] at HA
    cases kb : kiM b
    · rw [kb] at HB
      generalize proM a = A at *
      generalize proM b = B at *
      go_enter Tryd.func53, Tryd.ntmps53
      go_wp2_with (go_at_call 52; (first | with_reducible refine (unveil HA _).mono ?_ | with_reducible refine (unveil HB _).mono ?_); rintro e w' ⟨rfl, hw'⟩; obtain rfl := hw'.symm)
      go_ret2
      exact ⟨rfl, rfl⟩
    · rw [kb] at HB
      simp only [Bool.and_self, if_true]
      simp only [if_true] at HA HB
      rcases pro_cases ka with pa | pa | pa | pa <;> rcases pro_cases kb with pb | pb | pb | pb
      all_goals (
        rw [pa, pb]
        rw [pa] at HA
        rw [pb] at HB
        clear pa pb ka kb
        go_enter Tryd.func53, Tryd.ntmps53
        go_wp2_with (first
          | (go_at_call 52; (first | with_reducible refine (unveil HA _).mono ?_ | with_reducible refine (unveil HB _).mono ?_); rintro e w' ⟨rfl, hw'⟩; obtain rfl := hw'.symm)
          | (go_at_call 46; refine (unveil HU _ _).mono ?_; rintro e w' ⟨rfl, hw'⟩; obtain rfl := hw'.symm; simp only [unsM, Int.reduceBEq, Bool.false_eq_true, if_false, if_true])
          | (go_at_call 40; refine (unveil HS _ _).mono ?_; rintro e w' ⟨rfl, hw'⟩; obtain rfl := hw'.symm; simp only [sizM, Int.reduceBEq, Bool.false_eq_true, if_false, if_true]))
        go_ret2
        exact ⟨rfl, rfl⟩)
end Go.Proofs.YtobfpdhfmbpidaaDoor
