/-
  The walks of KindTells, KindTo, KindUsual, KindTurns, KindNarrow.
-/
import Derived.Test.YtlhgkhhncgmpoaaHc
import Derived.Test.YtlhgkhhncgmpoaaHd
import Derived.ProofKit
namespace Go.Proofs.Ytlhgkhhncgmpoaa
open Go Go.RowKit
set_option linter.unusedVariables false
set_option linter.unusedSimpArgs false

theorem i64_bounds {a : Int} (h : (Lit.int .i64 a).wf = true) : -9223372036854775808 ≤ a ∧ a ≤ 9223372036854775807 := by
  simp [Lit.wf, IntKind.min, IntKind.max, IntKind.bits, IntKind.signed] at h
  omega
set_option maxRecDepth 100000 in
set_option maxHeartbeats 4000000 in
theorem RName_any (k : Int) (w : World) : Calls Try.prog 17 #[.int .i64 k] w fun e w' => e = .returned (.string ⟨(namM k).toArray⟩) ∧ w' = w := by
  rcases ncases k with rfl | rfl | rfl | rfl | rfl | rfl | rfl | rfl | rfl | ⟨h0, h1, h2, h3, h4, h5, h6, h7, h8⟩
  all_goals (
    go_enter Try.func17, Try.ntmps17
    go_wp2
    go_ret
    refine ⟨?_, rfl⟩
    first | rfl | simp [namM, *])
set_option maxRecDepth 100000 in
set_option maxHeartbeats 4000000 in
theorem tells_walk (a0 : Int) (w : World) : Calls Try.prog 3 #[.int .i64 a0] w fun e w' => e = .returned (.bool true) ∧ Grown w w' := by
  have HH := veil (kshown_any w)
  have H1 := veil (Promoted_any a0 w)
  have H2 := veil (RPromoted_any a0 w)
  have H3 := veil (Size_any a0 w)
  have H4 := veil (RSize_any a0 w)
  have H5 := veil (Unsigned_any a0 w)
  have H6 := veil (RUnsigned_any a0 w)
  have H7 := veil (Name_any a0 w)
  have H8 := veil (RName_any a0 w)
  generalize proM a0 = P at *
  generalize erM a0 = E at *
  generalize sizM a0 = S at *
  generalize unsM a0 = U at *
  generalize (⟨(namM a0).toArray⟩ : ByteArray) = N at *
  go_enter Try.func3, Try.ntmps3
  go_wp2_with (first
    | (go_at_call 9; refine (unveil HH).mono ?_; rintro e w' ⟨rfl, hw'⟩; obtain rfl := hw'.symm)
    | (go_at_call 10; refine (unveil H1).mono ?_; rintro e w' ⟨rfl, hw'⟩; obtain rfl := hw'.symm)
    | (go_at_call 11; refine (unveil H2).mono ?_; rintro e w' ⟨rfl, hw'⟩; obtain rfl := hw'.symm)
    | (go_at_call 12; refine (unveil H3).mono ?_; rintro e w' ⟨rfl, hw'⟩; obtain rfl := hw'.symm)
    | (go_at_call 13; refine (unveil H4).mono ?_; rintro e w' ⟨rfl, hw'⟩; obtain rfl := hw'.symm)
    | (go_at_call 14; refine (unveil H5).mono ?_; rintro e w' ⟨rfl, hw'⟩; obtain rfl := hw'.symm)
    | (go_at_call 15; refine (unveil H6).mono ?_; rintro e w' ⟨rfl, hw'⟩; obtain rfl := hw'.symm)
    | (go_at_call 16; refine (unveil H7).mono ?_; rintro e w' ⟨rfl, hw'⟩; obtain rfl := hw'.symm)
    | (go_at_call 17; refine (unveil H8).mono ?_; rintro e w' ⟨rfl, hw'⟩; obtain rfl := hw'.symm))
  go_ret
  exact ⟨rfl, Grown.refl _⟩
set_option maxRecDepth 100000 in
set_option maxHeartbeats 4000000 in
theorem to_walk (a0 a1 : Int) (h1 : -9223372036854775808 ≤ a0) (h2 : a0 ≤ 9223372036854775807) (w : World) : Calls Try.prog 4 #[.int .i64 a0, .int .i64 a1] w fun e w' => e = .returned (.bool true) ∧ Grown w w' := by
  have HH := veil (kshown_any w)
  have H1 := veil (To_any a0 a1 w h1 h2)
  have H2 := veil (RTo_any a0 a1 w h1 h2)
  have H3 := veil (Lies_any a0 a1 w h1 h2)
  have H4 := veil (RLies_any a0 a1 w h1 h2)
  generalize toM a0 a1 = P at *
  generalize erM a1 = E at *
  generalize liesM a0 a1 = S at *
  go_enter Try.func4, Try.ntmps4
  go_wp2_with (first
    | (go_at_call 9; refine (unveil HH).mono ?_; rintro e w' ⟨rfl, hw'⟩; obtain rfl := hw'.symm)
    | (go_at_call 18; refine (unveil H1).mono ?_; rintro e w' ⟨rfl, hw'⟩; obtain rfl := hw'.symm)
    | (go_at_call 19; refine (unveil H2).mono ?_; rintro e w' ⟨rfl, hw'⟩; obtain rfl := hw'.symm)
    | (go_at_call 20; refine (unveil H3).mono ?_; rintro e w' ⟨rfl, hw'⟩; obtain rfl := hw'.symm)
    | (go_at_call 21; refine (unveil H4).mono ?_; rintro e w' ⟨rfl, hw'⟩; obtain rfl := hw'.symm))
  go_ret
  exact ⟨rfl, Grown.refl _⟩
set_option maxRecDepth 100000 in
set_option maxHeartbeats 4000000 in
theorem usual_walk (a0 a1 : Int) (w : World) : Calls Try.prog 5 #[.int .i64 a0, .int .i64 a1] w fun e w' => e = .returned (.bool true) ∧ Grown w w' := by
  have HH := veil (kshown_any w)
  have H1 := veil (Usual_any a0 a1 w)
  have H2 := veil (RUsual_any a0 a1 w)
  generalize usuM a0 a1 = P at *
  generalize uerM a0 a1 = E at *
  go_enter Try.func5, Try.ntmps5
  go_wp2_with (first
    | (go_at_call 9; refine (unveil HH).mono ?_; rintro e w' ⟨rfl, hw'⟩; obtain rfl := hw'.symm)
    | (go_at_call 22; refine (unveil H1).mono ?_; rintro e w' ⟨rfl, hw'⟩; obtain rfl := hw'.symm)
    | (go_at_call 23; refine (unveil H2).mono ?_; rintro e w' ⟨rfl, hw'⟩; obtain rfl := hw'.symm))
  go_ret
  exact ⟨rfl, Grown.refl _⟩
theorem pro2 (k : Int) (h : kiM k = true) : sizM k ≤ sizM (proM k) := by
  rcases kcases k with rfl | rfl | rfl | rfl | rfl | rfl | rfl | rfl | ⟨i1, i2, i3, i4, i5, i6, i7, i8⟩
  all_goals first | decide | (simp [kiM, *] at h)
theorem usu_turn (a b : Int) (ha : kiM a = true) (hb : kiM b = true) : usuM b a = usuM a b ∧ proM (usuM a b) = usuM a b ∧ erM (usuM a b) = 0 ∧ sizM a ≤ sizM (usuM a b) ∧ sizM b ≤ sizM (usuM a b) := by
  have e1 := pro2 a ha
  have e2 := pro2 b hb
  unfold usuM
  simp only [ha, hb, Bool.and_self, if_true]
  have key : ∀ x y : Int, (x = 5 ∨ x = 6 ∨ x = 7 ∨ x = 8) → (y = 5 ∨ y = 6 ∨ y = 7 ∨ y = 8) → usu2 y x = usu2 x y ∧ proM (usu2 x y) = usu2 x y ∧ erM (usu2 x y) = 0 ∧ sizM x ≤ sizM (usu2 x y) ∧ sizM y ≤ sizM (usu2 x y) := by
    rintro x y (rfl | rfl | rfl | rfl) (rfl | rfl | rfl | rfl) <;> decide
  obtain ⟨k1, k2, k3, k4, k5⟩ := key _ _ (pro_cases ha) (pro_cases hb)
  exact ⟨k1, k2, k3, by omega, by omega⟩
set_option maxRecDepth 100000 in
set_option maxHeartbeats 4000000 in
theorem turns_walk (a0 a1 : Int) (w : World) : Calls Try.prog 7 #[.int .i64 a0, .int .i64 a1] w fun e w' => e = .returned (.bool true) ∧ Grown w w' := by
  have HH := veil (kshown_any w)
  have H1 := veil (Usual_any a0 a1 w)
  have H2 := veil (Usual_any a1 a0 w)
  cases hk : kiM a0 && kiM a1
  · have hk' : (kiM a1 && kiM a0) = false := by rw [Bool.and_comm]; exact hk
    rw [show uerM a0 a1 = 80 by simp [uerM, hk]] at H1
    rw [show uerM a1 a0 = 80 by simp [uerM, hk']] at H2
    clear hk hk'
    generalize usuM a0 a1 = P at *
    generalize usuM a1 a0 = Q at *
    go_enter Try.func7, Try.ntmps7
    go_wp2_with (first
      | (go_at_call 9; refine (unveil HH).mono ?_; rintro e w' ⟨rfl, hw'⟩; obtain rfl := hw'.symm)
      | (go_at_call 22; (first | with_reducible refine (unveil H1).mono ?_ | with_reducible refine (unveil H2).mono ?_); rintro e w' ⟨rfl, hw'⟩; obtain rfl := hw'.symm))
    go_ret
    exact ⟨rfl, Grown.refl _⟩
  · rw [Bool.and_eq_true] at hk
    obtain ⟨ka, kb⟩ := hk
    obtain ⟨e1, e2, e3, e4, e5⟩ := usu_turn a0 a1 ka kb
    rw [show uerM a0 a1 = 0 by simp [uerM, ka, kb]] at H1
    rw [show uerM a1 a0 = 0 by simp [uerM, ka, kb], e1] at H2
    have H3 := veil (Promoted_any (usuM a0 a1) w)
    rw [e2, e3] at H3
    have H4 := veil (Size_any (usuM a0 a1) w)
    have H5 := veil (Size_any a0 w)
    have H6 := veil (Size_any a1 w)
    clear e1 e2 e3 ka kb
    generalize sizM (usuM a0 a1) = S at *
    generalize sizM a0 = S0 at *
    generalize sizM a1 = S1 at *
    obtain ⟨P, hP⟩ : ∃ P, usuM a0 a1 = P := ⟨_, rfl⟩
    rw [hP] at H1 H2 H3 H4
    clear hP
    go_enter Try.func7, Try.ntmps7
    go_wp2_with (first
      | (go_at_call 9; refine (unveil HH).mono ?_; rintro e w' ⟨rfl, hw'⟩; obtain rfl := hw'.symm)
      | (go_at_call 22; (first | with_reducible refine (unveil H1).mono ?_ | with_reducible refine (unveil H2).mono ?_); rintro e w' ⟨rfl, hw'⟩; obtain rfl := hw'.symm)
      | (go_at_call 10; refine (unveil H3).mono ?_; rintro e w' ⟨rfl, hw'⟩; obtain rfl := hw'.symm)
      | (go_at_call 12; (first | with_reducible refine (unveil H4).mono ?_ | with_reducible refine (unveil H5).mono ?_ | with_reducible refine (unveil H6).mono ?_); rintro e w' ⟨rfl, hw'⟩; obtain rfl := hw'.symm))
    go_ret
    refine ⟨?_, Grown.refl _⟩
    simp [e4, e5]
theorem to_narrow (v a b : Int) (ha : kiM a = true) (hb : kiM b = true) (h : sizM b ≤ sizM a) : toM (toM v a) b = toM v b := by
  rcases kcases a with rfl | rfl | rfl | rfl | rfl | rfl | rfl | rfl | ⟨i1, i2, i3, i4, i5, i6, i7, i8⟩
  case inr.inr.inr.inr.inr.inr.inr.inr => simp [kiM, *] at ha
  all_goals (
    rcases kcases b with rfl | rfl | rfl | rfl | rfl | rfl | rfl | rfl | ⟨i1, i2, i3, i4, i5, i6, i7, i8⟩
    case inr.inr.inr.inr.inr.inr.inr.inr => simp [kiM, *] at hb
    all_goals first
      | (exfalso; revert h; decide)
      | (simp only [toM, Int.reduceBEq, Bool.false_eq_true, if_false, if_true]; done)
      | (simp only [toM, Int.reduceBEq, Bool.false_eq_true, if_false, if_true]; omega))
set_option maxRecDepth 100000 in
set_option maxHeartbeats 4000000 in
theorem narrow_walk (a0 a1 a2 : Int) (h1 : -9223372036854775808 ≤ a0) (h2 : a0 ≤ 9223372036854775807) (w : World) : Calls Try.prog 8 #[.int .i64 a0, .int .i64 a1, .int .i64 a2] w fun e w' => e = .returned (.bool true) ∧ Grown w w' := by
  have HH := veil (kshown_any w)
  have H1 := veil (To_any a0 a1 w h1 h2)
  have H2 := veil (To_any (toM a0 a1) a2 w (toM_in a0 a1 h1 h2).1 (toM_in a0 a1 h1 h2).2)
  have H3 := veil (To_any a0 a2 w h1 h2)
  have HN := veil (to_narrow a0 a1 a2)
  have H4 := veil (Size_any a1 w)
  have H5 := veil (Size_any a2 w)
  unfold erM at H1 H2 H3
  generalize toM (toM a0 a1) a2 = Y at *
  generalize toM a0 a1 = X at *
  generalize toM a0 a2 = Z at *
  generalize sizM a1 = S1 at *
  generalize sizM a2 = S2 at *
  generalize kiM a1 = K1 at *
  generalize kiM a2 = K2 at *
  clear h1 h2
  cases K1
  · cases K2
    all_goals (
      go_enter Try.func8, Try.ntmps8
      go_wp2_with (first
        | (go_at_call 9; refine (unveil HH).mono ?_; rintro e w' ⟨rfl, hw'⟩; obtain rfl := hw'.symm)
        | (go_at_call 18; (first | with_reducible refine (unveil H1).mono ?_ | with_reducible refine (unveil H2).mono ?_ | with_reducible refine (unveil H3).mono ?_); rintro e w' ⟨rfl, hw'⟩; obtain rfl := hw'.symm))
      go_ret
      exact ⟨rfl, Grown.refl _⟩)
  · cases K2
    · go_enter Try.func8, Try.ntmps8
      go_wp2_with (first
        | (go_at_call 9; refine (unveil HH).mono ?_; rintro e w' ⟨rfl, hw'⟩; obtain rfl := hw'.symm)
        | (go_at_call 18; (first | with_reducible refine (unveil H1).mono ?_ | with_reducible refine (unveil H2).mono ?_ | with_reducible refine (unveil H3).mono ?_); rintro e w' ⟨rfl, hw'⟩; obtain rfl := hw'.symm))
      go_ret
      exact ⟨rfl, Grown.refl _⟩
    · cases hq : decide (S1 < S2)
      · obtain rfl : Y = Z := unveil HN rfl rfl (by simpa using hq)
        clear HN
        go_enter Try.func8, Try.ntmps8
        go_wp2_with (first
          | (go_at_call 9; refine (unveil HH).mono ?_; rintro e w' ⟨rfl, hw'⟩; obtain rfl := hw'.symm)
          | (go_at_call 18; (first | with_reducible refine (unveil H1).mono ?_ | with_reducible refine (unveil H2).mono ?_ | with_reducible refine (unveil H3).mono ?_); rintro e w' ⟨rfl, hw'⟩; obtain rfl := hw'.symm)
          | (go_at_call 12; (first | with_reducible refine (unveil H4).mono ?_ | with_reducible refine (unveil H5).mono ?_); rintro e w' ⟨rfl, hw'⟩; obtain rfl := hw'.symm))
        go_ret
        exact ⟨rfl, Grown.refl _⟩
      · go_enter Try.func8, Try.ntmps8
        go_wp2_with (first
          | (go_at_call 9; refine (unveil HH).mono ?_; rintro e w' ⟨rfl, hw'⟩; obtain rfl := hw'.symm)
          | (go_at_call 18; (first | with_reducible refine (unveil H1).mono ?_ | with_reducible refine (unveil H2).mono ?_ | with_reducible refine (unveil H3).mono ?_); rintro e w' ⟨rfl, hw'⟩; obtain rfl := hw'.symm)
          | (go_at_call 12; (first | with_reducible refine (unveil H4).mono ?_ | with_reducible refine (unveil H5).mono ?_); rintro e w' ⟨rfl, hw'⟩; obtain rfl := hw'.symm))
        go_ret
        exact ⟨rfl, Grown.refl _⟩
end Go.Proofs.Ytlhgkhhncgmpoaa
