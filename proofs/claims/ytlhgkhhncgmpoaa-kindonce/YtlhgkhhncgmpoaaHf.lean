/-
  The walk of KindOnce.
-/
import Derived.Test.YtlhgkhhncgmpoaaHe
import Derived.Deep.DeepCutAuto
namespace Go.Proofs.Ytlhgkhhncgmpoaa
open Go Go.RowKit
set_option linter.unusedVariables false
set_option linter.unusedSimpArgs false

theorem to_twice (v k : Int) (hk : kiM k = true) : toM (toM v k) k = toM v k := to_narrow v k k hk hk (Int.le_refl _)
theorem u64w (v : Int) : IntKind.u64.wrap v = v % 18446744073709551616 := IntKind.wrap_u64 v
set_option maxRecDepth 100000 in
set_option maxHeartbeats 4000000 in
theorem once_yes (v k T S : Int) (U : Bool) (w : World) (h1 : -9223372036854775808 ≤ v) (h2 : v ≤ 9223372036854775807) (t1 : -9223372036854775808 ≤ T) (t2 : T ≤ 9223372036854775807)
    (hS : (S = 1 ∧ (v - T) % 256 = 0) ∨ (S = 2 ∧ (v - T) % 65536 = 0) ∨ (S = 4 ∧ (v - T) % 4294967296 = 0) ∨ (S = 8 ∧ v - T = 0)) (hU : 0 ≤ T ∨ U = false ∨ S = 8)
    (HH : Hid (Calls Try.prog 9 #[] w fun e w' => e = .returned (.bool true) ∧ w' = w))
    (H1 : Hid (Calls Try.prog 18 #[.int .i64 v, .int .i64 k] w fun e w' => e = .returned (.tuple #[.int .i64 T, .int .i64 0]) ∧ w' = w))
    (H2 : Hid (Calls Try.prog 18 #[.int .i64 T, .int .i64 k] w fun e w' => e = .returned (.tuple #[.int .i64 T, .int .i64 0]) ∧ w' = w))
    (H3 : Hid (∀ x, (x = T ∨ x = v) → ∀ W, Calls Try.prog 20 #[.int .i64 x, .int .i64 k] W fun e w' => e = .returned (.bool (x == T)) ∧ w' = W))
    (H4 : Hid (Calls Try.prog 12 #[.int .i64 k] w fun e w' => e = .returned (.int .i64 S) ∧ w' = w))
    (H6 : Hid (∀ W, Calls Try.prog 14 #[.int .i64 k] W fun e w' => e = .returned (.bool U) ∧ w' = W)) :
    Calls Try.prog 6 #[.int .i64 v, .int .i64 k] w fun e w' => e = .returned (.bool true) ∧ Grown w w' := by
  have key : (S = 1 ∧ Hid ((IntKind.u64.wrap (IntKind.u64.wrap v * 72057594037927936) == IntKind.u64.wrap (IntKind.u64.wrap T * 72057594037927936)) = true)) ∨ (S = 2 ∧ Hid ((IntKind.u64.wrap (IntKind.u64.wrap v * 281474976710656) == IntKind.u64.wrap (IntKind.u64.wrap T * 281474976710656)) = true)) ∨ (S = 4 ∧ Hid ((IntKind.u64.wrap (IntKind.u64.wrap v * 4294967296) == IntKind.u64.wrap (IntKind.u64.wrap T * 4294967296)) = true)) ∨ (S = 8 ∧ Hid (v = T)) := by
    rcases hS with ⟨a, b⟩ | ⟨a, b⟩ | ⟨a, b⟩ | ⟨a, b⟩
    · exact Or.inl ⟨a, by show (_ == _) = true; simp only [u64w, beq_iff_eq]; omega⟩
    · exact Or.inr (Or.inl ⟨a, by show (_ == _) = true; simp only [u64w, beq_iff_eq]; omega⟩)
    · exact Or.inr (Or.inr (Or.inl ⟨a, by show (_ == _) = true; simp only [u64w, beq_iff_eq]; omega⟩))
    · exact Or.inr (Or.inr (Or.inr ⟨a, by show v = T; omega⟩))
  have HB := veil (And.intro h1 (And.intro h2 (And.intro t1 t2)))
  clear h1 h2 t1 t2 hS
  have hC : (0 ≤ T ∧ True) ∨ (T < 0 ∧ (U = false ∨ (U = true ∧ S = 8))) := by
    by_cases h0 : 0 ≤ T
    · exact Or.inl ⟨h0, trivial⟩
    · refine Or.inr ⟨by omega, ?_⟩
      cases U
      · exact Or.inl rfl
      · rcases hU with h | h | h
        · exact absurd h h0
        · cases h
        · exact Or.inr ⟨rfl, h⟩
  clear hU
  rcases key with ⟨rfl, HK⟩ | ⟨rfl, HK⟩ | ⟨rfl, HK⟩ | ⟨rfl, HK⟩
  case inr.inr.inr =>
    obtain rfl := unveil HK
    clear HK
    rcases hC with ⟨h0, _⟩ | ⟨h0, rfl | ⟨rfl, _⟩⟩
    all_goals (
      go_enter Try.func6, Try.ntmps6
      go_upto_region 7 with (first
        | (go_at_call 9; refine (unveil HH).mono ?_; rintro e w' ⟨rfl, hw'⟩; obtain rfl := hw'.symm)
        | (go_at_call 18; (first | with_reducible refine (unveil H1).mono ?_ | with_reducible refine (unveil H2).mono ?_); rintro e w' ⟨rfl, hw'⟩; obtain rfl := hw'.symm)
        | (go_at_call 12; refine (unveil H4).mono ?_; rintro e w' ⟨rfl, hw'⟩; obtain rfl := hw'.symm))
      go_quiet ((first
        | (go_at_call 20; exact Calls.quiet_of_same (unveil H3 _ (by simp) _))
        | (go_at_call 14; exact Calls.quiet_of_same (unveil H6 _))))
      go_wp2
      go_ret
      exact ⟨rfl, by repeat (first | exact Grown.refl _ | apply Grown.drewN | apply Grown.drew)⟩)
  all_goals (
    have hk := unveil HK
    cases hq : v == T
    all_goals (
      rcases hC with ⟨h0, _⟩ | ⟨h0, rfl | ⟨rfl, h⟩⟩
      case inr.inr => exact absurd h (by decide)
      all_goals (
        go_enter Try.func6, Try.ntmps6
        go_upto_region 7 with (first
          | (go_at_call 9; refine (unveil HH).mono ?_; rintro e w' ⟨rfl, hw'⟩; obtain rfl := hw'.symm)
          | (go_at_call 18; (first | with_reducible refine (unveil H1).mono ?_ | with_reducible refine (unveil H2).mono ?_); rintro e w' ⟨rfl, hw'⟩; obtain rfl := hw'.symm)
          | (go_at_call 12; refine (unveil H4).mono ?_; rintro e w' ⟨rfl, hw'⟩; obtain rfl := hw'.symm))
        go_quiet ((first
          | (go_at_call 20; exact Calls.quiet_of_same (unveil H3 _ (by simp) _))
          | (go_at_call 14; exact Calls.quiet_of_same (unveil H6 _))))
        go_wp2
        go_ret
        exact ⟨rfl, by repeat (first | exact Grown.refl _ | apply Grown.drewN | apply Grown.drew)⟩)))
set_option maxRecDepth 100000 in
set_option maxHeartbeats 4000000 in
theorem once_walk (a0 a1 : Int) (h1 : -9223372036854775808 ≤ a0) (h2 : a0 ≤ 9223372036854775807) (w : World) : Calls Try.prog 6 #[.int .i64 a0, .int .i64 a1] w fun e w' => e = .returned (.bool true) ∧ Grown w w' := by
  have HH := veil (kshown_any w)
  have H1 := veil (To_any a0 a1 w h1 h2)
  have H2 := veil (To_any (toM a0 a1) a1 w (toM_in a0 a1 h1 h2).1 (toM_in a0 a1 h1 h2).2)
  have H3 := veil (fun W => Lies_any a0 a1 W h1 h2)
  have H4 := veil (Size_any a1 w)
  cases hk : kiM a1
  · have e1 : erM a1 = 80 := by simp [erM, hk]
    have e2 : liesM a0 a1 = false := by simp [liesM, hk]
    have e3 : sizM a1 = 0 := by
      rcases kcases a1 with rfl | rfl | rfl | rfl | rfl | rfl | rfl | rfl | ⟨i1, i2, i3, i4, i5, i6, i7, i8⟩
      all_goals first | (exfalso; revert hk; decide) | simp [sizM, *]
    rw [e1] at H1
    rw [e2] at H3
    rw [e3] at H4
    clear e1 e2 e3 hk H2 h1 h2
    generalize toM a0 a1 = T at *
    go_enter Try.func6, Try.ntmps6
    go_wp2_with (first
      | (go_at_call 9; refine (unveil HH).mono ?_; rintro e w' ⟨rfl, hw'⟩; obtain rfl := hw'.symm)
      | (go_at_call 18; refine (unveil H1).mono ?_; rintro e w' ⟨rfl, hw'⟩; obtain rfl := hw'.symm)
      | (go_at_call 20; refine (unveil H3 _).mono ?_; rintro e w' ⟨rfl, hw'⟩; obtain rfl := hw'.symm)
      | (go_at_call 12; refine (unveil H4).mono ?_; rintro e w' ⟨rfl, hw'⟩; obtain rfl := hw'.symm))
    go_ret
    exact ⟨rfl, Grown.refl _⟩
  · have e1 : erM a1 = 0 := by simp [erM, hk]
    have H5 := veil (fun W => Lies_any (toM a0 a1) a1 W (toM_in a0 a1 h1 h2).1 (toM_in a0 a1 h1 h2).2)
    have H6 := veil (fun W => Unsigned_any a1 W)
    have e2 : liesM (toM a0 a1) a1 = true := by simp [liesM, hk, to_twice a0 a1 hk]
    have e3 : liesM a0 a1 = (a0 == toM a0 a1) := by rw [show (a0 == toM a0 a1) = (toM a0 a1 == a0) from BEq.comm]; simp [liesM, hk]
    rw [e1] at H1 H2
    rw [to_twice a0 a1 hk] at H2
    rw [e2] at H5
    rw [e3] at H3
    have hS : (sizM a1 = 1 ∧ (a0 - toM a0 a1) % 256 = 0) ∨ (sizM a1 = 2 ∧ (a0 - toM a0 a1) % 65536 = 0) ∨ (sizM a1 = 4 ∧ (a0 - toM a0 a1) % 4294967296 = 0) ∨ (sizM a1 = 8 ∧ a0 - toM a0 a1 = 0) := by
      rcases kcases a1 with rfl | rfl | rfl | rfl | rfl | rfl | rfl | rfl | ⟨i1, i2, i3, i4, i5, i6, i7, i8⟩
      case inr.inr.inr.inr.inr.inr.inr.inr => simp [kiM, *] at hk
      all_goals (
        simp only [sizM, toM, Int.reduceBEq, Bool.false_eq_true, if_false, if_true]
        first
          | (refine Or.inl ⟨by trivial, ?_⟩; omega)
          | (refine Or.inr (Or.inl ⟨by trivial, ?_⟩); omega)
          | (refine Or.inr (Or.inr (Or.inl ⟨by trivial, ?_⟩)); omega)
          | (refine Or.inr (Or.inr (Or.inr ⟨by trivial, ?_⟩)); omega))
    have hU : 0 ≤ toM a0 a1 ∨ unsM a1 = false ∨ sizM a1 = 8 := by
      rcases kcases a1 with rfl | rfl | rfl | rfl | rfl | rfl | rfl | rfl | ⟨i1, i2, i3, i4, i5, i6, i7, i8⟩
      case inr.inr.inr.inr.inr.inr.inr.inr => simp [kiM, *] at hk
      all_goals first | (right; left; rfl) | (right; right; rfl) | (left; simp only [toM, Int.reduceBEq, Bool.false_eq_true, if_false, if_true]; omega)
    have hT := toM_in a0 a1 h1 h2
    clear e1 e2 e3 hk
    generalize toM a0 a1 = T at *
    generalize unsM a1 = U at *
    generalize sizM a1 = S at *
    exact once_yes a0 a1 T S U w h1 h2 hT.1 hT.2 hS hU HH H1 H2 (veil (fun x hx W => hx.elim (fun h => by rw [h, beq_self_eq_true]; exact unveil H5 W) (fun h => by rw [h]; exact unveil H3 W))) H4 H6
end Go.Proofs.Ytlhgkhhncgmpoaa
