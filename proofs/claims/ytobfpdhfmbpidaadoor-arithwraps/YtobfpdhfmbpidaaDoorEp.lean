/-
  Package arith: defined, strict in plain numbers.
-/
import Derived.Test.YtobfpdhfmbpidaaDoorEm
import Derived.Test.YtobfpdhfmbpidaaDoorEo
namespace Go.Proofs.YtobfpdhfmbpidaaDoor
open Go Go.RowKit
set_option linter.unusedVariables false
set_option linter.unusedSimpArgs false
/-- Whether what is handed in may be reckoned with. -/
def defM (op k x y : Int) : Bool := if op == 4 then y != 0 else if op == 5 then (y != 0 && keepM (x.tdiv y) k) else if op == 6 then (!decide (x < 0) && inbM y k) else if op == 7 then inbM y k else true
theorem ne0_halves (y : Int) (h3 : -18446744073709551616 < y) (h4 : y < 18446744073709551616) : (!decide (y / 18446744073709551616 % 18446744073709551616 = 0) || !decide (y % 18446744073709551616 = 0)) = (y != 0) := by
  have e := W128_inj (x := y) (y := 0) (by omega) (by omega) (by omega) (by omega)
  rw [show (0 : Int) / 18446744073709551616 % 18446744073709551616 = 0 from rfl, show (0 : Int) % 18446744073709551616 = 0 from rfl] at e
  rw [← Bool.not_and, e]
  rfl
theorem tdiv_abs_le (x y : Int) : -absI x ≤ x.tdiv y ∧ x.tdiv y ≤ absI x := by
  have hx : 0 ≤ absI x := by unfold absI; split <;> omega
  have hy : 0 ≤ absI y := by unfold absI; split <;> omega
  obtain ⟨a, b⟩ := tdiv_in (absI x) (absI y) hx hy
  rw [tdiv_abs]
  split <;> omega
theorem definedW_any (op k x y : Int) (w : World) (h1 : -18446744073709551616 < x) (h2 : x < 18446744073709551616) (h3 : -18446744073709551616 < y) (h4 : y < 18446744073709551616) : Calls Tryd.prog 54 #[.int .i64 op, .int .i64 k, W128 x, W128 y] w fun e w' => e = .returned (.bool (defM op k x y)) ∧ Below w.heap.size w w' := by
  unfold defM
  by_cases e4 : op = 4
  · subst e4
    have h := def4 k (x / 18446744073709551616 % 18446744073709551616) (x % 18446744073709551616) (y / 18446744073709551616 % 18446744073709551616) (y % 18446744073709551616) w
    rw [ne0_halves y h3 h4] at h
    exact h
  by_cases e5 : op = 5
  · subst e5
    simp only [Int.reduceBEq, Bool.false_eq_true, if_false, if_true]
    cases hy : y != 0
    · have h := def5no k (x / 18446744073709551616 % 18446744073709551616) (x % 18446744073709551616) (y / 18446744073709551616 % 18446744073709551616) (y % 18446744073709551616) w (by rw [ne0_halves y h3 h4]; exact hy)
      exact h
    · have hb := tdiv_abs_le x y
      have ha := absI_in h1 h2
      have h := def5 k (x / 18446744073709551616 % 18446744073709551616) (x % 18446744073709551616) (y / 18446744073709551616 % 18446744073709551616) (y % 18446744073709551616) _ _ _ w (by rw [ne0_halves y h3 h4]; exact hy) (fun W => overW_any x y W h1 h2 h3 h4 (by simpa using hy)) (fun W => keepsW_any (x.tdiv y) k W (by omega) (by omega))
      exact h
  by_cases e6 : op = 6
  · subst e6
    simp only [Int.reduceBEq, Bool.false_eq_true, if_false, if_true]
    exact def6 k _ _ _ _ _ _ w (fun W => belowW_any x 0 W (by omega) (by omega) (by omega) (by omega)) (fun W => inBitsW_any y k W (by omega) (by omega))
  by_cases e7 : op = 7
  · subst e7
    simp only [Int.reduceBEq, Bool.false_eq_true, if_false, if_true]
    exact def7 k _ _ _ _ _ w (fun W => inBitsW_any y k W (by omega) (by omega))
  have q : ∀ n : Int, op ≠ n → (op == n) = false := fun n h => by simpa using h
  simp only [q 4 e4, q 5 e5, q 6 e6, q 7 e7, Bool.false_eq_true, if_false]
  exact defOther op k _ _ _ _ w (q 4 e4) (q 5 e5) (q 6 e6) (q 7 e7)
/-- .. of an unsigned kind whatever the number is. -/
theorem keepsW2 (n k : Int) (w : World) (h : unsM k = true ∨ (-170141183460469231731687303715884105728 ≤ n ∧ n < 170141183460469231731687303715884105728)) : Calls Tryd.prog 55 #[W128 n, .int .i64 k] w fun e w' => e = .returned (.bool (keepM n k)) ∧ Below w.heap.size w w' := by
  rcases h with h | h
  · have hb := w64_in n
    have HM : Hid (∀ W, Calls Tryd.prog 37 #[.int .i64 (IntKind.i64.wrap (n % 18446744073709551616)), .int .i64 k] W fun e w' => e = .returned (W128 (worM (toM (wrap64 n) k) k)) ∧ Below W.heap.size W w') := by
      intro W
      rw [i64w, w64_low]
      exact madeW_any (wrap64 n) k W hb.1 hb.2
    have q := keepsH (n / 18446744073709551616 % 18446744073709551616) (n % 18446744073709551616) k _ _ (unsM k) w (Unsigned_any k) HM
    rw [h, Bool.true_or] at q
    unfold keepM
    rw [h, Bool.true_or]
    exact q
  · exact keepsW_any n k w h.1 h.2
theorem abs_mul_le (x y : Int) (a b : Nat) (hx : -(a : Int) ≤ x ∧ x ≤ a) (hy : -(b : Int) ≤ y ∧ y ≤ b) : -((a * b : Nat) : Int) ≤ x * y ∧ x * y ≤ ((a * b : Nat) : Int) := by
  have h1 : x.natAbs ≤ a := by omega
  have h2 : y.natAbs ≤ b := by omega
  have h3 : (x * y).natAbs ≤ a * b := by rw [Int.natAbs_mul]; exact Nat.mul_le_mul h1 h2
  omega
theorem recM_in (op x y : Int) (h1 : -9223372036854775808 ≤ x) (h2 : x ≤ 9223372036854775808) (hs : op = 6 ∨ op = 7 → 0 ≤ y ∧ y < 64) (h3 : ¬ (op = 6 ∨ op = 7) → -9223372036854775808 ≤ y ∧ y ≤ 9223372036854775808) : -170141183460469231731687303715884105728 ≤ recM op x y ∧ recM op x y < 170141183460469231731687303715884105728 := by
  have ht : ∀ b, 0 ≤ tru b ∧ tru b ≤ 1 := by decide
  by_cases e6 : op = 6
  · subst e6
    obtain ⟨a, b⟩ := hs (.inl rfl)
    have p : (2 : Nat) ^ y.toNat ≤ 9223372036854775808 := Nat.pow_le_pow_right (n := 2) (j := 63) (by decide) (by omega)
    have p2 : (2 : Int) ^ y.toNat = ((2 ^ y.toNat : Nat) : Int) := by simp
    simp only [recM, Int.reduceBEq, Bool.false_eq_true, if_false, if_true]
    rw [p2]
    generalize (2 : Nat) ^ y.toNat = P at p
    have q := abs_mul_le x P 9223372036854775808 9223372036854775808 ⟨by omega, by omega⟩ ⟨by omega, by omega⟩
    omega
  by_cases e7 : op = 7
  · subst e7
    have p : (0 : Int) < 2 ^ y.toNat := Int.pow_pos (by decide)
    simp only [recM, Int.reduceBEq, Bool.false_eq_true, if_false, if_true]
    have q := Int.mul_ediv_add_emod x (2 ^ y.toNat)
    have a1 : x / 2 ^ y.toNat ≤ 9223372036854775808 := by
      by_cases h0 : 0 ≤ x
      · have := Int.ediv_le_self (2 ^ y.toNat) h0; omega
      · have := Int.ediv_neg_of_neg_of_pos (by omega : x < 0) p; omega
    have a2 : -9223372036854775808 ≤ x / 2 ^ y.toNat := (Int.le_ediv_iff_mul_le p).2 (by
      have : -9223372036854775808 * (2 : Int) ^ y.toNat ≤ -9223372036854775808 * 1 := Int.mul_le_mul_of_nonpos_left (by first | omega | decide) (by first | omega | decide)
      omega)
    omega
  obtain ⟨y1, y2⟩ := h3 (by omega)
  by_cases e1 : op = 1
  · subst e1
    simp only [recM, Int.reduceBEq, Bool.false_eq_true, if_false, if_true]
    omega
  by_cases e2 : op = 2
  · subst e2
    simp only [recM, Int.reduceBEq, Bool.false_eq_true, if_false, if_true]
    omega
  by_cases e3 : op = 3
  · subst e3
    simp only [recM, Int.reduceBEq, Bool.false_eq_true, if_false, if_true]
    have q := abs_mul_le x y 9223372036854775808 9223372036854775808 ⟨by omega, by omega⟩ ⟨by omega, by omega⟩
    omega
  by_cases e4 : op = 4
  · subst e4
    simp only [recM, Int.reduceBEq, Bool.false_eq_true, if_false, if_true]
    have := tdiv_abs_le x y
    have := absI_in (x := x) (by omega) (by omega)
    omega
  by_cases e5 : op = 5
  · subst e5
    simp only [recM, Int.reduceBEq, Bool.false_eq_true, if_false, if_true]
    rw [tmod_abs]
    have hx := absI_in (x := x) (by omega) (by omega)
    have a1 := Int.tmod_nonneg (absI y) hx.1
    have a2 : (absI x).tmod (absI y) ≤ absI x := by
      have hy : 0 ≤ absI y := by unfold absI; split <;> omega
      obtain ⟨m, hm⟩ := Int.eq_ofNat_of_zero_le hx.1
      obtain ⟨n, hn⟩ := Int.eq_ofNat_of_zero_le hy
      rw [hm, hn, ← Int.ofNat_tmod]
      exact Int.ofNat_le.2 (Nat.mod_le m n)
    split <;> omega
  by_cases e8 : op = 8
  · subst e8
    simp only [recM, Int.reduceBEq, Bool.false_eq_true, if_false, if_true]
    exact bvI_in _
  by_cases e9 : op = 9
  · subst e9
    simp only [recM, Int.reduceBEq, Bool.false_eq_true, if_false, if_true]
    exact bvI_in _
  by_cases e10 : op = 10
  · subst e10
    simp only [recM, Int.reduceBEq, Bool.false_eq_true, if_false, if_true]
    exact bvI_in _
  by_cases e11 : op = 11
  · subst e11
    simp only [recM, Int.reduceBEq, Bool.false_eq_true, if_false, if_true]
    have := ht (decide (x < y))
    omega
  by_cases e12 : op = 12
  · subst e12
    simp only [recM, Int.reduceBEq, Bool.false_eq_true, if_false, if_true]
    have := ht (!decide (y < x))
    omega
  by_cases e13 : op = 13
  · subst e13
    simp only [recM, Int.reduceBEq, Bool.false_eq_true, if_false, if_true]
    have := ht (decide (x = y))
    omega
  by_cases e14 : op = 14
  · subst e14
    simp only [recM, Int.reduceBEq, Bool.false_eq_true, if_false, if_true]
    have := ht (!decide (x = y))
    omega
  by_cases e15 : op = 15
  · subst e15
    simp only [recM, Int.reduceBEq, Bool.false_eq_true, if_false, if_true]
    omega
  by_cases e16 : op = 16
  · subst e16
    simp only [recM, Int.reduceBEq, Bool.false_eq_true, if_false, if_true]
    omega
  have q : ∀ n : Int, op ≠ n → (op == n) = false := fun n h => by simpa using h
  have := ht (decide (x = 0))
  simp only [recM, q 1 e1, q 2 e2, q 3 e3, q 4 e4, q 5 e5, q 6 e6, q 7 e7, q 8 e8, q 9 e9, q 10 e10, q 11 e11, q 12 e12, q 13 e13, q 14 e14, q 15 e15, q 16 e16, Bool.false_eq_true, if_false]
  omega
/-- What strict tells. -/
def strT (op k x y : Int) : Value := if defM op k x y && keepM (recM op x y) k then .tuple #[.int .i64 (toK (recM op x y) k), .int .i64 (if askM op then 5 else k), .int .i64 (erM k)] else .tuple #[.int .i64 0, .int .i64 0, .int .i64 90]
theorem def_div {op k x y : Int} (h : defM op k x y = true) (ho : op = 4 ∨ op = 5) : y ≠ 0 := by
  rcases ho with rfl | rfl
  · simpa [defM] using h
  · simp [defM] at h; exact h.1
theorem def_shift {op k x y : Int} (h : defM op k x y = true) (ho : op = 6 ∨ op = 7) : 0 ≤ y ∧ y < 64 := by
  have hs := siz_in k
  rcases ho with rfl | rfl
  · simp [defM, inbM] at h; omega
  · simp [defM, inbM] at h; omega
theorem strictW_any (op k x y : Int) (w : World) (o1 : 1 ≤ op) (o2 : op ≤ 17) (h1 : -18446744073709551616 < x) (h2 : x < 18446744073709551616) (h3 : -18446744073709551616 < y) (h4 : y < 18446744073709551616)
    (hu : unsM k = false → (-9223372036854775808 ≤ x ∧ x ≤ 9223372036854775808) ∧ (¬ (op = 6 ∨ op = 7) → -9223372036854775808 ≤ y ∧ y ≤ 9223372036854775808)) :
    Calls Tryd.prog 38 #[.int .i64 op, .int .i64 k, W128 x, W128 y] w fun e w' => e = .returned (strT op k x y) ∧ Below w.heap.size w w' := by
  have HD := fun W => definedW_any op k x y W h1 h2 h3 h4
  unfold strT
  cases hd : defM op k x y
  · rw [hd] at HD
    exact strictNo op k _ _ _ _ w HD
  · rw [hd] at HD
    rw [Bool.true_and]
    have hsh := fun ho => def_shift hd ho
    have HK : Hid (∀ W, Calls Tryd.prog 55 #[W128 (recM op x y), .int .i64 k] W fun e w' => e = .returned (.bool (keepM (recM op x y) k)) ∧ Below W.heap.size W w') := fun W =>
      keepsW2 _ k W (by
        cases hq : unsM k
        · right
          obtain ⟨⟨a, b⟩, c⟩ := hu hq
          exact recM_in op x y a b hsh c
        · exact .inl rfl)
    have hb := w64_in (recM op x y)
    have HT : Hid (∀ W, Calls Tryd.prog 27 #[.int .i64 (wrap64 (recM op x y % 18446744073709551616)), .int .i64 k] W fun e w' => e = .returned (.tuple #[.int .i64 (toK (recM op x y) k), .int .i64 (erM k)]) ∧ w' = W) := fun W => by
      rw [w64_low]
      exact To_any _ k W hb.1 hb.2
    exact strictYes op k _ _ _ _ _ _ _ _ _ (askM op) w HD (fun W => reckW_any op x y W o1 o2 h1 h2 h3 h4 (def_div hd) hsh) HK HT (asks_any op)
end Go.Proofs.YtobfpdhfmbpidaaDoor
