/-
  Package arith: rest, keeps, inBits in plain numbers.
-/
import Derived.Test.YtobfpdhfmbpidaaDoorEe
import Derived.Test.YtobfpdhfmbpidaaDoorEh
namespace Go.Proofs.YtobfpdhfmbpidaaDoor
open Go Go.RowKit
set_option linter.unusedVariables false
set_option linter.unusedSimpArgs false
theorem restW_any (x y : Int) (w : World) (h1 : -18446744073709551616 < x) (h2 : x < 18446744073709551616) (h3 : -18446744073709551616 < y) (h4 : y < 18446744073709551616) (hy : y ≠ 0) : Calls Tryd.prog 62 #[W128 x, W128 y] w fun e w' => e = .returned (W128 (x.tmod y)) ∧ Below w.heap.size w w' := by
  have hy0 : absI y ≠ 0 := by unfold absI; split <;> omega
  obtain ⟨x0, x1⟩ := absI_in h1 h2
  obtain ⟨y0, y1⟩ := absI_in h3 h4
  have z0 : 0 ≤ (absI x).tmod (absI y) := Int.tmod_nonneg _ x0
  have z1 : (absI x).tmod (absI y) < 18446744073709551616 := by
    have := Int.tmod_lt_of_pos (absI x) (b := absI y) (by omega)
    omega
  have HL := fun W => belowW_any x 0 W (by omega) (by omega) (by omega) (by omega)
  have HN := fun W => negW_any ((absI x).tmod (absI y)) W
  rw [W128_low z0 z1] at HN
  have h := restH _ _ _ _ (absI x) (absI y) _ _ (decide (x < 0)) w hy0 (fun W => sizeW_any x W h1 h2) (fun W => sizeW_any y W h3 h4) HL HN
  have e : W128 (x.tmod y) = if decide (x < 0) = true then W128 (-(absI x).tmod (absI y)) else .agg #[.int .u64 0, .int .u64 ((absI x).tmod (absI y))] := by
    rw [← W128_low z0 z1, tmod_abs]
    simp only [decide_eq_true_eq]
    split <;> rfl
  rw [e]
  exact h
/-- What a number is, made a value of a kind. -/
def toK (n k : Int) : Int := toM (wrap64 n) k
theorem w64_in (n : Int) : -9223372036854775808 ≤ wrap64 n ∧ wrap64 n ≤ 9223372036854775807 := by unfold wrap64; omega
theorem i64w (n : Int) : IntKind.i64.wrap n = wrap64 n := by
  simp [IntKind.wrap, IntKind.bits, IntKind.signed, wrap64]; split <;> omega
theorem w64_low (n : Int) : wrap64 (n % 18446744073709551616) = wrap64 n := by unfold wrap64; omega
def keepM (n k : Int) : Bool := unsM k || toK n k == n
theorem W128_inj {x y : Int} (hx : -170141183460469231731687303715884105728 ≤ x) (hx' : x < 170141183460469231731687303715884105728) (hy : -170141183460469231731687303715884105728 ≤ y) (hy' : y < 170141183460469231731687303715884105728)
    : (decide (x / 18446744073709551616 % 18446744073709551616 = y / 18446744073709551616 % 18446744073709551616) && decide (x % 18446744073709551616 = y % 18446744073709551616)) = decide (x = y) := by
  rw [← Bool.decide_and]
  congr 1
  apply propext
  constructor
  · rintro ⟨a, b⟩; omega
  · rintro rfl; exact ⟨rfl, rfl⟩
theorem keepsW_any (n k : Int) (w : World) (h1 : -170141183460469231731687303715884105728 ≤ n) (h2 : n < 170141183460469231731687303715884105728) : Calls Tryd.prog 55 #[W128 n, .int .i64 k] w fun e w' => e = .returned (.bool (keepM n k)) ∧ Below w.heap.size w w' := by
  have hb := w64_in n
  have HM : Hid (∀ W, Calls Tryd.prog 37 #[.int .i64 (IntKind.i64.wrap (n % 18446744073709551616)), .int .i64 k] W fun e w' => e = .returned (W128 (worM (toM (wrap64 n) k) k)) ∧ Below W.heap.size W w') := by
    intro W
    rw [i64w, w64_low]
    exact madeW_any (wrap64 n) k W hb.1 hb.2
  have h := keepsH (n / 18446744073709551616 % 18446744073709551616) (n % 18446744073709551616) k _ _ (unsM k) w (Unsigned_any k) HM
  have hb2 := toM_in (wrap64 n) k hb.1 hb.2
  have e : (unsM k || (decide (worM (toM (wrap64 n) k) k / 18446744073709551616 % 18446744073709551616 = n / 18446744073709551616 % 18446744073709551616) && decide (worM (toM (wrap64 n) k) k % 18446744073709551616 = n % 18446744073709551616))) = keepM n k := by
    unfold keepM toK
    cases hu : unsM k
    · have ew : worM (toM (wrap64 n) k) k = toM (wrap64 n) k := by simp [worM, hu]
      rw [ew, W128_inj (by omega) (by omega) h1 h2, Bool.false_or, Bool.false_or]
      rfl
    · rfl
  rw [e] at h
  exact h
def inbM (y k : Int) : Bool := !decide (y < 0) && decide (y < 8 * sizM k)
theorem siz_in (k : Int) : 0 ≤ sizM k ∧ sizM k ≤ 8 := by
  unfold sizM
  repeat' split
  all_goals decide
theorem inBitsW_any (y k : Int) (w : World) (h1 : -170141183460469231731687303715884105728 ≤ y) (h2 : y < 170141183460469231731687303715884105728) : Calls Tryd.prog 69 #[W128 y, .int .i64 k] w fun e w' => e = .returned (.bool (inbM y k)) ∧ Below w.heap.size w w' := by
  have hs := siz_in k
  have HV := fun W => belowW_any y (8 * sizM k) W h1 h2 (by omega) (by omega)
  rw [W128_low (z := 8 * sizM k) (by omega) (by omega)] at HV
  exact inBitsH _ _ k (8 * sizM k) (decide (y < 0)) (decide (y < 8 * sizM k)) w (fun W => belowW_any y 0 W h1 h2 (by omega) (by omega)) (bitsOf_any k) HV
end Go.Proofs.YtobfpdhfmbpidaaDoor
