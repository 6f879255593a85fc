/-
  Package arith: reckon in plain numbers.
-/
import Derived.Test.YtobfpdhfmbpidaaDoorEf
import Derived.Test.YtobfpdhfmbpidaaDoorEl
import Derived.Test.YtobfpdhfmbpidaaDoorEn
import Derived.Test.YtobfpdhfmbpidaaDoorEd
import Derived.Test.YtobfpdhfmbpidaaDoorEi1
import Derived.Test.YtobfpdhfmbpidaaDoorEi2
import Derived.Test.YtobfpdhfmbpidaaDoorEi3
import Derived.Test.YtobfpdhfmbpidaaDoorEi4
namespace Go.Proofs.YtobfpdhfmbpidaaDoor
open Go Go.RowKit
set_option linter.unusedVariables false
set_option linter.unusedSimpArgs false
theorem tdiv_in (a b : Int) (h0 : 0 ≤ a) (h1 : 0 ≤ b) : 0 ≤ a.tdiv b ∧ a.tdiv b ≤ a := by
  obtain ⟨m, rfl⟩ := Int.eq_ofNat_of_zero_le h0
  obtain ⟨n, rfl⟩ := Int.eq_ofNat_of_zero_le h1
  rw [← Int.ofNat_tdiv]
  exact ⟨Int.natCast_nonneg _, Int.ofNat_le.2 (Nat.div_le_self m n)⟩
theorem overW_any (x y : Int) (w : World) (h1 : -18446744073709551616 < x) (h2 : x < 18446744073709551616) (h3 : -18446744073709551616 < y) (h4 : y < 18446744073709551616) (hy : y ≠ 0) : Calls Tryd.prog 61 #[W128 x, W128 y] w fun e w' => e = .returned (W128 (x.tdiv y)) ∧ Below w.heap.size w w' := by
  have hy0 : absI y ≠ 0 := by unfold absI; split <;> omega
  obtain ⟨x0, x1⟩ := absI_in h1 h2
  obtain ⟨y0, y1⟩ := absI_in h3 h4
  obtain ⟨z0, z1⟩ := tdiv_in (absI x) (absI y) x0 y0
  have HL := fun W => belowW_any x 0 W (by omega) (by omega) (by omega) (by omega)
  have HV := fun W => belowW_any y 0 W (by omega) (by omega) (by omega) (by omega)
  have HN := fun W => negW_any ((absI x).tdiv (absI y)) W
  rw [W128_low z0 (by omega)] at HN
  have ew : IntKind.u64.wrap ((absI x).tdiv (absI y)) = (absI x).tdiv (absI y) := by rw [IntKind.wrap_u64]; omega
  have h := overH _ _ _ _ (absI x) (absI y) _ _ (decide (x < 0)) (decide (y < 0)) w hy0 (fun W => sizeW_any x W h1 h2) (fun W => sizeW_any y W h3 h4) HL HV (by rw [ew]; exact HN)
  rw [ew] at h
  have e : W128 (x.tdiv y) = if (decide (x < 0) != decide (y < 0)) = true then W128 (-(absI x).tdiv (absI y)) else .agg #[.int .u64 0, .int .u64 ((absI x).tdiv (absI y))] := by
    rw [← W128_low z0 (by omega), tdiv_abs]
    split <;> rfl
  rw [e]
  exact h
/-- The true result. -/
def recM (op x y : Int) : Int := if op == 1 then x + y else if op == 2 then x - y else if op == 3 then x * y else if op == 4 then x.tdiv y else if op == 5 then x.tmod y else if op == 6 then x * 2 ^ y.toNat else if op == 7 then x / 2 ^ y.toNat else if op == 8 then andI x y else if op == 9 then xorI x y else if op == 10 then orI x y else if op == 11 then tru (decide (x < y)) else if op == 12 then tru (!decide (y < x)) else if op == 13 then tru (decide (x = y)) else if op == 14 then tru (!decide (x = y)) else if op == 15 then -x else if op == 16 then -x - 1 else tru (decide (x = 0))
theorem W128_tru (b : Bool) : W128 (tru b) = .agg #[.int .u64 0, .int .u64 (tru b)] := by cases b <;> rfl
theorem opcases (op : Int) (h1 : 1 ≤ op) (h2 : op ≤ 17) : op = 1 ∨ op = 2 ∨ op = 3 ∨ op = 4 ∨ op = 5 ∨ op = 6 ∨ op = 7 ∨ op = 8 ∨ op = 9 ∨ op = 10 ∨ op = 11 ∨ op = 12 ∨ op = 13 ∨ op = 14 ∨ op = 15 ∨ op = 16 ∨ op = 17 := by omega
theorem reckW_any (op x y : Int) (w : World) (o1 : 1 ≤ op) (o2 : op ≤ 17) (h1 : -18446744073709551616 < x) (h2 : x < 18446744073709551616) (h3 : -18446744073709551616 < y) (h4 : y < 18446744073709551616)
    (hd : op = 4 ∨ op = 5 → y ≠ 0) (hs : op = 6 ∨ op = 7 → 0 ≤ y ∧ y < 64) : Calls Tryd.prog 49 #[.int .i64 op, W128 x, W128 y] w fun e w' => e = .returned (W128 (recM op x y)) ∧ Below w.heap.size w w' := by
  rcases opcases op o1 o2 with rfl | rfl | rfl | rfl | rfl | rfl | rfl | rfl | rfl | rfl | rfl | rfl | rfl | rfl | rfl | rfl | rfl
  · exact reck1 _ _ _ _ _ _ w (fun W => plusW_any x y W)
  · exact reck2 _ _ _ _ _ _ w (fun W => minusW_any x y W)
  · exact reck3 _ _ _ _ _ _ w (fun W => timesW_any x y W)
  · exact reck4 _ _ _ _ _ _ w (fun W => overW_any x y W h1 h2 h3 h4 (hd (.inl rfl)))
  · exact reck5 _ _ _ _ _ _ w (fun W => restW_any x y W h1 h2 h3 h4 (hd (.inr rfl)))
  · obtain ⟨s1, s2⟩ := hs (.inl rfl)
    have e : y % 18446744073709551616 = ((y.toNat : Nat) : Int) := by omega
    refine reck6 _ _ _ _ _ _ w (fun W => ?_)
    rw [e]
    exact upW_any x y.toNat W (by omega)
  · obtain ⟨s1, s2⟩ := hs (.inr rfl)
    have e : y % 18446744073709551616 = ((y.toNat : Nat) : Int) := by omega
    refine reck7 _ _ _ _ _ _ w (fun W => ?_)
    rw [e]
    exact downW_any x y.toNat W (by omega) (by omega) (by omega)
  · rw [show recM 8 x y = andI x y from rfl, W128_and]
    exact reck8 _ _ _ _ w
  · rw [show recM 9 x y = xorI x y from rfl, W128_xor]
    exact reck9 _ _ _ _ w
  · rw [show recM 10 x y = orI x y from rfl, W128_or]
    exact reck10 _ _ _ _ w
  · rw [show recM 11 x y = tru (decide (x < y)) from rfl, W128_tru]
    exact reck11 _ _ _ _ _ w (fun W => belowW_any x y W (by omega) (by omega) (by omega) (by omega))
  · rw [show recM 12 x y = tru (!decide (y < x)) from rfl, W128_tru]
    exact reck12 _ _ _ _ _ w (fun W => belowW_any y x W (by omega) (by omega) (by omega) (by omega))
  · have h := reck13 (x / 18446744073709551616 % 18446744073709551616) (x % 18446744073709551616) (y / 18446744073709551616 % 18446744073709551616) (y % 18446744073709551616) w
    rw [W128_inj (by omega) (by omega) (by omega) (by omega)] at h
    rw [show recM 13 x y = tru (decide (x = y)) from rfl, W128_tru]
    exact h
  · have h := reck14 (x / 18446744073709551616 % 18446744073709551616) (x % 18446744073709551616) (y / 18446744073709551616 % 18446744073709551616) (y % 18446744073709551616) w
    rw [← Bool.not_and, W128_inj (by omega) (by omega) (by omega) (by omega)] at h
    rw [show recM 14 x y = tru (!decide (x = y)) from rfl, W128_tru]
    exact h
  · exact reck15 _ _ _ _ _ _ w (fun W => negW_any x W)
  · rw [show recM 16 x y = -x - 1 from rfl, W128_flip]
    exact reck16 _ _ _ _ w
  · have h := reck17 (x / 18446744073709551616 % 18446744073709551616) (x % 18446744073709551616) (y / 18446744073709551616 % 18446744073709551616) (y % 18446744073709551616) w
    have e := W128_inj (x := x) (y := 0) (by omega) (by omega) (by omega) (by omega)
    rw [show (0 : Int) / 18446744073709551616 % 18446744073709551616 = 0 from rfl, show (0 : Int) % 18446744073709551616 = 0 from rfl] at e
    rw [e] at h
    rw [show recM 17 x y = tru (decide (x = 0)) from rfl, W128_tru]
    exact h
end Go.Proofs.YtobfpdhfmbpidaaDoor
