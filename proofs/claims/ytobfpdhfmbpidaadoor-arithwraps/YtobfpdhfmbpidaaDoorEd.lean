/-
  Package arith: numbers of two halves: up, down.
-/
import Derived.Test.YtobfpdhfmbpidaaDoorEb
import Derived.Laws.Bits64b
namespace Go.Proofs.YtobfpdhfmbpidaaDoor
open Go Go.RowKit
set_option linter.unusedVariables false
set_option linter.unusedSimpArgs false
theorem or_add (H B i : Nat) (hi : i ≤ 64) (hB : B < 2 ^ i) : H * 2 ^ i % 18446744073709551616 ||| B = H * 2 ^ i % 18446744073709551616 + B := by
  have e : (18446744073709551616 : Nat) = 2 ^ (64 - i) * 2 ^ i := by rw [← Nat.pow_add, show 64 - i + i = 64 by omega]
  rw [e, Nat.mul_mod_mul_right, ← Nat.shiftLeft_eq, ← Nat.shiftLeft_add_eq_or_of_lt hB]
theorem bits_or_add (h b : Int) (i : Nat) (h0 : 0 ≤ h) (b0 : 0 ≤ b) (hi : i ≤ 64) (hB : b < 2 ^ i) : bits .or .u64 (IntKind.u64.wrap (h * 2 ^ i)) b = h * 2 ^ i % 18446744073709551616 + b := by
  obtain ⟨H, rfl⟩ := Int.eq_ofNat_of_zero_le h0
  obtain ⟨B, rfl⟩ := Int.eq_ofNat_of_zero_le b0
  have e : ((H : Int) * 2 ^ i) % 18446744073709551616 = ((H * 2 ^ i % 18446744073709551616 : Nat) : Int) := by
    rw [Int.natCast_emod, Int.natCast_mul, Int.natCast_pow]; rfl
  have hB' : B < 2 ^ i := by have : ((2 ^ i : Nat) : Int) = 2 ^ i := by simp
                             omega
  have h64 : (2 : Nat) ^ i ≤ 18446744073709551616 := Nat.pow_le_pow_right (by decide) hi
  rw [IntKind.wrap_u64, e, bits_or_u64_nat _ _ (Nat.mod_lt _ (by decide)) (by omega), or_add H B i hi hB', Int.natCast_add]
theorem pow_splitI (n : Nat) (hn : n ≤ 64) : (18446744073709551616 : Int) = 2 ^ (64 - n) * 2 ^ n := by
  rw [← Int.pow_add, show 64 - n + n = 64 by omega]; rfl
theorem up_hi (x : Int) (n : Nat) (hn : n ≤ 64) : (x / 18446744073709551616 % 18446744073709551616) * 2 ^ n % 18446744073709551616 + (x % 18446744073709551616) / 2 ^ (64 - n) = x * 2 ^ n / 18446744073709551616 % 18446744073709551616 := by
  have p0 : (0 : Int) < 2 ^ n := Int.pow_pos (by decide)
  have p1 : (0 : Int) < 2 ^ (64 - n) := Int.pow_pos (by decide)
  have ps := pow_splitI n hn
  have ex : x = x / 18446744073709551616 * 18446744073709551616 + x % 18446744073709551616 := by omega
  have hl0 : 0 ≤ x % 18446744073709551616 := by omega
  have hl1 : x % 18446744073709551616 < 18446744073709551616 := by omega
  generalize ha : x / 18446744073709551616 = a at *
  generalize hl : x % 18446744073709551616 = l at *
  clear ha hl
  have q0 : 0 ≤ l / 2 ^ (64 - n) := Int.ediv_nonneg hl0 (Int.le_of_lt p1)
  have q1 : l / 2 ^ (64 - n) < 2 ^ n := Int.ediv_lt_of_lt_mul p1 (by rw [Int.mul_comm, ← ps]; exact hl1)
  have e1 : x * 2 ^ n / 18446744073709551616 = a * 2 ^ n + l / 2 ^ (64 - n) := by
    rw [ex, Int.add_mul, show a * 18446744073709551616 * 2 ^ n = a * 2 ^ n * 18446744073709551616 by ac_rfl, Int.add_comm, Int.add_mul_ediv_right _ _ (by decide)]
    rw [show l * 2 ^ n / 18446744073709551616 = l / 2 ^ (64 - n) by rw [ps, Int.mul_ediv_mul_of_pos_left _ _ p0]]
    omega
  rw [e1]
  have e2 : (a % 18446744073709551616) * 2 ^ n % 18446744073709551616 = a % 2 ^ (64 - n) * 2 ^ n := by
    rw [show a % 18446744073709551616 * 2 ^ n % 18446744073709551616 = a * 2 ^ n % 18446744073709551616 by rw [Int.mul_emod, Int.emod_emod_of_dvd a (Int.dvd_refl _), ← Int.mul_emod]]
    rw [ps, Int.mul_comm a, Int.mul_comm (2 ^ (64 - n)), Int.mul_emod_mul_of_pos _ _ p0, Int.mul_comm]
  have e3 : a * 2 ^ n = a / 2 ^ (64 - n) * 18446744073709551616 + a % 2 ^ (64 - n) * 2 ^ n := by
    rw [ps, ← Int.mul_assoc, ← Int.add_mul, Int.mul_comm (a / _), Int.mul_ediv_add_emod]
  rw [e2, e3]
  have r0 : 0 ≤ a % 2 ^ (64 - n) := Int.emod_nonneg _ (by omega)
  have r1 : a % 2 ^ (64 - n) < 2 ^ (64 - n) := Int.emod_lt_of_pos _ p1
  have r2 : 0 ≤ a % 2 ^ (64 - n) * 2 ^ n := Int.mul_nonneg r0 (Int.le_of_lt p0)
  have r3 : (a % 2 ^ (64 - n) + 1) * 2 ^ n ≤ 2 ^ (64 - n) * 2 ^ n := Int.mul_le_mul_of_nonneg_right (by omega) (Int.le_of_lt p0)
  rw [← ps, Int.add_mul, Int.one_mul] at r3
  generalize a % 2 ^ (64 - n) * 2 ^ n = u at *
  generalize l / 2 ^ (64 - n) = v at *
  generalize a / 2 ^ (64 - n) = t at *
  generalize (2 : Int) ^ n = p at *
  clear e1 e2 e3 ps
  omega
theorem down_lo (x : Int) (n : Nat) (hn : n ≤ 64) : (x / 18446744073709551616 % 18446744073709551616) * 2 ^ (64 - n) % 18446744073709551616 + (x % 18446744073709551616) / 2 ^ n = x / 2 ^ n % 18446744073709551616 := by
  have h := up_hi x (64 - n) (by omega)
  rw [show 64 - (64 - n) = n by omega] at h
  rw [h]
  have p1 : (0 : Int) < 2 ^ (64 - n) := Int.pow_pos (by decide)
  congr 1
  have ps := pow_splitI (64 - n) (by omega)
  rw [show 64 - (64 - n) = n by omega] at ps
  rw [ps, Int.mul_ediv_mul_of_pos_left _ _ p1]
theorem low_lt (x : Int) (n : Nat) (hn : n ≤ 64) : 0 ≤ (x % 18446744073709551616) / 2 ^ (64 - n) ∧ (x % 18446744073709551616) / 2 ^ (64 - n) < 2 ^ n := by
  have p1 : (0 : Int) < 2 ^ (64 - n) := Int.pow_pos (by decide)
  have ps := pow_splitI n hn
  exact ⟨Int.ediv_nonneg (by omega) (Int.le_of_lt p1), Int.ediv_lt_of_lt_mul p1 (by rw [Int.mul_comm, ← ps]; omega)⟩
set_option maxRecDepth 100000 in
set_option maxHeartbeats 1000000 in
theorem upH_any (h l : Int) (n : Nat) (w : World) (hn : n < 64) : Calls Tryd.prog 63 #[wv h l, .int .u64 n] w fun e w' => e = .returned (wv (bits BinOp.or IntKind.u64 (IntKind.u64.wrap (h * 2 ^ n)) (l / 2 ^ (64 - n))) (IntKind.u64.wrap (l * 2 ^ n))) ∧ Below w.heap.size w w' := by
  have n0 : ¬ (n : Int) < 0 := by omega
  have n1 : ¬ (64 - (n : Int)) < 0 := by omega
  have n2 : IntKind.u64.wrap (64 - (n : Int)) = 64 - (n : Int) := by rw [IntKind.wrap_u64]; omega
  unfold wv
  go_enter Tryd.func63, Tryd.ntmps63
  go_wp2
  exact bodyPost_ret (res_w (f := Tryd.f63) rfl rfl (heap_new2 w _ _) rfl) rfl ⟨rfl, below_new2 w _ _⟩
set_option maxRecDepth 100000 in
set_option maxHeartbeats 1000000 in
theorem downH_any (h l : Int) (n : Nat) (w : World) (hn : n < 64) : Calls Tryd.prog 64 #[wv h l, .int .u64 n] w fun e w' => e = .returned (wv (IntKind.u64.wrap (wrap64 h / 2 ^ n)) (bits BinOp.or IntKind.u64 (l / 2 ^ n) (IntKind.u64.wrap (h * 2 ^ (64 - n))))) ∧ Below w.heap.size w w' := by
  have n0 : ¬ (n : Int) < 0 := by omega
  have n1 : ¬ (64 - (n : Int)) < 0 := by omega
  have n2 : IntKind.u64.wrap (64 - (n : Int)) = 64 - (n : Int) := by rw [IntKind.wrap_u64]; omega
  unfold wv
  go_enter Tryd.func64, Tryd.ntmps64
  go_wp2
  exact bodyPost_ret (res_w (f := Tryd.f64) rfl rfl (heap_new2 w _ _) rfl) rfl ⟨rfl, below_new2 w _ _⟩
theorem upW_any (x : Int) (n : Nat) (w : World) (hn : n < 64) : Calls Tryd.prog 63 #[W128 x, .int .u64 n] w fun e w' => e = .returned (W128 (x * 2 ^ n)) ∧ Below w.heap.size w w' := by
  have h := upH_any (x / 18446744073709551616 % 18446744073709551616) (x % 18446744073709551616) n w hn
  have hl := low_lt x n (by omega)
  rw [bits_or_add _ _ n (by omega) hl.1 (by omega) hl.2, up_hi x n (by omega), IntKind.wrap_u64, show x % 18446744073709551616 * 2 ^ n % 18446744073709551616 = x * 2 ^ n % 18446744073709551616 by rw [Int.mul_emod, Int.emod_emod_of_dvd x (Int.dvd_refl _), ← Int.mul_emod]] at h
  exact h
theorem bits_or_comm (a b : Int) : bits .or .u64 a b = bits .or .u64 b a := by
  show IntKind.u64.wrap ((BitVec.ofInt 64 a ||| BitVec.ofInt 64 b).toNat : Int) = IntKind.u64.wrap ((BitVec.ofInt 64 b ||| BitVec.ofInt 64 a).toNat : Int)
  rw [BitVec.or_comm]
theorem downW_any (x : Int) (n : Nat) (w : World) (hn : n < 64) (h1 : -170141183460469231731687303715884105728 ≤ x) (h2 : x < 170141183460469231731687303715884105728) : Calls Tryd.prog 64 #[W128 x, .int .u64 n] w fun e w' => e = .returned (W128 (x / 2 ^ n)) ∧ Below w.heap.size w w' := by
  have h := downH_any (x / 18446744073709551616 % 18446744073709551616) (x % 18446744073709551616) n w hn
  have hl := low_lt x (64 - n) (by omega)
  rw [show 64 - (64 - n) = n by omega] at hl
  rw [bits_or_comm, bits_or_add _ _ (64 - n) (by omega) hl.1 (by omega) hl.2, down_lo x n (by omega), IntKind.wrap_u64] at h
  have e : wrap64 (x / 18446744073709551616 % 18446744073709551616) = x / 18446744073709551616 := by unfold wrap64; omega
  have e2 : x / 18446744073709551616 / 2 ^ n = x / 2 ^ n / 18446744073709551616 := by
    rw [Int.ediv_ediv_of_nonneg (by decide), Int.ediv_ediv_of_nonneg (Int.le_of_lt (Int.pow_pos (by decide))), Int.mul_comm]
  rw [e, e2] at h
  exact h
end Go.Proofs.YtobfpdhfmbpidaaDoor
