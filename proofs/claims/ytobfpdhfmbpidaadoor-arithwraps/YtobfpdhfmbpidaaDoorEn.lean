/-
  Numbers alone: bits of both, of one, of either, of numbers of two halves.
-/
import Derived.Test.YtobfpdhfmbpidaaDoorEa
import Derived.Laws.Bits64b
namespace Go.Proofs.YtobfpdhfmbpidaaDoor
open Go Go.RowKit
set_option linter.unusedVariables false
def bvI (z : BitVec 128) : Int := z.toInt
def andI (x y : Int) : Int := bvI (BitVec.ofInt 128 x &&& BitVec.ofInt 128 y)
def orI (x y : Int) : Int := bvI (BitVec.ofInt 128 x ||| BitVec.ofInt 128 y)
def xorI (x y : Int) : Int := bvI (BitVec.ofInt 128 x ^^^ BitVec.ofInt 128 y)
theorem bvI_in (z : BitVec 128) : -170141183460469231731687303715884105728 ≤ bvI z ∧ bvI z < 170141183460469231731687303715884105728 := by
  unfold bvI
  have := BitVec.le_toInt z
  have := BitVec.toInt_lt (x := z)
  constructor <;> simp at * <;> omega
theorem W128_bv (z : BitVec 128) : W128 (bvI z) = wv ((z.toNat / 18446744073709551616 : Nat) : Int) ((z.toNat % 18446744073709551616 : Nat) : Int) := by
  have hlt := z.isLt
  unfold W128 bvI
  rw [BitVec.toInt_eq_toNat_cond]
  have e : (2 : Nat) ^ 128 = 340282366920938463463374607431768211456 := by decide
  rw [e] at *
  split <;> congr 1 <;> omega
theorem ofInt_nat (x : Int) : (BitVec.ofInt 128 x).toNat = (x % 340282366920938463463374607431768211456).toNat := by
  rw [BitVec.toNat_ofInt]; rfl
theorem hi_nat (x : Int) : (x % 340282366920938463463374607431768211456).toNat / 18446744073709551616 = (x / 18446744073709551616 % 18446744073709551616).toNat := by omega
theorem lo_nat (x : Int) : (x % 340282366920938463463374607431768211456).toNat % 18446744073709551616 = (x % 18446744073709551616).toNat := by omega
theorem u64nat (x : Int) : x % 18446744073709551616 = (((x % 18446744073709551616).toNat : Nat) : Int) := by omega
theorem u64lt (x : Int) : (x % 18446744073709551616).toNat < 18446744073709551616 := by omega
theorem W128_and (x y : Int) : W128 (andI x y) = .agg #[.int .u64 (bits .and .u64 (x / 18446744073709551616 % 18446744073709551616) (y / 18446744073709551616 % 18446744073709551616)), .int .u64 (bits .and .u64 (x % 18446744073709551616) (y % 18446744073709551616))] := by
  unfold andI
  rw [W128_bv, BitVec.toNat_and, ofInt_nat, ofInt_nat]
  have e1 := Nat.and_div_two_pow (a := (x % 340282366920938463463374607431768211456).toNat) (b := (y % 340282366920938463463374607431768211456).toNat) (n := 64)
  have e2 := Nat.and_mod_two_pow (a := (x % 340282366920938463463374607431768211456).toNat) (b := (y % 340282366920938463463374607431768211456).toNat) (n := 64)
  rw [show (2 : Nat) ^ 64 = 18446744073709551616 by decide] at e1 e2
  rw [e1, e2, hi_nat, hi_nat, lo_nat, lo_nat, ← bits_and_u64_nat _ _ (u64lt _) (u64lt _), ← bits_and_u64_nat _ _ (u64lt _) (u64lt _), ← u64nat, ← u64nat, ← u64nat, ← u64nat]
  rfl
theorem W128_or (x y : Int) : W128 (orI x y) = .agg #[.int .u64 (bits .or .u64 (x / 18446744073709551616 % 18446744073709551616) (y / 18446744073709551616 % 18446744073709551616)), .int .u64 (bits .or .u64 (x % 18446744073709551616) (y % 18446744073709551616))] := by
  unfold orI
  rw [W128_bv, BitVec.toNat_or, ofInt_nat, ofInt_nat]
  have e1 := Nat.or_div_two_pow (a := (x % 340282366920938463463374607431768211456).toNat) (b := (y % 340282366920938463463374607431768211456).toNat) (n := 64)
  have e2 := Nat.or_mod_two_pow (a := (x % 340282366920938463463374607431768211456).toNat) (b := (y % 340282366920938463463374607431768211456).toNat) (n := 64)
  rw [show (2 : Nat) ^ 64 = 18446744073709551616 by decide] at e1 e2
  rw [e1, e2, hi_nat, hi_nat, lo_nat, lo_nat, ← bits_or_u64_nat _ _ (u64lt _) (u64lt _), ← bits_or_u64_nat _ _ (u64lt _) (u64lt _), ← u64nat, ← u64nat, ← u64nat, ← u64nat]
  rfl
theorem W128_xor (x y : Int) : W128 (xorI x y) = .agg #[.int .u64 (bits .xor .u64 (x / 18446744073709551616 % 18446744073709551616) (y / 18446744073709551616 % 18446744073709551616)), .int .u64 (bits .xor .u64 (x % 18446744073709551616) (y % 18446744073709551616))] := by
  unfold xorI
  rw [W128_bv, BitVec.toNat_xor, ofInt_nat, ofInt_nat]
  have e1 := Nat.xor_div_two_pow (a := (x % 340282366920938463463374607431768211456).toNat) (b := (y % 340282366920938463463374607431768211456).toNat) (n := 64)
  have e2 := Nat.xor_mod_two_pow (a := (x % 340282366920938463463374607431768211456).toNat) (b := (y % 340282366920938463463374607431768211456).toNat) (n := 64)
  rw [show (2 : Nat) ^ 64 = 18446744073709551616 by decide] at e1 e2
  rw [e1, e2, hi_nat, hi_nat, lo_nat, lo_nat, ← bits_xor_u64_nat _ _ (u64lt _) (u64lt _), ← bits_xor_u64_nat _ _ (u64lt _) (u64lt _), ← u64nat, ← u64nat, ← u64nat, ← u64nat]
  rfl
/-- All bits turned. -/
theorem flip64 (h : Int) (h0 : 0 ≤ h) (h1 : h < 18446744073709551616) : bits .xor .u64 IntKind.u64.max h = 18446744073709551615 - h := by
  obtain ⟨H, rfl⟩ := Int.eq_ofNat_of_zero_le h0
  have e : IntKind.u64.max = ((18446744073709551615 : Nat) : Int) := by decide
  rw [e, bits_xor_u64_nat _ _ (by decide) (by omega)]
  have q : (BitVec.allOnes 64 ^^^ BitVec.ofNat 64 H).toNat = 18446744073709551615 - H := by
    rw [BitVec.allOnes_xor, BitVec.toNat_not, BitVec.toNat_ofNat, Nat.mod_eq_of_lt (by omega)]
  rw [BitVec.toNat_xor, BitVec.toNat_ofNat, Nat.mod_eq_of_lt (by omega), show (BitVec.allOnes 64).toNat = 18446744073709551615 from rfl] at q
  omega
theorem W128_flip (x : Int) : W128 (-x - 1) = .agg #[.int .u64 (bits .xor .u64 IntKind.u64.max (x / 18446744073709551616 % 18446744073709551616)), .int .u64 (bits .xor .u64 IntKind.u64.max (x % 18446744073709551616))] := by
  rw [flip64 _ (by omega) (by omega), flip64 _ (by omega) (by omega)]
  unfold W128 wv
  rw [show (-x - 1) / 18446744073709551616 % 18446744073709551616 = 18446744073709551615 - x / 18446744073709551616 % 18446744073709551616 by omega, show (-x - 1) % 18446744073709551616 = 18446744073709551615 - x % 18446744073709551616 by omega]
/-- What lies within 2 to the power n, shifted by n, is all 0 or all 1. -/
theorem bv_small (z : BitVec 128) (n : Nat) (h : -(2 ^ n : Int) ≤ bvI z ∧ bvI z < 2 ^ n) : z.sshiftRight n = 0#128 ∨ z.sshiftRight n = BitVec.allOnes 128 := by
  have p : (0 : Int) < 2 ^ n := Int.pow_pos (by decide)
  have e : (z.sshiftRight n).toInt = bvI z / 2 ^ n := by
    rw [BitVec.toInt_sshiftRight, Int.shiftRight_eq_div_pow]
    unfold bvI
    congr 1
  by_cases h0 : 0 ≤ bvI z
  · left
    apply BitVec.eq_of_toInt_eq
    rw [e, Int.ediv_eq_zero_of_lt h0 h.2]
    rfl
  · right
    apply BitVec.eq_of_toInt_eq
    rw [e, BitVec.toInt_allOnes]
    rw [Int.ediv_eq_iff_of_pos p]
    simp
    omega
theorem bv_large (z : BitVec 128) (n : Nat) (h : z.sshiftRight n = 0#128 ∨ z.sshiftRight n = BitVec.allOnes 128) : -(2 ^ n : Int) ≤ bvI z ∧ bvI z < 2 ^ n := by
  have p : (0 : Int) < 2 ^ n := Int.pow_pos (by decide)
  have e : (z.sshiftRight n).toInt = bvI z / 2 ^ n := by
    rw [BitVec.toInt_sshiftRight, Int.shiftRight_eq_div_pow]
    unfold bvI
    congr 1
  have q := Int.mul_ediv_add_emod (bvI z) (2 ^ n)
  have r0 := Int.emod_nonneg (bvI z) (b := 2 ^ n) (by omega)
  have r1 := Int.emod_lt_of_pos (bvI z) p
  rcases h with h | h
  · rw [h, show (0#128).toInt = 0 from rfl] at e
    rw [← e] at q
    omega
  · rw [h, show (BitVec.allOnes 128).toInt = -1 from rfl] at e
    rw [← e] at q
    omega
theorem ofInt_bvI (x : Int) (h1 : -170141183460469231731687303715884105728 ≤ x) (h2 : x < 170141183460469231731687303715884105728) : bvI (BitVec.ofInt 128 x) = x := by
  unfold bvI
  rw [BitVec.toInt_ofInt]
  apply Int.bmod_eq_of_le <;> simp <;> omega
theorem bit_in (x y : Int) (n : Nat) (hn : (2 : Int) ^ n ≤ 170141183460469231731687303715884105728) (hx : -(2 ^ n : Int) ≤ x ∧ x < 2 ^ n) (hy : -(2 ^ n : Int) ≤ y ∧ y < 2 ^ n) :
    (-(2 ^ n : Int) ≤ andI x y ∧ andI x y < 2 ^ n) ∧ (-(2 ^ n : Int) ≤ orI x y ∧ orI x y < 2 ^ n) ∧ (-(2 ^ n : Int) ≤ xorI x y ∧ xorI x y < 2 ^ n) := by
  have hx' := bv_small (BitVec.ofInt 128 x) n (by rw [ofInt_bvI x (by omega) (by omega)]; exact hx)
  have hy' := bv_small (BitVec.ofInt 128 y) n (by rw [ofInt_bvI y (by omega) (by omega)]; exact hy)
  refine ⟨bv_large _ n ?_, bv_large _ n ?_, bv_large _ n ?_⟩
  · rw [BitVec.sshiftRight_and_distrib]
    rcases hx' with e | e <;> rcases hy' with f | f <;> rw [e, f] <;> simp
  · rw [BitVec.sshiftRight_or_distrib]
    rcases hx' with e | e <;> rcases hy' with f | f <;> rw [e, f] <;> simp
  · rw [BitVec.sshiftRight_xor_distrib]
    rcases hx' with e | e <;> rcases hy' with f | f <;> rw [e, f] <;> simp
end Go.Proofs.YtobfpdhfmbpidaaDoor
