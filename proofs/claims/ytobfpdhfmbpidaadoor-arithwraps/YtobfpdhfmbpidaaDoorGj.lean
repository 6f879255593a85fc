/-
  Numbers alone: the document's own reckoning in 64 bits, and the true result.
-/
import Derived.Test.YtobfpdhfmbpidaaDoorEz2
import Derived.Test.YtobfpdhfmbpidaaDoorEz3
import Derived.Test.YtobfpdhfmbpidaaDoorGd
import Derived.Test.YtobfpdhfmbpidaaDoorGc
import Derived.Test.YtobfpdhfmbpidaaDoorGe
namespace Go.Proofs.YtobfpdhfmbpidaaDoor
open Go Go.RowKit
set_option linter.unusedVariables false
set_option linter.unusedSimpArgs false
/-- A value and what it stands for. -/
theorem wor_plain {v k : Int} (hk : k ≠ 8) (h : liesM v k = true) : worM v k = v := by
  have kk := lies_ki h
  have hl := lies_to h
  rcases kiM_cases kk with rfl | rfl | rfl | rfl | rfl | rfl | rfl | rfl
  case inr.inr.inr.inr.inr.inr.inr => exact absurd rfl hk
  all_goals (simp only [worM, unsM, toM, Int.reduceBEq, Bool.false_eq_true, if_false, if_true] at *; try omega)
theorem wor_8 (v : Int) : worM v 8 = v % 18446744073709551616 := rfl
theorem pro_keeps {a ak : Int} (h : liesM a ak = true) : toM a (proM ak) = a := by
  have kk := lies_ki h
  have hl := lies_to h
  rcases kiM_cases kk with rfl | rfl | rfl | rfl | rfl | rfl | rfl | rfl <;>
    (simp only [proM, toM, Int.reduceBEq, Bool.false_eq_true, if_false, if_true] at *; try omega)
theorem pro_lies {a ak : Int} (h : liesM a ak = true) : liesM a (proM ak) = true := by
  have := lies_toM a (proM ak) (ki_of (pro_cases (lies_ki h)))
  rw [pro_keeps h] at this
  exact this
theorem rless_eq {k a b : Int} (ha : i64b a) (hb : i64b b) (la : liesM a k = true) (lb : liesM b k = true) : rlessM k a b = decide (worM a k < worM b k) := by
  unfold rlessM
  by_cases h8 : k = 8
  · subst h8; rw [wor_8, wor_8, ← IntKind.wrap_u64, ← IntKind.wrap_u64]; rfl
  · rw [wor_plain h8 la, wor_plain h8 lb, show (k == 8) = false by simpa using h8]; rfl
theorem wor_inj {k a b : Int} (ha : i64b a) (hb : i64b b) (la : liesM a k = true) (lb : liesM b k = true) : decide (worM a k = worM b k) = (a == b) := by
  have h1 := ha.1; have h2 := ha.2; have h3 := hb.1; have h4 := hb.2
  by_cases h8 : k = 8
  · subst h8
    rw [wor_8, wor_8]
    show decide _ = decide _
    congr 1
    apply propext
    constructor
    · intro h; omega
    · intro h; rw [h]
  · rw [wor_plain h8 la, wor_plain h8 lb]; rfl
theorem wor_zero {k a : Int} (ha : i64b a) : (worM a k == 0) = (a == 0) := by
  have h1 := ha.1; have h2 := ha.2
  unfold worM
  split
  · show decide _ = decide _
    congr 1
    apply propext
    constructor <;> intro h <;> omega
  · rfl
theorem cmp_eq {op k a b : Int} (ho : op = 11 ∨ op = 12 ∨ op = 13 ∨ op = 14) (ha : i64b a) (hb : i64b b) (la : liesM a k = true) (lb : liesM b k = true) : rcmpM op k a b = recM op (worM a k) (worM b k) := by
  rcases ho with rfl | rfl | rfl | rfl
  · show tru (rlessM k a b) = tru (decide (worM a k < worM b k)); rw [rless_eq ha hb la lb]
  · show tru (!rlessM k b a) = tru (!decide (worM b k < worM a k)); rw [rless_eq hb ha lb la]
  · show tru (a == b) = tru (decide (worM a k = worM b k)); rw [wor_inj ha hb la lb]
  · show tru (a != b) = tru (!decide (worM a k = worM b k)); rw [wor_inj ha hb la lb]; rfl
theorem tdiv_neg1 (a : Int) : a.tdiv (-1) = -a := by rw [Int.tdiv_neg, Int.tdiv_one]
theorem tmod_neg1 (a : Int) : a.tmod (-1) = 0 := by rw [Int.tmod_neg, Int.tmod_one]
theorem i64_tmod {a b : Int} (ha : i64b a) : i64b (a.tmod b) := by
  have h := tmod_between a b
  have h1 := ha.1; have h2 := ha.2
  unfold i64b
  by_cases h0 : 0 ≤ a
  · have := h.1 h0; omega
  · have := h.2 (by omega); omega
theorem i64_tdiv {a b : Int} (ha : i64b a) (hb : ¬ (a = -9223372036854775808 ∧ b = -1)) (hb0 : b ≠ 0) : i64b (a.tdiv b) := by
  have h1 := ha.1; have h2 := ha.2
  have h := tdiv_abs_le a b
  have e := Int.tdiv_mul_add_tmod a b
  have r := tmod_between a b
  unfold i64b
  by_cases hm : a = -9223372036854775808
  · subst hm
    have h3 : absI (-9223372036854775808) = 9223372036854775808 := rfl
    rw [h3] at h
    refine ⟨h.1, ?_⟩
    by_cases hq : (-9223372036854775808 : Int).tdiv b = 9223372036854775808
    · rw [hq] at e
      have := r.2 (by decide)
      omega
    · omega
  · have : absI a ≤ 9223372036854775807 := by unfold absI; split <;> omega
    omega
theorem w64_id {n : Int} (h : i64b n) : wrap64 n = n := by have h1 := h.1; have h2 := h.2; unfold wrap64; omega
theorem u64_of {v : Int} : IntKind.u64.wrap v = v % 18446744073709551616 := IntKind.wrap_u64 v
/-- The quotient and the remainder of the document, made a value. -/
theorem div_eq {op k a b : Int} (ho : op = 4 ∨ op = 5) (ha : i64b a) (hb : i64b b) (la : liesM a k = true) (lb : liesM b k = true) (hb0 : b ≠ 0) : rdivM op k a b % 18446744073709551616 = recM op (worM a k) (worM b k) % 18446744073709551616 ∧ i64b (rdivM op k a b) := by
  have hw : ∀ n, wrap64 n % 18446744073709551616 = n % 18446744073709551616 ∧ i64b (wrap64 n) := fun n => ⟨by unfold wrap64; omega, w64_in n⟩
  by_cases h8 : k = 8
  · subst h8
    rcases ho with rfl | rfl
    · show (wrap64 (IntKind.u64.wrap ((IntKind.u64.wrap a).tdiv (IntKind.u64.wrap b)))) % _ = ((worM a 8).tdiv (worM b 8)) % _ ∧ i64b (wrap64 _)
      refine ⟨?_, (hw _).2⟩
      rw [(hw _).1, u64_of, u64_of, u64_of, wor_8, wor_8, Int.emod_emod_of_dvd _ (Int.dvd_refl _)]
    · show (wrap64 ((IntKind.u64.wrap a).tmod (IntKind.u64.wrap b))) % _ = ((worM a 8).tmod (worM b 8)) % _ ∧ i64b (wrap64 _)
      refine ⟨?_, (hw _).2⟩
      rw [(hw _).1, u64_of, u64_of, wor_8, wor_8]
  · rw [wor_plain h8 la, wor_plain h8 lb]
    have e8 : (k == 8) = false := by simpa using h8
    by_cases h1 : b = -1
    · subst h1
      rcases ho with rfl | rfl
      · show rdivM 4 k a (-1) % _ = (a.tdiv (-1)) % _ ∧ _
        rw [show rdivM 4 k a (-1) = wrap64 (-a) by simp [rdivM, e8], tdiv_neg1]
        exact hw _
      · show rdivM 5 k a (-1) % _ = (a.tmod (-1)) % _ ∧ _
        rw [show rdivM 5 k a (-1) = 0 by simp [rdivM, e8], tmod_neg1]
        exact ⟨rfl, by unfold i64b; decide⟩
    · have e1 : (b == -1) = false := by simpa using h1
      rcases ho with rfl | rfl
      · show rdivM 4 k a b % _ = (a.tdiv b) % _ ∧ _
        rw [show rdivM 4 k a b = wrap64 (a.tdiv b) by simp [rdivM, e8, e1]]
        exact hw _
      · show rdivM 5 k a b % _ = (a.tmod b) % _ ∧ _
        rw [show rdivM 5 k a b = a.tmod b by simp [rdivM, e8, e1]]
        exact ⟨rfl, i64_tmod ha⟩
theorem mK_64 {k n m : Int} (h : kiM k = true) (e : n % 18446744073709551616 = m % 18446744073709551616) : n % mK k = m % mK k := by
  rcases kiM_cases h with rfl | rfl | rfl | rfl | rfl | rfl | rfl | rfl <;>
    (simp only [mK, Int.reduceBEq, Bool.false_eq_true, if_false, if_true]; omega)
theorem toM_toK {v k : Int} (h : i64b v) : toM v k = toK v k := by unfold toK; rw [w64_id h]
theorem toM_64 {v n k : Int} (hk : kiM k = true) (h : i64b v) (e : v % 18446744073709551616 = n % 18446744073709551616) : toM v k = toK n k := by
  rw [toM_toK h]; exact toK_congr hk (mK_64 hk e)
theorem wor_64 (v k : Int) : worM v k % 18446744073709551616 = v % 18446744073709551616 := by unfold worM; split <;> omega
def lowOf : Value → Int
  | .agg ⟨[_, .int _ l]⟩ => l
  | _ => 0
theorem ofInt_64 (z : Int) : BitVec.ofInt 64 (z % 18446744073709551616) = BitVec.ofInt 64 z := by
  apply BitVec.eq_of_toNat_eq
  rw [BitVec.toNat_ofInt, BitVec.toNat_ofInt]
  simp
theorem low_fin (z : BitVec 64) : wrap64 (z.toNat : Int) % 18446744073709551616 = IntKind.u64.wrap (z.toNat : Int) ∧ i64b (wrap64 (z.toNat : Int)) := by
  have := z.isLt
  exact ⟨by rw [u64_of]; unfold wrap64; omega, w64_in _⟩
theorem and_i64 (A B : Int) : bits .and .i64 A B = wrap64 ((BitVec.ofInt 64 A &&& BitVec.ofInt 64 B).toNat : Int) := by
  rw [← i64w]
  rfl
theorem and_u64 (A B : Int) : bits .and .u64 A B = IntKind.u64.wrap ((BitVec.ofInt 64 A &&& BitVec.ofInt 64 B).toNat : Int) := rfl
theorem and_lowI (X Y : Int) : andI X Y % 18446744073709551616 = bits .and .u64 (X % 18446744073709551616) (Y % 18446744073709551616) := congrArg lowOf (W128_and X Y)
theorem and_low (A B X Y : Int) (ha : A % 18446744073709551616 = X % 18446744073709551616) (hb : B % 18446744073709551616 = Y % 18446744073709551616) : bits .and .i64 A B % 18446744073709551616 = andI X Y % 18446744073709551616 ∧ i64b (bits .and .i64 A B) := by
  have e5 : BitVec.ofInt 64 A = BitVec.ofInt 64 X := by rw [← ofInt_64 A, ha, ofInt_64 X]
  have e6 : BitVec.ofInt 64 B = BitVec.ofInt 64 Y := by rw [← ofInt_64 B, hb, ofInt_64 Y]
  rw [and_lowI, and_u64, and_i64, e5, e6, ofInt_64, ofInt_64]
  exact low_fin _
theorem or_i64 (A B : Int) : bits .or .i64 A B = wrap64 ((BitVec.ofInt 64 A ||| BitVec.ofInt 64 B).toNat : Int) := by
  rw [← i64w]
  rfl
theorem or_u64 (A B : Int) : bits .or .u64 A B = IntKind.u64.wrap ((BitVec.ofInt 64 A ||| BitVec.ofInt 64 B).toNat : Int) := rfl
theorem or_lowI (X Y : Int) : orI X Y % 18446744073709551616 = bits .or .u64 (X % 18446744073709551616) (Y % 18446744073709551616) := congrArg lowOf (W128_or X Y)
theorem or_low (A B X Y : Int) (ha : A % 18446744073709551616 = X % 18446744073709551616) (hb : B % 18446744073709551616 = Y % 18446744073709551616) : bits .or .i64 A B % 18446744073709551616 = orI X Y % 18446744073709551616 ∧ i64b (bits .or .i64 A B) := by
  have e5 : BitVec.ofInt 64 A = BitVec.ofInt 64 X := by rw [← ofInt_64 A, ha, ofInt_64 X]
  have e6 : BitVec.ofInt 64 B = BitVec.ofInt 64 Y := by rw [← ofInt_64 B, hb, ofInt_64 Y]
  rw [or_lowI, or_u64, or_i64, e5, e6, ofInt_64, ofInt_64]
  exact low_fin _
theorem xor_i64 (A B : Int) : bits .xor .i64 A B = wrap64 ((BitVec.ofInt 64 A ^^^ BitVec.ofInt 64 B).toNat : Int) := by
  rw [← i64w]
  rfl
theorem xor_u64 (A B : Int) : bits .xor .u64 A B = IntKind.u64.wrap ((BitVec.ofInt 64 A ^^^ BitVec.ofInt 64 B).toNat : Int) := rfl
theorem xor_lowI (X Y : Int) : xorI X Y % 18446744073709551616 = bits .xor .u64 (X % 18446744073709551616) (Y % 18446744073709551616) := congrArg lowOf (W128_xor X Y)
theorem xor_low (A B X Y : Int) (ha : A % 18446744073709551616 = X % 18446744073709551616) (hb : B % 18446744073709551616 = Y % 18446744073709551616) : bits .xor .i64 A B % 18446744073709551616 = xorI X Y % 18446744073709551616 ∧ i64b (bits .xor .i64 A B) := by
  have e5 : BitVec.ofInt 64 A = BitVec.ofInt 64 X := by rw [← ofInt_64 A, ha, ofInt_64 X]
  have e6 : BitVec.ofInt 64 B = BitVec.ofInt 64 Y := by rw [← ofInt_64 B, hb, ofInt_64 Y]
  rw [xor_lowI, xor_u64, xor_i64, e5, e6, ofInt_64, ofInt_64]
  exact low_fin _
/-- The plain results of the document are the true ones, but for going round in 64 bits. -/
theorem pla_eq {op a b k : Int} (ho : op = 1 ∨ op = 2 ∨ op = 3 ∨ op = 8 ∨ op = 9 ∨ op = 10) : rplaV op a b % 18446744073709551616 = recM op (worM a k) (worM b k) % 18446744073709551616 ∧ i64b (rplaV op a b) := by
  have hw : ∀ n, wrap64 n % 18446744073709551616 = n % 18446744073709551616 ∧ i64b (wrap64 n) := fun n => ⟨by unfold wrap64; omega, w64_in n⟩
  have wa := wor_64 a k
  have wb := wor_64 b k
  rcases ho with rfl | rfl | rfl | rfl | rfl | rfl
  · exact ⟨by show wrap64 (a + b) % _ = (worM a k + worM b k) % _; rw [(hw _).1]; exact (add_mod wa wb).symm, (hw _).2⟩
  · refine ⟨?_, (hw _).2⟩
    show wrap64 (a - b) % _ = (worM a k - worM b k) % _
    rw [(hw _).1]
    omega
  · exact ⟨by show wrap64 (a * b) % _ = (worM a k * worM b k) % _; rw [(hw _).1]; exact (mul_mod wa wb).symm, (hw _).2⟩
  · exact and_low a b _ _ wa.symm wb.symm
  · exact xor_low a b _ _ wa.symm wb.symm
  · exact or_low a b _ _ wa.symm wb.symm
/-- Whether a product of long ones lies in them. -/
theorem pro_eq {a b : Int} (ha : i64b a) (hb : i64b b) : rproM a b = (wrap64 (a * b) == a * b) := by
  have h1 := ha.1; have h2 := ha.2; have h3 := hb.1; have h4 := hb.2
  unfold rproM
  by_cases a0 : a = 0
  · subst a0; simp [wrap64]
  by_cases b0 : b = 0
  · subst b0; simp [wrap64]
  rw [show (a == 0) = false by simpa using a0, show (b == 0) = false by simpa using b0]
  simp only [Bool.false_eq_true, if_false]
  have hP := w64_in (a * b)
  have hmod : (wrap64 (a * b) - a * b) % 18446744073709551616 = 0 := by unfold wrap64; omega
  have hdiv := Int.tdiv_mul_add_tmod (wrap64 (a * b)) b
  have hr := tmod_between (wrap64 (a * b)) b
  have hrb : -absI b < (wrap64 (a * b)).tmod b ∧ (wrap64 (a * b)).tmod b < absI b := by
    rw [tmod_abs]
    have hy : 0 < absI b := by unfold absI; split <;> omega
    have hx : 0 ≤ absI (wrap64 (a * b)) := by unfold absI; split <;> omega
    have l := Int.tmod_lt_of_pos (absI (wrap64 (a * b))) hy
    have g := Int.tmod_nonneg (absI b) hx
    split <;> omega
  have hab : absI b ≤ 9223372036854775808 := by unfold absI; split <;> omega
  cases hq : wrap64 (a * b) == a * b
  · cases hz : (wrap64 ((wrap64 (a * b)).tdiv b) == a)
    · rfl
    · simp only [beq_iff_eq] at hz
      have hq' : wrap64 (a * b) ≠ a * b := by simpa using hq
      have ht := tdiv_abs_le (wrap64 (a * b)) b
      have hp : absI (wrap64 (a * b)) ≤ 9223372036854775808 := by unfold absI; split <;> omega
      have hcase : (wrap64 (a * b)).tdiv b = a ∨ ((wrap64 (a * b)).tdiv b = 9223372036854775808 ∧ a = -9223372036854775808) := by
        generalize (wrap64 (a * b)).tdiv b = t at *
        generalize absI (wrap64 (a * b)) = q at *
        clear hdiv hr hrb hmod hP hq hq'
        unfold wrap64 at hz
        omega
      rcases hcase with h | ⟨h, ha2⟩
      · rw [h] at hdiv
        exfalso
        apply hq'
        generalize a * b = c at *
        omega
      · rw [h] at hdiv
        subst ha2
        have hb1 : b = -1 := by
          generalize wrap64 (-9223372036854775808 * b) = P at *
          by_cases hbp : 0 ≤ b
          · exfalso
            have : absI b = b := by unfold absI; rw [if_neg (by omega)]
            omega
          · have : absI b = -b := by unfold absI; rw [if_pos (by omega)]
            omega
        subst hb1
        simp
  · simp only [beq_iff_eq] at hq
    rw [hq]
    rw [Int.mul_tdiv_cancel _ b0, w64_id ha]
    have n1 : ((a == -9223372036854775808) && (b == -1)) = false := by
      cases hh : ((a == -9223372036854775808) && (b == -1))
      · rfl
      · simp only [Bool.and_eq_true, beq_iff_eq] at hh
        rw [hh.1, hh.2] at hq
        simp [wrap64] at hq
    have n2 : ((b == -9223372036854775808) && (a == -1)) = false := by
      cases hh : ((b == -9223372036854775808) && (a == -1))
      · rfl
      · simp only [Bool.and_eq_true, beq_iff_eq] at hh
        rw [hh.1, hh.2] at hq
        simp [wrap64] at hq
    rw [n1, n2]
    simp
end Go.Proofs.YtobfpdhfmbpidaaDoor
