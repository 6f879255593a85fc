/-
  burinlaw11.ImageBack: what Put, Get and Spot tell of one another.
-/
import Derived.Test.YtkiebejidpebdaaTb
import Derived.Test.YtkiebejidpebdaaTd
namespace Go.Proofs.Ytkiebejidpebdaa
open Go Go.RowKit Go.Shelf
set_option linter.unusedVariables false
set_option linter.unusedSimpArgs false

theorem fn_of {t : ShT} {path : List Int} (hc : ((chkM t).2 == 0) = true) (ho : okP t path = true) : fnM t path = (spP t path, (chkM t).1.1, 0) := by
  unfold fnM
  rw [if_pos hc, if_pos ho]
theorem fi_of {t : ShT} {n : Nat} {path : List Int} (hc : ((chkM t).2 == 0) = true) (ho : okP t path = true) (hn : (n : Int) = (chkM t).1.1) : fiM t n path = (spP t path, 0) := by
  unfold fiM
  rw [fn_of hc ho]
  have : ((n : Int) != (chkM t).1.1) = false := by simpa using hn
  simp [this]
theorem pt_no {t : ShT} {T : ByteArray} {path : List Int} {v : Int} (h : ((ptM t T path v).2 == 0) = false) : (ptM t T path v).1 = ⟨#[]⟩ := by
  unfold ptM at h ⊢
  split
  · rename_i h2
    rw [if_pos h2] at h
    cases h
  · rfl
/-- What is known where Put tells no error. -/
structure PtO (t : ShT) (T : ByteArray) (path : List Int) (v : Int) (b n : Nat) (k : Int) : Prop where
  chk : ((chkM t).2 == 0) = true
  ok : okP t path = true
  sz : (T.size : Int) = (chkM t).1.1
  few : T.size ≤ 65536
  sp : spP t path = ((b : Int), (n : Int), k)
  n0 : 1 ≤ n
  n1 : n ≤ 64
  fit : b + n ≤ 8 * T.size
  out : ptM t T path v = (toB (wrF (ofB T) v (bitL b n)).1, 0)
theorem pt_yes {t : ShT} {T : ByteArray} {path : List Int} {v : Int} (h : ((ptM t T path v).2 == 0) = true) : ∃ b n k, PtO t T path v b n k := by
  have hf : ((fiM t T.size path).2 == 0) = true := by
    unfold ptM at h
    split at h
    · assumption
    · rename_i h2
      simp only at h
      exact absurd h h2
  obtain ⟨c1, c2, c3, c4, c5, b, n, hb, hn, n0, n1, hfit⟩ := fi_ok hf
  refine ⟨b, n, (spP t path).2.2, ⟨c1, c2, c3, c5, by rw [← hb, ← hn], n0, n1, hfit, ?_⟩⟩
  unfold ptM
  rw [if_pos hf, hb, hn, Int.toNat_natCast, Int.toNat_natCast]
theorem PtO.size {t : ShT} {T : ByteArray} {path : List Int} {v : Int} {b n : Nat} {k : Int} (h : PtO t T path v b n k) : (ptM t T path v).1.size = T.size := by
  rw [h.out]
  simp only
  rw [toB_len, wrF_len, ofB_len]
/-- A number read of as many bytes as the type has. -/
theorem gt_of {t : ShT} {T : ByteArray} {path : List Int} (hc : ((chkM t).2 == 0) = true) (ho : okP t path = true) (hn : (T.size : Int) = (chkM t).1.1) : gtM t T path = (rdM T (spP t path).1.toNat (spP t path).2.1.toNat (spP t path).2.2, 0) := by
  unfold gtM
  rw [fi_of hc ho hn]
  rfl
theorem pow_two_mul {n : Nat} (h : n ≤ 64) : ((2 ^ n : Nat) : Int) * ((2 ^ (64 - n) : Nat) : Int) = 18446744073709551616 := by
  rw [← Int.natCast_mul, ← Nat.pow_add, show n + (64 - n) = 64 by omega]
  rfl
/-- What counts of two numbers that are pushed out. -/
theorem push_eq {a v : Int} {n : Nat} (h : n ≤ 64) (he : a % ((2 ^ n : Nat) : Int) = v % ((2 ^ n : Nat) : Int)) : IntKind.u64.wrap (IntKind.u64.wrap a * 2 ^ (64 - n)) = IntKind.u64.wrap (IntKind.u64.wrap v * 2 ^ (64 - n)) := by
  have hp := pow_two_mul h
  have hc : ((2 : Int) ^ (64 - n)) = ((2 ^ (64 - n) : Nat) : Int) := by rw [Int.natCast_pow]; rfl
  rw [hc]
  have e1 := Int.mul_ediv_add_emod a ((2 ^ n : Nat) : Int)
  have e2 := Int.mul_ediv_add_emod v ((2 ^ n : Nat) : Int)
  rw [he] at e1
  generalize ((2 ^ (64 - n) : Nat) : Int) = M at *
  generalize ((2 ^ n : Nat) : Int) = N at *
  have key : ∀ x : Int, IntKind.u64.wrap (IntKind.u64.wrap x * M) = (x * M) % 18446744073709551616 := fun x => by
    rw [IntKind.wrap_u64, IntKind.wrap_u64]
    have ex := Int.mul_ediv_add_emod x 18446744073709551616
    conv => rhs; rw [← ex]
    rw [Int.add_mul, Int.mul_assoc, Int.mul_add_emod_self_left]
  rw [key, key]
  have d : a * M = v * M + 18446744073709551616 * (a / N - v / N) := by
    have : a - v = N * (a / N - v / N) := by rw [Int.mul_sub]; omega
    have h2 : (a - v) * M = N * M * (a / N - v / N) := by rw [this, Int.mul_right_comm]
    rw [hp, Int.sub_mul] at h2
    omega
  rw [d, Int.add_mul_emod_self_left]
end Go.Proofs.Ytkiebejidpebdaa
