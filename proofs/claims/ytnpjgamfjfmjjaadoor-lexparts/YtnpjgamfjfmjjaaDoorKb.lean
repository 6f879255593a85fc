/-
  Lists: every word that comes of tokens is right; a number's text bears bytes below 128 alone.
-/
import Derived.Test.YtnpjgamfjfmjjaaDoorKa
namespace Go.Proofs.YtnpjgamfjfmjjaaDoor
open Go Go.RowKit
set_option linter.unusedVariables false
set_option linter.unusedSimpArgs false

theorem kmN_is (v : Int) (d u l : Bool) : ∀ (n : Nat) (k : Int), 5 ≤ k → k + n ≤ 9 → kmN v d u l n k ≠ 0 → 5 ≤ kmN v d u l n k ∧ kmN v d u l n k ≤ 8 ∧ v ≤ grM (kmN v d u l n k)
  | 0, k, _, _, h => absurd rfl h
  | n + 1, k, h5, h9, h => by
    rw [kmN] at h ⊢
    split
    · rename_i hc
      simp only [Bool.and_eq_true, decide_eq_true_eq] at hc
      exact ⟨h5, by omega, hc.2⟩
    · rename_i hc
      rw [if_neg hc] at h
      exact kmN_is v d u l n (k + 1) (by omega) (by omega) h
theorem rInt_of {b k : Int} (h0 : 0 ≤ b) (h1 : b < 18446744073709551616) (h5 : 5 ≤ k) (h8 : k ≤ 8) (hg : b ≤ grM k) : rIntM (Go.RowKit.wrap64 b) k = true := by
  have e : IntKind.u64.wrap (Go.RowKit.wrap64 b) = b := by rw [IntKind.wrap_u64]; unfold Go.RowKit.wrap64; omega
  unfold rIntM
  rw [e]
  simp [h5, h8, hg]
theorem rInt_char {v : Int} (h0 : 0 ≤ v) (h1 : v < 256) : rIntM (Go.RowKit.wrap64 (IntKind.i8.wrap v)) 5 = true := by
  have e8 : IntKind.i8.wrap v = if v < 128 then v else v - 256 := by
    rw [show IntKind.i8.wrap v = (v + 128) % 256 - 128 from by unfold IntKind.wrap; simp [IntKind.bits, IntKind.signed]; omega]
    split <;> omega
  unfold rIntM grM
  rw [e8, IntKind.wrap_u64]
  unfold Go.RowKit.wrap64
  rw [Bool.and_eq_true, Bool.or_eq_true]
  refine ⟨by decide, ?_⟩
  simp
  split <;> omega
theorem right3 (v k : Int) (f : List UInt8) (line : Int) : rightM ⟨3, [], v, k, f, line⟩ = rIntM v k := by simp [rightM]
theorem right_pl (x : Wd) (t : Gt) : rightM (plM x t) = rightM x := rfl
end Go.Proofs.YtnpjgamfjfmjjaaDoor
