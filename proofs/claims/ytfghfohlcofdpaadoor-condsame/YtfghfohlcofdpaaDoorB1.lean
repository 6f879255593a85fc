/-
  Package cond: settle.
-/
import Derived.Test.YtfghfohlcofdpaaDoorA9
namespace Go.Proofs.YtfghfohlcofdpaaDoor
open Go Go.RowKit
set_option linter.unusedVariables false
set_option linter.unusedSimpArgs false

/-- A value's bits are 64. -/
def okV (v : Vl) : Prop := 0 ≤ v.b ∧ v.b < 18446744073709551616
/-- All that waits and binds at least as tightly is worked out. -/
def settleM (l : Int) : List Wt → Bool → Vl → List Wt × Bool × Vl
  | [], und, v => ([], und, v)
  | x :: st, und, v => if l ≤ x.lev then settleM l st (und || (!(ofM x v).2 && skN st == 0)) (ofM x v).1 else (x :: st, und, v)
theorem wrapU (n : Int) : 0 ≤ IntKind.u64.wrap n ∧ IntKind.u64.wrap n < 18446744073709551616 := by rw [IntKind.wrap_u64]; omega
theorem ok_truth (b : Bool) : okV (truthM b) := by cases b <;> exact ⟨by decide, by decide⟩
theorem ok_pref (s : List UInt8) {v : Vl} (h : okV v) : okV (prefM s v) := by
  unfold prefM
  split
  · exact ok_truth _
  · split
    · exact wrapU _
    · split
      · exact ⟨bits_lo_u64 .xor _ _, by have := bits_hi_u64 .xor IntKind.u64.max v.b; show bits .xor .u64 IntKind.u64.max v.b < _; omega⟩
      · exact h
theorem ok_join (s : List UInt8) (a b : Int) : 0 ≤ joinM s a b ∧ joinM s a b < 18446744073709551616 := by
  unfold joinM
  split
  · exact wrapU _
  · split
    · exact wrapU _
    · split
      · exact wrapU _
      · split
        · exact ⟨bits_lo_u64 .and _ _, by have := bits_hi_u64 .and a b; omega⟩
        · split
          · exact ⟨bits_lo_u64 .xor _ _, by have := bits_hi_u64 .xor a b; omega⟩
          · exact ⟨bits_lo_u64 .or _ _, by have := bits_hi_u64 .or a b; omega⟩
theorem ok_shift (s : List UInt8) {a : Vl} (h : okV a) (y : Int) : 0 ≤ (shiftM s a y).1 ∧ (shiftM s a y).1 < 18446744073709551616 := by
  unfold shiftM
  split
  · exact ⟨by decide, by decide⟩
  · split
    · exact wrapU _
    · split
      · have hp : (0 : Int) < 2 ^ y.toNat := Int.pow_pos (by decide)
        refine ⟨Int.ediv_nonneg h.1 (by omega), Int.lt_of_le_of_lt (Int.ediv_le_self _ h.1) h.2⟩
      · exact wrapU _
theorem ok_div (s : List UInt8) {a b : Int} (ha : 0 ≤ a ∧ a < 18446744073709551616) (hb : 0 ≤ b ∧ b < 18446744073709551616) (u : Bool) : 0 ≤ (divM s a b u).1 ∧ (divM s a b u).1 < 18446744073709551616 := by
  unfold divM
  split
  · exact ⟨by decide, by decide⟩
  · split
    · split
      · exact wrapU _
      · rw [Int.tmod_eq_emod_of_nonneg ha.1]
        refine ⟨Int.emod_nonneg _ (by assumption), ?_⟩
        have h0 : ¬ b = 0 := by assumption
        exact Int.lt_trans (Int.emod_lt_of_pos a (by omega)) hb.2
    · split
      · exact wrapU _
      · exact wrapU _
theorem ok_of {x : Wt} {v : Vl} (hx : okV x.a) (hv : okV v) : okV (ofM x v).1 := by
  unfold ofM
  simp only
  split
  · exact ok_pref _ hv
  · split
    · cases x.taken
      · exact hv
      · exact hx
    · split
      · exact ok_truth _
      · split
        · exact ok_truth _
        · split
          · exact ok_truth _
          · split
            · exact ok_truth _
            · split
              · exact ok_shift _ hx _
              · split
                · exact ok_div _ hx hv _
                · exact ok_join _ _ _
end Go.Proofs.YtfghfohlcofdpaaDoor
