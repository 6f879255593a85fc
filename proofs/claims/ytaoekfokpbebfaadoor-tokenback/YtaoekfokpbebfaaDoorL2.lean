/-
  Plain lists: a token is no longer than the text that it begins.
-/
import Derived.Test.YtaoekfokpbebfaaDoorL1
namespace Go.Proofs.YtaoekfokpbebfaaDoor.Tk

theorem nmL_le : ∀ s, nmL s ≤ s.length
  | [] => Nat.le_refl _
  | c :: r => by
    have := nmL_le r
    rw [nmL]; split <;> simp <;> omega
theorem nuL_le : ∀ a s, nuL a s ≤ s.length
  | _, [] => Nat.le_refl _
  | a, c :: r => by
    have := nuL_le c r
    rw [nuL]; split <;> simp <;> omega
theorem up_le (m n : Nat) (h : m ≤ n) : up m ≤ n + 1 := by unfold up; split <;> omega
theorem quL_le (q : UInt8) : ∀ e s, quL q e s ≤ s.length
  | true, [] => by simp [quL]
  | false, [] => by simp [quL]
  | true, c :: r => by rw [quL]; exact up_le _ _ (quL_le q false r)
  | false, c :: r => by
    have h1 := up_le _ _ (quL_le q true r)
    have h2 := up_le _ _ (quL_le q false r)
    rw [quL, List.length_cons]
    split
    · exact h1
    · split
      · omega
      · exact h2
theorem sgL_le (s : List UInt8) : sgL s ≤ s.length := by
  unfold sgL
  split
  · rename_i h; simp at h; exact h.1
  · split
    · rename_i h; simp at h; exact h.1
    · split
      · rename_i h; simp at h; omega
      · omega
theorem ms_le {s : List UInt8} (h : s ≠ []) : (ms s).2 ≤ s.length := by
  cases s with
  | nil => exact absurd rfl h
  | cons c r =>
    have h1 := nuL_le c r
    have h2 := nmL_le r
    have h3 := up_le _ _ (quL_le 39 false r)
    have h4 := up_le _ _ (quL_le 34 false r)
    have h5 := sgL_le (c :: r)
    rw [ms]
    split
    · simp; omega
    · split
      · simp; omega
      · split
        · simp only [List.length_cons]; split <;> omega
        · split
          · simpa using h4
          · split
            · exact h5
            · simp
theorem isT_ne {s : List UInt8} (h : isT s = true) : s ≠ [] := fun e => by subst e; cases h
end Go.Proofs.YtaoekfokpbebfaaDoor.Tk
