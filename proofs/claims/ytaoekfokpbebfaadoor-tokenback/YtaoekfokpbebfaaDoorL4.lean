/-
  Plain lists: tokens are no longer than their lines, and there are at most 20000.
-/
import Derived.Test.YtaoekfokpbebfaaDoorL3
namespace Go.Proofs.YtaoekfokpbebfaaDoor.Tk

theorem ev_len : ∀ (f : Nat) (l : List Ln) (sp fi : Bool) (x : T × Int), x ∈ evF f l sp fi → x.1.s.length ≤ wt l
  | 0, _, _, _, x, h => by simp [evF] at h
  | f + 1, [], _, _, x, h => by simp [evF] at h
  | f + 1, (n, []) :: r, sp, fi, x, h => by
    rw [evF] at h
    have := ev_len f _ _ _ x h
    simp [wt]; omega
  | f + 1, (n, c :: s) :: r, sp, fi, x, h => by
    rw [evF] at h
    split at h
    · have := ev_len f _ _ _ x h
      simp [wt]; omega
    · split at h
      · split at h
        · simp at h; subst h; simp [er]
        · rename_i l hl
          have h1 := ev_len f _ _ _ x h
          have h2 := cl_wt hl
          simp [wt] at h2 ⊢; omega
      · split at h
        · have := ev_len f _ _ _ x h
          simp [wt] at this ⊢; omega
        · split at h
          · simp at h; subst h; simp [er]
          · rcases List.mem_cons.1 h with rfl | h
            · simp [wt]; omega
            · have := ev_len f _ _ _ x h
              simp [wt] at this ⊢; omega
theorem col_len : ∀ (e : List (T × Int)) (out : List T), out.length ≤ 20000 → (col out e).1.length ≤ 20000
  | [], out, h => h
  | (u, e) :: r, out, h => by
    rw [col]
    split
    · split
      · exact col_len r _ (by simp; omega)
      · simp
    · simp
theorem lex_short {l : List Ln} {t : T} (h : t ∈ (lex l).1) : t.s.length ≤ wt l := by
  rcases col_mem _ _ t h with h1 | h1
  · simp at h1
  · exact ev_len _ _ _ _ _ h1
theorem lex_len (l : List Ln) : (lex l).1.length ≤ 20000 := col_len _ _ (by simp)
end Go.Proofs.YtaoekfokpbebfaaDoor.Tk
