/-
  Plain lists: a token is a piece of its line; beside an error there are none.
-/
import Derived.Test.YtaoekfokpbebfaaDoorL5
namespace Go.Proofs.YtaoekfokpbebfaaDoor.Tk

theorem fc_suf : ∀ {s t : List UInt8}, fc s = some t → t <:+ s
  | c :: r, t, h => by
    rw [fc] at h
    split at h
    · cases h
      exact (List.drop_suffix 1 r).trans (List.suffix_cons c r)
    · exact (fc_suf h).trans (List.suffix_cons c r)
theorem ev_infix (n : Int) : ∀ (f : Nat) (s : List UInt8) (sp fi : Bool) (x : T × Int), x ∈ evF f [(n, s)] sp fi → x.1.s <:+: s
  | 0, _, _, _, x, h => by simp [evF] at h
  | f + 1, [], sp, fi, x, h => by
    rw [evF] at h
    cases f <;> simp [evF] at h
  | f + 1, c :: s, sp, fi, x, h => by
    rw [evF] at h
    split at h
    · cases f <;> simp [evF] at h
    · split at h
      · split at h
        · simp at h; subst h; simp [er]
        · rename_i l hl
          rw [cl] at hl
          split at hl
          · rename_i t ht
            cases hl
            have := ev_infix n f t true fi x h
            exact this.trans (((fc_suf ht).trans ((List.drop_suffix 1 s).trans (List.suffix_cons c s))).isInfix)
          · simp [cl] at hl
      · split at h
        · exact (ev_infix n f s true fi x h).trans (List.suffix_cons c s).isInfix
        · split at h
          · simp at h; subst h; simp [er]
          · rcases List.mem_cons.1 h with rfl | h
            · exact (List.take_prefix _ _).isInfix
            · exact (ev_infix n f _ false false x h).trans (List.drop_suffix _ _).isInfix
theorem lex_infix {n : Int} {s : List UInt8} {t : T} (h : t ∈ (lex [(n, s)]).1) : t.s <:+: s := by
  rcases col_mem _ _ t h with h1 | h1
  · simp at h1
  · exact ev_infix n _ _ _ _ _ h1
theorem infix_eq {a b : List UInt8} (h : a <:+: b) (hl : a.length = b.length) : a = b := h.eq_of_length hl
theorem col_err : ∀ (e : List (T × Int)) (out : List T), (col out e).2.1 ≠ 0 → (col out e).1 = []
  | [], out, h => absurd rfl h
  | (t, e) :: r, out, h => by
    rw [col] at h ⊢
    split
    · rename_i he
      rw [if_pos he] at h
      split
      · rename_i hl
        rw [if_pos hl] at h
        exact col_err r _ h
      · rfl
    · rfl
theorem lex_err {l : List Ln} (h : (lex l).2.1 ≠ 0) : (lex l).1 = [] := col_err _ _ h
end Go.Proofs.YtaoekfokpbebfaaDoor.Tk
