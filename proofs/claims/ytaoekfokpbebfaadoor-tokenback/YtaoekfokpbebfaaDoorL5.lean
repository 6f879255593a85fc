/-
  Plain lists: the tokens of lines are those of both parts.
-/
import Derived.Test.YtaoekfokpbebfaaDoorL4
namespace Go.Proofs.YtaoekfokpbebfaaDoor.Tk

theorem cl_app : ∀ {l l' : List Ln} (m : List Ln), cl l = some l' → cl (l ++ m) = some (l' ++ m)
  | (n, s) :: r, l', m, h => by
    rw [cl] at h
    rw [List.cons_append, cl]
    split at h
    · rename_i t ht
      cases h
      rfl
    · exact cl_app m h
theorem cl_ne : ∀ {l l' : List Ln}, cl l = some l' → l' ≠ []
  | (n, s) :: r, l', h => by
    rw [cl] at h
    split at h
    · cases h; simp
    · exact cl_ne h
/-- No error among events. -/
def fine (e : List (T × Int)) : Prop := ∀ x ∈ e, x.2 = 0
theorem er_not_fine (e n : Int) (he : e ≠ 0) : ¬ fine [er e n] := fun h => he (h _ (List.mem_singleton.2 rfl))
theorem evF_app : ∀ (f : Nat) (l m : List Ln) (sp fi : Bool), wt l ≤ f → fine (evF f l sp fi) → (l ≠ [] ∨ (sp = false ∧ fi = true)) → ev (l ++ m) sp fi = evF f l sp fi ++ ev m false true
  | 0, [], m, sp, fi, hf, hg, hl => by
    rcases hl with h | ⟨rfl, rfl⟩
    · exact absurd rfl h
    · simp [evF]
  | 0, (n, s) :: r, m, sp, fi, hf, hg, hl => by simp [wt] at hf
  | f + 1, [], m, sp, fi, hf, hg, hl => by
    rcases hl with h | ⟨rfl, rfl⟩
    · exact absurd rfl h
    · simp [evF]
  | f + 1, (n, []) :: r, m, sp, fi, hf, hg, hl => by
    rw [List.cons_append, ev_end, evF]
    rw [evF] at hg
    exact evF_app f r m false true (by simp [wt] at hf; omega) hg (.inr ⟨rfl, rfl⟩)
  | f + 1, (n, c :: s) :: r, m, sp, fi, hf, hg, hl => by
    rw [evF] at hg ⊢
    rw [List.cons_append]
    split at hg
    · rename_i h1
      rw [ev_line _ _ _ h1, if_pos h1]
      exact evF_app f r m false true (by simp [wt] at hf; omega) hg (.inr ⟨rfl, rfl⟩)
    · rename_i h1
      rw [if_neg h1]
      split at hg
      · rename_i h2
        rw [if_pos h2, ev_open _ _ _ h2]
        split at hg
        · exact absurd hg (er_not_fine _ _ (by decide))
        · rename_i l hl2
          have ha := cl_app m hl2
          have hw := cl_wt hl2
          simp only [List.drop_succ_cons] at ha ⊢
          rw [List.cons_append] at ha
          rw [evO, ha]
          exact evF_app f l m true fi (by simp [wt] at hw hf; omega) hg (.inl (cl_ne hl2))
      · rename_i h2
        rw [if_neg h2]
        split at hg
        · rename_i h3
          rw [if_pos h3, ev_blank _ _ _ h3]
          have := evF_app f ((n, s) :: r) m true fi (by simp [wt] at hf ⊢; omega) hg (.inl (by simp))
          rw [List.cons_append] at this
          exact this
        · rename_i h3
          rw [if_neg h3]
          have hT : isT (c :: s) = true := by rw [isT_iff]; simp [h1, h2, h3]
          split at hg
          · exact absurd hg (er_not_fine _ _ (by decide))
          · rename_i h4
            rw [if_neg h4, ev_tok _ _ _ hT h4, List.cons_append]
            congr 1
            have := evF_app f ((n, (c :: s).drop (ms (c :: s)).2) :: r) m false false (by simp [wt] at hf ⊢; omega) (fun x hx => hg x (List.mem_cons_of_mem _ hx)) (.inl (by simp))
            rw [List.cons_append] at this
            exact this
theorem ev_app {l : List Ln} (m : List Ln) (h : fine (ev l false true)) : ev (l ++ m) false true = ev l false true ++ ev m false true := evF_app _ l m false true (Nat.le_refl _) h (.inr ⟨rfl, rfl⟩)
theorem col_fine : ∀ (e : List (T × Int)) (out : List T), (col out e).2.1 = 0 → fine e ∧ (col out e).1 = out ++ e.map Prod.fst ∧ (e = [] ∨ (out.length + e.length ≤ 20000)) ∧ (col out e).2.2 = 0
  | [], out, h => ⟨fun x hx => (by simp at hx), by simp [col], .inl rfl, rfl⟩
  | (t, e) :: r, out, h => by
    rw [col] at h ⊢
    split at h
    · rename_i he
      rw [if_pos he]
      split at h
      · rename_i hl
        rw [if_pos hl]
        obtain ⟨h1, h2, h3, h4⟩ := col_fine r _ h
        refine ⟨fun x hx => ?_, ?_, ?_, h4⟩
        · rcases List.mem_cons.1 hx with rfl | hx
          · exact he
          · exact h1 x hx
        · rw [h2]; simp
        · right
          rcases h3 with rfl | h3
          · simp; omega
          · simp at h3 ⊢; omega
      · simp at h
    · rename_i he
      simp only at h
      exact absurd h he
theorem col_of_fine : ∀ (e : List (T × Int)) (out : List T), fine e → out.length + e.length ≤ 20000 → col out e = (out ++ e.map Prod.fst, 0, 0)
  | [], out, h, hl => by simp [col]
  | (t, e) :: r, out, h, hl => by
    have he : e = 0 := h (t, e) (List.mem_cons_self ..)
    simp at hl
    rw [col, if_pos he, if_pos (by omega), col_of_fine r _ (fun x hx => h x (List.mem_cons_of_mem _ hx)) (by simp; omega)]
    simp
/-- The tokens of both parts, one behind the other. -/
theorem lex_parts {l m : List Ln} (hl : (lex l).2.1 = 0) (hm : (lex m).2.1 = 0) (h : (lex l).1.length + (lex m).1.length ≤ 20000) : lex (l ++ m) = ((lex l).1 ++ (lex m).1, 0, 0) := by
  obtain ⟨a1, a2, _, _⟩ := col_fine _ _ hl
  obtain ⟨b1, b2, _, _⟩ := col_fine _ _ hm
  simp only [lex] at h ⊢
  rw [a2, b2] at h ⊢
  rw [ev_app m a1, col_of_fine _ _ (fun x hx => by
    rcases List.mem_append.1 hx with h | h
    · exact a1 x h
    · exact b1 x h) (by simp at h ⊢; omega)]
  simp
end Go.Proofs.YtaoekfokpbebfaaDoor.Tk
