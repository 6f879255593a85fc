/-
  Lists: the words of two lists of tokens, one behind the other; every word is right.
-/
import Derived.Test.YtnpjgamfjfmjjaaDoorXj
namespace Go.Proofs.YtnpjgamfjfmjjaaDoor
open Go Go.RowKit
set_option linter.unusedVariables false
set_option linter.unusedSimpArgs false

/-- Not both lists have texts at the seam. -/
def Seam (l m : List Gt) : Prop := ∀ t u, l.getLast? = some t → m.head? = some u → (t.kind == 4) = true → (u.kind == 4) = false
theorem tx_bad (a : Gt) (m : List Gt) : ∀ (l : List Gt) (acc : List UInt8), (txM a acc l).2.2 = false → (txM a acc (l ++ m)).2.2 = false
  | [], acc, h => by simp [txM] at h
  | t :: r, acc, h => by
    rw [List.cons_append]
    rw [txM_step] at h ⊢
    cases hk : t.kind == 4
    · rw [hk] at h; simp at h
    · rw [hk] at h
      simp only [if_true] at h ⊢
      cases hu : (unqM t.s).2
      · simp
      · rw [hu] at h
        simp only [if_true] at h ⊢
        split
        · rfl
        · rename_i hlen
          rw [if_neg hlen] at h
          exact tx_bad a m r _ h
theorem tx_good (a : Gt) (m : List Gt) : ∀ (l : List Gt) (acc : List UInt8), Seam l m → (l = [] → ∀ u, m.head? = some u → (u.kind == 4) = false) → (txM a acc l).2.2 = true → txM a acc (l ++ m) = txM a acc l
  | [], acc, _, h0, h => by
    cases m with
    | nil => rfl
    | cons u m' =>
      have := h0 rfl u rfl
      rw [List.nil_append, txM_step, this]
      rfl
  | t :: r, acc, hs, _, h => by
    rw [List.cons_append]
    rw [txM_step] at h ⊢
    rw [txM_step a t acc r]
    cases hk : t.kind == 4
    · simp
    · rw [hk] at h
      simp only [if_true] at h ⊢
      cases hu : (unqM t.s).2
      · rfl
      · rw [hu] at h
        simp only [if_true] at h ⊢
        split
        · rfl
        · rename_i hlen
          rw [if_neg hlen] at h
          have hs' : Seam r m := fun x u hx hu' => by
            cases r with
            | nil => simp at hx
            | cons y r' => exact hs x u (by rw [List.getLast?_cons_cons]; exact hx) hu'
          have h0' : r = [] → ∀ u, m.head? = some u → (u.kind == 4) = false := fun hr u hu' => by
            subst hr; exact hs t u rfl hu' hk
          rw [tx_good a m r _ hs' h0' h]
theorem tx_word (a : Gt) : ∀ (l : List Gt) (acc : List UInt8), acc.length ≤ 4096 → (txM a acc l).2.2 = true → ∃ z : List UInt8, (txM a acc l).1 = ⟨4, z, 0, 0, a.f, a.line⟩ ∧ z.length ≤ 4096
  | [], acc, ha, _ => ⟨acc, rfl, ha⟩
  | t :: r, acc, ha, h => by
    rw [txM_step] at h ⊢
    cases hk : t.kind == 4
    · exact ⟨acc, by simp, ha⟩
    · rw [hk] at h
      simp only [if_true] at h ⊢
      cases hu : (unqM t.s).2
      · rw [hu] at h; simp at h
      · rw [hu] at h
        simp only [if_true] at h ⊢
        split
        · rename_i hlen; rw [if_pos hlen] at h; cases h
        · rename_i hlen
          rw [if_neg hlen] at h
          exact tx_word a r _ (by simp; omega) h
theorem seam_drop {l m : List Gt} (h : Seam l m) (n : Nat) : Seam (l.drop n) m := fun t u ht hu => by
  refine h t u ?_ hu
  have hn : l.drop n ≠ [] := by intro e; rw [e] at ht; simp at ht
  rw [← List.take_append_drop n l, List.getLast?_append, ht]
  rfl
theorem fi_good {t : Gt} {r m : List Gt} (hs : Seam (t :: r) m) (h : (fiM (t :: r)).2.2 = true) : fiM ((t :: r) ++ m) = fiM (t :: r) := by
  rw [List.cons_append]
  unfold fiM at h ⊢
  cases hk : t.kind == 4
  · simp [hk]
  · simp only [hk, if_true] at h ⊢
    exact tx_good t m (t :: r) [] hs (fun h => by cases h) h
theorem fi_bad {t : Gt} {r m : List Gt} (h : (fiM (t :: r)).2.2 = false) : (fiM ((t :: r) ++ m)).2.2 = false := by
  rw [List.cons_append]
  unfold fiM at h ⊢
  cases hk : t.kind == 4
  · simp only [hk, Bool.false_eq_true, if_false] at h ⊢
    exact h
  · simp only [hk, if_true] at h ⊢
    exact tx_bad t m (t :: r) [] h
def allOk (e : List (Wd × Bool)) : Bool := e.all Prod.snd
theorem wev_app : ∀ (n : Nat) (l m : List Gt), l.length ≤ n → Seam l m → (allOk (wev l) = true → wev (l ++ m) = wev l ++ wev m) ∧ (allOk (wev l) = false → allOk (wev (l ++ m)) = false) := by
  intro n
  induction n with
  | zero =>
    intro l m hl _
    obtain rfl : l = [] := List.length_eq_zero_iff.1 (by omega)
    exact ⟨fun _ => rfl, fun h => by cases h⟩
  | succ n ih =>
    intro l m hl hs
    match l, hl, hs with
    | [], _, _ => exact ⟨fun _ => rfl, fun h => by cases h⟩
    | t :: r, hl, hs =>
      cases hf : (fiM (t :: r)).2.2
      · have hb := fi_bad (m := m) hf
        have e1 := wev_step t r
        have e2 := wev_step t (r ++ m)
        rw [← List.cons_append, hb] at e2
        rw [hf] at e1
        refine ⟨fun h => ?_, fun _ => ?_⟩
        · rw [e1] at h; simp [allOk] at h
        · rw [e2]; simp [allOk]
      · have hg := fi_good hs hf
        have hp := fiM_pos t r hf
        have e1 := wev_step t r
        have e2 := wev_step t (r ++ m)
        rw [← List.cons_append, hg, hf, List.drop_append_of_le_length hp.2] at e2
        rw [hf] at e1
        simp only [if_true] at e1 e2
        obtain ⟨i1, i2⟩ := ih ((t :: r).drop (fiM (t :: r)).2.1) m (by simp at hl ⊢; omega) (seam_drop hs _)
        rw [e1, e2]
        refine ⟨fun h => ?_, fun h => ?_⟩
        · have h' : allOk (wev ((t :: r).drop (fiM (t :: r)).2.1)) = true := by simpa [allOk] using h
          rw [i1 h']; rfl
        · have h' : allOk (wev ((t :: r).drop (fiM (t :: r)).2.1)) = false := by
            unfold allOk at h ⊢
            rw [List.all_cons] at h
            simpa using h
          have := i2 h'
          unfold allOk at this ⊢
          rw [List.all_cons, this, Bool.and_false]
theorem wcol_ok : ∀ (e : List (Wd × Bool)) (out : List Wd), allOk e = true → wcol out e = (out ++ e.map Prod.fst, 0, [], 0)
  | [], out, _ => by simp [wcol]
  | (x, ok) :: r, out, h => by
    unfold allOk at h
    rw [List.all_cons, Bool.and_eq_true] at h
    obtain ⟨h1, h2⟩ := h
    have h1' : ok = true := h1
    subst h1'
    rw [wcol, if_pos rfl, wcol_ok r _ h2]
    simp
theorem wcol_no : ∀ (e : List (Wd × Bool)) (out : List Wd), allOk e = false → (wcol out e).1 = [] ∧ (wcol out e).2.1 = 70
  | [], out, h => by cases h
  | (x, ok) :: r, out, h => by
    cases ok
    · exact ⟨rfl, rfl⟩
    · unfold allOk at h
      rw [List.all_cons] at h
      rw [wcol, if_pos rfl]
      exact wcol_no r _ (by simpa [allOk] using h)
/-- The words of two lists are the words of both, or there is an error. -/
theorem wsM_app (l m : List Gt) (hs : Seam l m) :
    ((wsM l).2.1 = 0 ∧ (wsM m).2.1 = 0 ∧ (wsM (l ++ m)).2.1 = 0 ∧ (wsM (l ++ m)).1 = (wsM l).1 ++ (wsM m).1) ∨
    (((wsM l).2.1 = 70 ∨ (wsM m).2.1 = 70) ∧ (wsM (l ++ m)).2.1 = 70) := by
  obtain ⟨h1, h2⟩ := wev_app l.length l m (Nat.le_refl _) hs
  unfold wsM
  cases hl : allOk (wev l)
  · exact .inr ⟨.inl (wcol_no _ _ hl).2, (wcol_no _ _ (h2 hl)).2⟩
  · rw [h1 hl]
    cases hm : allOk (wev m)
    · exact .inr ⟨.inr (wcol_no _ _ hm).2, (wcol_no _ _ (by unfold allOk at *; rw [List.all_append, hm, Bool.and_false])).2⟩
    · refine .inl ?_
      rw [wcol_ok _ _ hl, wcol_ok _ _ hm, wcol_ok _ _ (by unfold allOk at *; rw [List.all_append, hl, hm]; rfl)]
      exact ⟨rfl, rfl, rfl, by simp⟩
end Go.Proofs.YtnpjgamfjfmjjaaDoor
