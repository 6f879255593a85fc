/-
  Plain lists: a text of one line, with more blanks where there are some.
-/
import Derived.Test.YtaoekfokpbebfaaDoorL8
namespace Go.Proofs.YtaoekfokpbebfaaDoor.Tk
set_option linter.unusedSimpArgs false
set_option linter.unusedVariables false

/-- The four kinds of blanks. -/
def bks : List (List UInt8) := [[32], [9], [47, 42, 42, 47], [11, 12, 32, 47, 42, 32, 39, 32, 42, 47]]
theorem ev_bks {b : List UInt8} (hb : b ∈ bks) (n : Int) (z : List UInt8) (R : List Ln) (sp fi : Bool) : ev ((n, b ++ z) :: R) sp fi = ev ((n, z) :: R) true fi := by
  simp only [bks, List.mem_cons, List.mem_nil_iff, or_false] at hb
  rcases hb with rfl | rfl | rfl | rfl
  · exact ev_blank R sp fi (by decide)
  · exact ev_blank R sp fi (by decide)
  · have h1 : pre [47, 42] ([47, 42, 42, 47] ++ z) = true := by simp [pre, List.isPrefixOf]
    rw [ev_open R sp fi h1]
    have h2 : pre [42, 47] (([47, 42, 42, 47] ++ z).drop 2) = true := by simp [pre, List.isPrefixOf]
    rw [evO_yes R fi h2]
    rfl
  · simp only [List.cons_append, List.nil_append]
    rw [ev_blank R sp fi (by decide), ev_blank R _ fi (by decide), ev_blank R _ fi (by decide)]
    have h1 : pre [47, 42] (47 :: 42 :: 32 :: 39 :: 32 :: 42 :: 47 :: z) = true := by simp [pre, List.isPrefixOf]
    rw [ev_open R _ fi h1]
    simp only [List.drop_succ_cons, List.drop_zero]
    rw [evO_no R fi (by simp [pre, List.isPrefixOf]), evO_no R fi (by simp [pre, List.isPrefixOf]), evO_no R fi (by simp [pre, List.isPrefixOf])]
    have h2 : pre [42, 47] (42 :: 47 :: z) = true := by simp [pre, List.isPrefixOf]
    rw [evO_yes R fi h2]
    rfl
def tail6 : List UInt8 := [32, 47, 47, 32, 39, 32]
theorem ev_tail (n : Int) (sp fi : Bool) : ev [(n, tail6)] sp fi = [] := by
  unfold tail6
  rw [ev_blank [] sp fi (by decide), ev_line [] true fi (by decide)]
  rfl
/-- Tokens behind each other, 'sep' ahead of those that have blanks ahead (but the first one). -/
def tQ (sep : List UInt8) : Bool → List T → List UInt8
  | _, [] => []
  | f, t :: r => (if t.sp && !f then sep else []) ++ (t.s ++ tQ sep false r)
theorem tQ_tx (sep tl : List UInt8) : ∀ (r : List T) (t : T), tx sep tl (t :: r) = t.s ++ (tQ sep false r ++ tl)
  | [], t => by simp [tQ, tx]
  | t2 :: r, t => by
    rw [tx_two, tQ_tx sep tl r t2, tQ]
    by_cases h : t2.sp = true
    · simp [h]
    · simp [h]
theorem tQ_snoc (sep : List UInt8) : ∀ (l : List T) (f : Bool) (t : T), tQ sep f (l ++ [t]) = tQ sep f l ++ ((if t.sp && !(f && l.isEmpty) then sep else []) ++ t.s)
  | [], f, t => by simp [tQ]
  | x :: r, f, t => by
    rw [List.cons_append, tQ, tQ, tQ_snoc sep r false t]
    simp
/-- The tokens of one line: none but the first one is First. -/
theorem row_ev (n : Int) : ∀ (f : Nat) (s : List UInt8) (sp fi : Bool), row ((evF f [(n, s)] sp fi).map Prod.fst) := by
  have key : ∀ (f : Nat) (s : List UInt8) (sp : Bool) (x : T × Int), x ∈ evF f [(n, s)] sp false → x.1.fi = false := by
    intro f
    induction f with
    | zero => intro s sp x h; simp [evF] at h
    | succ f ih =>
      intro s sp x h
      cases s with
      | nil => rw [evF] at h; cases f <;> simp [evF] at h
      | cons c s =>
        rw [evF] at h
        split at h
        · cases f <;> simp [evF] at h
        · split at h
          · split at h
            · simp at h; subst h; rfl
            · rename_i l hl
              rw [cl] at hl
              split at hl
              · cases hl; exact ih _ _ _ h
              · simp [cl] at hl
          · split at h
            · exact ih _ _ _ h
            · split at h
              · simp at h; subst h; rfl
              · rcases List.mem_cons.1 h with rfl | h
                · rfl
                · exact ih _ _ _ h
  have key2 : ∀ (f : Nat) (s : List UInt8) (sp fi : Bool), row ((evF f [(n, s)] sp fi).map Prod.fst) := by
    intro f
    induction f with
    | zero => intro s sp fi; simp [evF, row]
    | succ f ih =>
      intro s sp fi
      cases s with
      | nil => rw [evF]; cases f <;> simp [evF, row]
      | cons c s =>
        rw [evF]
        split
        · cases f <;> simp [evF, row]
        · split
          · split
            · simp [row]
            · rename_i l hl
              rw [cl] at hl
              split at hl
              · cases hl; exact ih _ _ _
              · simp [cl] at hl
          · split
            · exact ih _ _ _
            · split
              · simp [row]
              · simp only [List.map_cons]
                intro t ht
                obtain ⟨x, hx, rfl⟩ := List.mem_map.1 ht
                exact key _ _ _ _ hx
  exact key2
/-- What a line with more blanks reads as. -/
theorem lex_blanks {n : Int} {s b : List UInt8} (hb : b ∈ bks) (hok : (lex [(n, s)]).2.1 = 0) :
    lex [(n, b ++ (tQ (32 :: b) true (lex [(n, s)]).1 ++ tail6))] = ((nt n true true (lex [(n, s)]).1).map Prod.fst, 0, 0) := by
  obtain ⟨h1, h2, h3, _⟩ := col_fine _ _ hok
  have hlen := lex_len [(n, s)]
  have hst := (ev_st _ _ _ _ h1)
  have h2' : (lex [(n, s)]).1 = (ev [(n, s)] false true).map Prod.fst := by
    show (col [] (ev [(n, s)] false true)).1 = _
    rw [h2, List.nil_append]
  have hrow : row ((ev [(n, s)] false true).map Prod.fst) ∧ True := ⟨?_, trivial⟩
  · rw [h2'] at hlen ⊢
    show col [] (ev [(n, b ++ (tQ (32 :: b) true ((ev [(n, s)] false true).map Prod.fst) ++ tail6))] false true) = _
    generalize hA : (ev [(n, s)] false true).map Prod.fst = A at *
    rw [ev_bks hb]
    obtain ⟨_, hO⟩ := hst
    have hA' : (evF (wt [(n, s)]) [(n, s)] false true).map Prod.fst = A := hA
    rw [hA'] at hO
    rcases hO with rfl | ⟨t, r, rfl, _, _, s2, hO⟩
    · simp only [tQ, List.nil_append]
      rw [ev_tail]
      rfl
    · have e : tQ (32 :: b) true (t :: r) ++ tail6 = tx (32 :: b) tail6 (t :: r) := by
        rw [tQ_tx, tQ]; simp
      rw [e, ev_tx n (32 :: b) tail6 [] rfl (by simp) rfl (fun z sp fi => by
        rw [List.cons_append, ev_blank [] sp fi (by decide), ev_bks hb]) (t :: r) s2 true true hO (by simp) hrow.1, ev_tail, List.append_nil, col_of_fine]
      · simp
      · intro x hx
        simp only [nt, List.mem_cons, List.mem_map] at hx
        rcases hx with rfl | ⟨y, _, rfl⟩ <;> rfl
      · simp [nt] at hlen ⊢
        omega
  · exact row_ev n _ _ _ _
/-- The first token of one line is First, no other one is. -/
theorem lex_first {n : Int} {s : List UInt8} (hok : (lex [(n, s)]).2.1 = 0) : (lex [(n, s)]).1 = [] ∨ ∃ t r, (lex [(n, s)]).1 = t :: r ∧ t.fi = true ∧ ∀ x ∈ r, x.fi = false := by
  obtain ⟨h1, h2, h3, _⟩ := col_fine _ _ hok
  have hst := (ev_st _ _ _ _ h1)
  have h2' : (lex [(n, s)]).1 = (ev [(n, s)] false true).map Prod.fst := by
    show (col [] (ev [(n, s)] false true)).1 = _
    rw [h2, List.nil_append]
  rw [h2']
  have hr : row ((ev [(n, s)] false true).map Prod.fst) := row_ev n _ _ _ _
  obtain ⟨_, hO⟩ := hst
  have e : (evF (wt [(n, s)]) [(n, s)] false true).map Prod.fst = (ev [(n, s)] false true).map Prod.fst := rfl
  rw [e] at hO
  rcases hO with hO | ⟨t, r, hO, _, h5, _⟩
  · exact .inl hO
  · rw [hO] at hr
    exact .inr ⟨t, r, hO, h5 rfl, hr⟩
end Go.Proofs.YtaoekfokpbebfaaDoor.Tk
