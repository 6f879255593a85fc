/-
  Plain lists: tokens of lines, laid behind each other with blanks where there were some, are the same tokens.
-/
import Derived.Test.YtaoekfokpbebfaaDoorL7
namespace Go.Proofs.YtaoekfokpbebfaaDoor.Tk
set_option linter.unusedSimpArgs false
set_option linter.unusedVariables false

/-- Tokens that stand in a text one behind the other: each is its rest's first token; where there is no blank and no line end ahead of the next one, that stands right behind. -/
def Og : List UInt8 → List T → Prop
  | _, [] => True
  | s, t :: r => (isT s = true ∧ (ms s).2 ≠ 0 ∧ t.kind = (ms s).1 ∧ t.s = s.take (ms s).2) ∧
    (match r with
      | [] => True
      | t2 :: _ => (t2.sp = false → t2.fi = false → Og (s.drop (ms s).2) r) ∧ ∃ s2, Og s2 r)
/-- How tokens begin that were read with what has come since the last one. -/
def St (s : List UInt8) (sp fi : Bool) (a : List T) : Prop := match a with
  | [] => True
  | t :: _ => (∃ s2, Og s2 a) ∧ (sp = false → fi = false → t.sp = false → t.fi = false → Og s a)
theorem St.sp {s s' : List UInt8} {fi : Bool} {a : List T} (h : St s true fi a) (hh : ∀ t r, a = t :: r → t.sp = true ∨ t.fi = true) (sp' fi' : Bool) : St s' sp' fi' a := by
  cases a with
  | nil => trivial
  | cons t r =>
    refine ⟨h.1, fun _ _ h1 h2 => ?_⟩
    rcases hh t r rfl with h3 | h3
    · rw [h1] at h3; cases h3
    · rw [h2] at h3; cases h3
theorem ev_st : ∀ (f : Nat) (l : List Ln) (sp fi : Bool), fine (evF f l sp fi) →
    (∀ n s r, l = (n, s) :: r → St s sp fi ((evF f l sp fi).map Prod.fst)) ∧ ((evF f l sp fi).map Prod.fst = [] ∨ ∃ t r, (evF f l sp fi).map Prod.fst = t :: r ∧ (sp = true → t.sp = true ∨ t.fi = true) ∧ (fi = true → t.fi = true) ∧ ∃ s2, Og s2 (t :: r))
  | 0, l, sp, fi, hg => by simp [evF, St]
  | f + 1, [], sp, fi, hg => by simp [evF]
  | f + 1, (n, []) :: r, sp, fi, hg => by
    rw [evF] at hg ⊢
    obtain ⟨_, h2⟩ := ev_st f r false true hg
    rcases h2 with h2 | ⟨t, r', h2, h3, h4, h5⟩
    · rw [h2]
      exact ⟨fun _ _ _ _ => trivial, .inl rfl⟩
    · rw [h2]
      refine ⟨fun n s r0 e => ⟨h5, fun _ _ _ hf => ?_⟩, .inr ⟨t, r', rfl, fun _ => .inr (h4 rfl), fun _ => h4 rfl, h5⟩⟩
      rw [h4 rfl] at hf; cases hf
  | f + 1, (n, c :: s) :: r, sp, fi, hg => by
    rw [evF] at hg ⊢
    by_cases h1 : pre [47, 47] (c :: s) = true
    · rw [if_pos h1] at hg ⊢
      obtain ⟨_, h2⟩ := ev_st f r false true hg
      rcases h2 with h2 | ⟨t, r', h2, h3, h4, h5⟩
      · rw [h2]
        exact ⟨fun _ _ _ _ => trivial, .inl rfl⟩
      · rw [h2]
        refine ⟨fun n s r0 e => ⟨h5, fun _ _ _ hf => ?_⟩, .inr ⟨t, r', rfl, fun _ => .inr (h4 rfl), fun _ => h4 rfl, h5⟩⟩
        rw [h4 rfl] at hf; cases hf
    · rw [if_neg h1] at hg ⊢
      by_cases h2 : pre [47, 42] (c :: s) = true
      · rw [if_pos h2] at hg ⊢
        cases hcl : cl ((n, s.drop 1) :: r) with
        | none =>
          rw [hcl] at hg
          exact absurd hg (er_not_fine _ _ (by decide))
        | some l =>
          rw [hcl] at hg
          simp only at hg ⊢
          obtain ⟨_, h3⟩ := ev_st f l true fi hg
          rcases h3 with h3 | ⟨t, r', h3, h4, h5, h6⟩
          · rw [h3]
            exact ⟨fun _ _ _ _ => trivial, .inl rfl⟩
          · rw [h3]
            refine ⟨fun n s r0 e => ⟨h6, fun _ _ ha hb => ?_⟩, .inr ⟨t, r', rfl, fun _ => h4 rfl, h5, h6⟩⟩
            rcases h4 rfl with h | h
            · rw [ha] at h; cases h
            · rw [hb] at h; cases h
      · rw [if_neg h2] at hg ⊢
        by_cases h3 : bl c = true
        · rw [if_pos h3] at hg ⊢
          obtain ⟨_, h4⟩ := ev_st f ((n, s) :: r) true fi hg
          rcases h4 with h4 | ⟨t, r', h4, h5, h6, h7⟩
          · rw [h4]
            exact ⟨fun _ _ _ _ => trivial, .inl rfl⟩
          · rw [h4]
            refine ⟨fun n s r0 e => ⟨h7, fun _ _ ha hb => ?_⟩, .inr ⟨t, r', rfl, fun _ => h5 rfl, h6, h7⟩⟩
            rcases h5 rfl with h | h
            · rw [ha] at h; cases h
            · rw [hb] at h; cases h
        · rw [if_neg h3] at hg ⊢
          have hT : isT (c :: s) = true := by rw [isT_iff]; simp [h1, h2, h3]
          by_cases h4 : (ms (c :: s)).2 = 0
          · rw [if_pos h4] at hg
            exact absurd hg (er_not_fine _ _ (by decide))
          · rw [if_neg h4] at hg ⊢
            obtain ⟨h5, h6⟩ := ev_st f ((n, (c :: s).drop (ms (c :: s)).2) :: r) false false (fun x hx => hg x (List.mem_cons_of_mem _ hx))
            have h5' := h5 n _ r rfl
            have hO : Og (c :: s) (⟨(ms (c :: s)).1, (c :: s).take (ms (c :: s)).2, n, sp, fi⟩ :: (evF f ((n, (c :: s).drop (ms (c :: s)).2) :: r) false false).map Prod.fst) := by
              generalize (evF f ((n, (c :: s).drop (ms (c :: s)).2) :: r) false false).map Prod.fst = A at *
              cases A with
              | nil => exact ⟨⟨hT, h4, rfl, rfl⟩, trivial⟩
              | cons t2 r2 => exact ⟨⟨hT, h4, rfl, rfl⟩, fun ha hb => h5'.2 rfl rfl ha hb, h5'.1⟩
            simp only [List.map_cons]
            refine ⟨fun n' s' r' e => ?_, .inr ⟨_, _, rfl, fun h => .inl h, fun h => h, _, hO⟩⟩
            cases e
            exact ⟨⟨_, hO⟩, fun _ _ _ _ => hO⟩
/-- Tokens as far as they stand right behind each other. -/
def adj : List T → List UInt8
  | [] => []
  | t :: r => t.s ++ (match r with
    | [] => []
    | t2 :: _ => if t2.sp || t2.fi then [] else adj r)
/-- Tokens of one line laid out anew: 'sep' ahead of each that has blanks ahead of it, 'tl' behind the last one. -/
def tx (sep tl : List UInt8) : List T → List UInt8
  | [] => tl
  | t :: r => t.s ++ (match r with
    | [] => tl
    | t2 :: _ => if t2.sp then sep ++ tx sep tl r else tx sep tl r)
theorem adj_two (t t2 : T) (r : List T) : adj (t :: t2 :: r) = t.s ++ (if t2.sp || t2.fi then [] else adj (t2 :: r)) := rfl
theorem tx_two (sep tl : List UInt8) (t t2 : T) (r : List T) : tx sep tl (t :: t2 :: r) = t.s ++ (if t2.sp then sep ++ tx sep tl (t2 :: r) else tx sep tl (t2 :: r)) := rfl
def tlx (sep tl : List UInt8) : List T → List UInt8
  | [] => tl
  | t2 :: r2 => if t2.sp then sep ++ tx sep tl (t2 :: r2) else tx sep tl (t2 :: r2)
theorem tx_tlx (sep tl : List UInt8) (t : T) (r : List T) : tx sep tl (t :: r) = t.s ++ tlx sep tl r := by cases r <;> rfl
theorem adj_pre (t : T) (r : List T) : ∃ z, adj (t :: r) = t.s ++ z := ⟨_, rfl⟩
theorem Og_adj : ∀ (a : List T) (s : List UInt8), Og s a → ∃ v, s = adj a ++ v
  | [], s, _ => ⟨s, rfl⟩
  | t :: r, s, h => by
    obtain ⟨⟨h1, h2, h3, h4⟩, h5⟩ := h
    cases r with
    | nil => exact ⟨s.drop (ms s).2, by simp only [adj, List.append_nil, h4, List.take_append_drop]⟩
    | cons t2 r2 =>
      rw [adj_two]
      by_cases hb : (t2.sp || t2.fi) = true
      · rw [if_pos hb]
        exact ⟨s.drop (ms s).2, by rw [List.append_nil, h4, List.take_append_drop]⟩
      · rw [if_neg hb]
        simp only [Bool.or_eq_true, not_or, Bool.not_eq_true] at hb
        obtain ⟨v, hv⟩ := Og_adj (t2 :: r2) _ (h5.1 hb.1 hb.2)
        refine ⟨v, ?_⟩
        rw [List.append_assoc, ← hv, h4, List.take_append_drop]
/-- No First ones but the first. -/
def row : List T → Prop
  | [] => True
  | _ :: r => ∀ t ∈ r, t.fi = false
theorem row_tl {t : T} {r : List T} (h : row (t :: r)) : row r := by
  cases r with
  | nil => trivial
  | cons t2 r2 => exact fun x hx => h x (List.mem_cons_of_mem _ hx)
theorem tx_adj (sep tl : List UInt8) (hs : stop sep = true) (hsn : sep ≠ []) (ht : stop tl = true) : ∀ (a : List T), a ≠ [] → row a → ∃ v', tx sep tl a = adj a ++ v' ∧ stop v' = true
  | [], h, _ => absurd rfl h
  | t :: r, _, hr => by
    cases r with
    | nil => exact ⟨tl, by simp [tx, adj], ht⟩
    | cons t2 r2 =>
      have hf : t2.fi = false := hr t2 (by simp)
      rw [tx_two, adj_two, hf, Bool.or_false]
      by_cases hb : t2.sp = true
      · rw [if_pos hb, if_pos hb]
        refine ⟨sep ++ tx sep tl (t2 :: r2), by simp, ?_⟩
        cases sep with
        | nil => exact absurd rfl hsn
        | cons c q => exact hs
      · rw [if_neg hb, if_neg hb]
        obtain ⟨v', h1, h2⟩ := tx_adj sep tl hs hsn ht (t2 :: r2) (by simp) (row_tl hr)
        exact ⟨v', by rw [h1, List.append_assoc], h2⟩
/-- The tokens, read anew. -/
def nt (n : Int) (sp fi : Bool) : List T → List (T × Int)
  | [] => []
  | t :: r => (⟨t.kind, t.s, n, sp, fi⟩, 0) :: r.map fun t => (⟨t.kind, t.s, n, t.sp, false⟩, 0)
theorem nt_cons (n : Int) (sp fi : Bool) (t t2 : T) (r : List T) : nt n sp fi (t :: t2 :: r) = (⟨t.kind, t.s, n, sp, fi⟩, 0) :: nt n t2.sp false (t2 :: r) := rfl
theorem ev_tx (n : Int) (sep tl : List UInt8) (R : List Ln) (hs : stop sep = true) (hsn : sep ≠ []) (ht : stop tl = true)
    (hb : ∀ z sp fi, ev ((n, sep ++ z) :: R) sp fi = ev ((n, z) :: R) true fi) :
    ∀ (a : List T) (s : List UInt8) (sp fi : Bool), Og s a → a ≠ [] → row a → ev ((n, tx sep tl a) :: R) sp fi = nt n sp fi a ++ ev ((n, tl) :: R) false false
  | [], s, sp, fi, _, h, _ => absurd rfl h
  | t :: r, s, sp, fi, hO, _, hr => by
    obtain ⟨v, hv⟩ := Og_adj (t :: r) s hO
    obtain ⟨v', hv', hst⟩ := tx_adj sep tl hs hsn ht (t :: r) (by simp) hr
    obtain ⟨⟨h1, h2, h3, h4⟩, h5⟩ := hO
    have hlen : t.s.length = (ms s).2 := by rw [h4, List.length_take]; have := ms_le (isT_ne h1); omega
    have hadj : t.s.length ≤ (adj (t :: r)).length := by
      obtain ⟨z, hz⟩ := adj_pre t r
      rw [hz, List.length_append]
      omega
    have hne : adj (t :: r) ≠ [] := by
      intro e
      have := congrArg List.length e
      simp only [List.length_nil] at this
      omega
    have hms : ms (tx sep tl (t :: r)) = ms s := by
      rw [hv'] 
      have := ms_swap (v := v) (v' := v') (u := adj (t :: r)) hne hst (by rw [← hv]; exact h2) (by rw [← hv]; omega)
      rw [this, ← hv]
    have hT : isT (tx sep tl (t :: r)) = true := by
      rw [hv']
      exact isT_swap (v := v) hne hst (by rw [← hv]; exact h1)
    have htake : (tx sep tl (t :: r)).take (ms s).2 = t.s := by
      rw [← hlen, tx_tlx]
      exact List.take_left
    have hdrop : (tx sep tl (t :: r)).drop (ms s).2 = tlx sep tl r := by
      rw [← hlen, tx_tlx]
      exact List.drop_left
    rw [ev_tok R sp fi hT (by rw [hms]; exact h2), hms, htake, hdrop, ← h3]
    cases r with
    | nil => rfl
    | cons t2 r2 =>
      obtain ⟨h6, s2, h7⟩ := h5
      rw [tlx, nt_cons, List.cons_append]
      congr 1
      by_cases hsp : t2.sp = true
      · rw [if_pos hsp, hb, ev_tx n sep tl R hs hsn ht hb (t2 :: r2) s2 true false h7 (by simp) (row_tl hr), hsp]
      · rw [if_neg hsp, ev_tx n sep tl R hs hsn ht hb (t2 :: r2) s2 false false h7 (by simp) (row_tl hr)]
        simp only [Bool.not_eq_true] at hsp
        rw [hsp]
end Go.Proofs.YtaoekfokpbebfaaDoor.Tk
