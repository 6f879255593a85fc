/-
  Plain lists: rows of tokens; bytes of tokens.
-/
import Derived.Test.YtaoekfokpbebfaaDoorL8
namespace Go.Proofs.YtaoekfokpbebfaaDoor.Tk
set_option linter.unusedSimpArgs false
set_option linter.unusedVariables false

theorem Og_pre : ∀ (a b : List T) (s : List UInt8), Og s (a ++ b) → Og s a
  | [], b, s, _ => trivial
  | t :: a, b, s, h => by
    obtain ⟨h1, h2⟩ := h
    cases a with
    | nil => exact ⟨h1, trivial⟩
    | cons t2 a => exact ⟨h1, fun ha hb => Og_pre (t2 :: a) b _ (h2.1 ha hb), let ⟨s2, h3⟩ := h2.2; ⟨s2, Og_pre (t2 :: a) b s2 h3⟩⟩
theorem Og_drop : ∀ (a c : List T) (s : List UInt8), Og s (a ++ c) → c ≠ [] → ∃ s2, Og s2 c
  | [], c, s, h, _ => ⟨s, h⟩
  | t :: a, c, s, h, hc => by
    obtain ⟨h1, h2⟩ := h
    cases hac : a ++ c with
    | nil => simp at hac; exact absurd hac.2 hc
    | cons t2 r =>
      rw [show a.append c = t2 :: r from hac] at h2
      obtain ⟨s2, h3⟩ := h2.2
      rw [← hac] at h3
      exact Og_drop a c s2 h3 hc
/-- Tokens, parted ahead of First ones. -/
def hdf : List T → Bool
  | [] => true
  | t :: _ => t.fi
def push (t : T) (f : Bool) : List (List T) → List (List T)
  | [] => [[t]]
  | a :: b => if f then [t] :: a :: b else (t :: a) :: b
def rws : List T → List (List T)
  | [] => []
  | t :: r => push t (hdf r) (rws r)
theorem rws_flat : ∀ l, (rws l).flatten = l
  | [] => rfl
  | t :: r => by
    have ih := rws_flat r
    rw [rws]
    cases h : rws r with
    | nil => rw [h] at ih; simp at ih; subst ih; rfl
    | cons a b =>
      rw [h] at ih
      rw [push]
      split
      · simp only [List.flatten_cons, List.singleton_append]
        rw [← List.flatten_cons, ih]
      · simp only [List.flatten_cons, List.cons_append]
        rw [← List.flatten_cons, ih]
theorem rws_ne : ∀ l, ∀ a ∈ rws l, a ≠ []
  | [], a, h => by simp [rws] at h
  | t :: r, a, h => by
    rw [rws] at h
    cases hx : rws r with
    | nil => rw [hx] at h; simp [push] at h; subst h; simp
    | cons x b =>
      have ih := rws_ne r
      rw [hx] at ih h
      rw [push] at h
      split at h
      · rcases List.mem_cons.1 h with rfl | h
        · simp
        · exact ih a h
      · rcases List.mem_cons.1 h with rfl | h
        · simp
        · exact ih a (List.mem_cons_of_mem _ h)
/-- Each row begins with a First one (the first row: if the tokens do), and has no other. -/
theorem rws_row : ∀ l, (∀ a b, rws l = a :: b → (∀ x ∈ b, ∃ t r, x = t :: r ∧ t.fi = true) ∧ (∃ t r r2, a = t :: r ∧ l = t :: r2)) ∧ ∀ a ∈ rws l, row a
  | [] => ⟨fun a b h => by simp [rws] at h, fun a h => by simp [rws] at h⟩
  | t :: r => by
    obtain ⟨h1, h2⟩ := rws_row r
    have hfl := rws_flat r
    rw [rws]
    cases hx : rws r with
    | nil => exact ⟨fun a b h => by simp [push] at h; obtain ⟨rfl, rfl⟩ := h; exact ⟨fun x hx => by simp at hx, t, [], r, rfl, rfl⟩, fun a h => by simp [push] at h; subst h; intro x hx; simp at hx⟩
    | cons x y =>
      rw [push]
      obtain ⟨h3, t0, r0, r2, e1, e2⟩ := h1 x y hx
      subst e2
      rw [hx] at h2
      by_cases hf : hdf (t0 :: r2) = true
      · rw [if_pos hf]
        refine ⟨fun a b h => ?_, fun a h => ?_⟩
        · simp at h
          obtain ⟨rfl, rfl⟩ := h
          refine ⟨fun z hz => ?_, t, [], _, rfl, rfl⟩
          rcases List.mem_cons.1 hz with rfl | hz
          · exact ⟨t0, r0, e1, hf⟩
          · exact h3 z hz
        · rcases List.mem_cons.1 h with rfl | h
          · intro x hx; simp at hx
          · exact h2 a h
      · rw [if_neg hf]
        refine ⟨fun a b h => ?_, fun a h => ?_⟩
        · simp at h
          obtain ⟨rfl, rfl⟩ := h
          exact ⟨h3, t, x, _, rfl, rfl⟩
        · rcases List.mem_cons.1 h with rfl | h
          · intro z hz
            rw [e1] at hz
            have hrow := h2 x (by simp)
            rw [e1] at hrow
            rcases List.mem_cons.1 hz with e | hz
            · rw [e]
              have hf' : ¬ (t0.fi = true) := hf
              simpa using hf'
            · exact hrow z hz
          · exact h2 a (List.mem_cons_of_mem _ h)
/-- Bytes of tokens are bytes of lines. -/
theorem ev_bytes (p : UInt8 → Prop) : ∀ (f : Nat) (l : List Ln) (sp fi : Bool), (∀ x ∈ l, ∀ c ∈ x.2, p c) → ∀ e ∈ evF f l sp fi, ∀ c ∈ e.1.s, p c
  | 0, l, sp, fi, h, e, he => by simp [evF] at he
  | f + 1, [], sp, fi, h, e, he => by simp [evF] at he
  | f + 1, (n, []) :: r, sp, fi, h, e, he => by
    rw [evF] at he
    exact ev_bytes p f r _ _ (fun x hx => h x (List.mem_cons_of_mem _ hx)) e he
  | f + 1, (n, c :: s) :: r, sp, fi, h, e, he => by
    have h0 : ∀ x ∈ c :: s, p x := h (n, c :: s) (by simp)
    have hr : ∀ x ∈ r, ∀ c ∈ x.2, p c := fun x hx => h x (List.mem_cons_of_mem _ hx)
    rw [evF] at he
    split at he
    · exact ev_bytes p f r _ _ hr e he
    · split at he
      · split at he
        · simp at he; subst he; simp [er]
        · rename_i l hl
          have key : ∀ (l l' : List Ln), (∀ x ∈ l, ∀ c ∈ x.2, p c) → cl l = some l' → ∀ x ∈ l', ∀ c ∈ x.2, p c := by
            intro l
            induction l with
            | nil => intro l' _ h; simp [cl] at h
            | cons y l ih =>
              intro l' hy h
              obtain ⟨n, s⟩ := y
              rw [cl] at h
              split at h
              · rename_i t ht
                cases h
                intro x hx c hc
                rcases List.mem_cons.1 hx with rfl | hx
                · exact hy (n, s) (by simp) c ((fc_suf ht).subset hc)
                · exact hy x (List.mem_cons_of_mem _ hx) c hc
              · exact ih l' (fun x hx => hy x (List.mem_cons_of_mem _ hx)) h
          refine ev_bytes p f l _ _ (key _ _ (fun x hx => ?_) hl) e he
          rcases List.mem_cons.1 hx with rfl | hx
          · exact fun c hc => h0 c (List.mem_cons_of_mem _ (List.mem_of_mem_drop hc))
          · exact hr x hx
      · split at he
        · refine ev_bytes p f _ _ _ (fun x hx => ?_) e he
          rcases List.mem_cons.1 hx with rfl | hx
          · exact fun c hc => h0 c (List.mem_cons_of_mem _ hc)
          · exact hr x hx
        · split at he
          · simp at he; subst he; simp [er]
          · rcases List.mem_cons.1 he with rfl | he
            · exact fun c hc => h0 c (List.mem_of_mem_take hc)
            · refine ev_bytes p f _ _ _ (fun x hx => ?_) e he
              rcases List.mem_cons.1 hx with rfl | hx
              · exact fun c hc => h0 c (List.mem_of_mem_drop hc)
              · exact hr x hx
/-- How many bytes lines have. -/
def bsum : List Ln → Nat
  | [] => 0
  | (_, s) :: r => s.length + bsum r
def tsum : List (T × Int) → Nat
  | [] => 0
  | x :: r => x.1.s.length + tsum r
theorem cl_bsum : ∀ {l l' : List Ln}, cl l = some l' → bsum l' ≤ bsum l
  | (n, s) :: r, l', h => by
    rw [cl] at h
    split at h
    · rename_i t ht
      cases h
      have := fc_len ht
      simp [bsum]; omega
    · have := cl_bsum h
      simp [bsum]; omega
theorem ev_sum : ∀ (f : Nat) (l : List Ln) (sp fi : Bool), tsum (evF f l sp fi) ≤ bsum l
  | 0, l, sp, fi => by simp [evF, tsum]
  | f + 1, [], sp, fi => by simp [evF, tsum]
  | f + 1, (n, []) :: r, sp, fi => by
    rw [evF]
    have := ev_sum f r false true
    simp [bsum]; omega
  | f + 1, (n, c :: s) :: r, sp, fi => by
    rw [evF]
    split
    · have := ev_sum f r false true
      simp [bsum]; omega
    · split
      · split
        · simp [tsum, er]
        · rename_i l hl
          have h1 := ev_sum f l true fi
          have h2 := cl_bsum hl
          simp [bsum] at h2 ⊢; omega
      · split
        · have := ev_sum f ((n, s) :: r) true fi
          simp [bsum] at this ⊢; omega
        · split
          · simp [tsum, er]
          · have := ev_sum f ((n, (c :: s).drop (ms (c :: s)).2) :: r) false false
            simp only [tsum, bsum, List.length_take, List.length_drop] at this ⊢
            omega
/-- A token that ends in a backslash is just that. -/
theorem nmL_all : ∀ (s : List UInt8), ∀ c ∈ s.take (nmL s), nm c = true
  | [], c, h => by simp at h
  | d :: r, c, h => by
    rw [nmL] at h
    split at h
    · rename_i hd
      rw [List.take_succ_cons] at h
      rcases List.mem_cons.1 h with rfl | h
      · exact hd
      · exact nmL_all r c h
    · simp at h
theorem nuL_all : ∀ (a : UInt8) (s : List UInt8), ∀ c ∈ s.take (nuL a s), c ≠ 92
  | a, [], c, h => by simp at h
  | a, d :: r, c, h => by
    rw [nuL] at h
    split at h
    · rename_i hd
      rw [List.take_succ_cons] at h
      rcases List.mem_cons.1 h with rfl | h
      · rintro rfl
        revert hd
        unfold nu
        simp
        decide
      · exact nuL_all d r c h
    · simp at h
theorem quL_last (q : UInt8) : ∀ (e : Bool) (s : List UInt8), 0 < quL q e s → (s.take (quL q e s)).getLast? = some q
  | true, [], h => by simp [quL] at h
  | false, [], h => by simp [quL] at h
  | true, c :: r, h => by
    rw [quL] at h ⊢
    obtain ⟨h1, h2⟩ := up_pos h
    rw [h2, List.take_succ_cons, List.getLast?_cons, quL_last q false r h1]
    rfl
  | false, c :: r, h => by
    rw [quL] at h ⊢
    split
    · rename_i hc
      rw [if_pos hc] at h
      obtain ⟨h1, h2⟩ := up_pos h
      rw [h2, List.take_succ_cons, List.getLast?_cons, quL_last q true r h1]
      rfl
    · rename_i hc
      rw [if_neg hc] at h
      split
      · rename_i hq
        simp at hq
        subst hq
        rfl
      · rename_i hq
        rw [if_neg hq] at h
        obtain ⟨h1, h2⟩ := up_pos h
        rw [h2, List.take_succ_cons, List.getLast?_cons, quL_last q false r h1]
        rfl
theorem ms_last {s : List UInt8} (hs : s ≠ []) (h0 : (ms s).2 ≠ 0) (hl : (s.take (ms s).2).getLast? = some 92) : s.take (ms s).2 = [92] := by
  cases s with
  | nil => exact absurd rfl hs
  | cons c r =>
    have hms : ms (c :: r) = ms (c :: r) := rfl
    conv at hms => rhs; rw [ms]
    rw [hms] at h0 hl ⊢
    split at hl
    · rename_i hnu
      rw [if_pos hnu] at h0 ⊢
      exfalso
      simp only [List.take_succ_cons] at hl
      have hm := List.mem_of_getLast? hl
      rcases List.mem_cons.1 hm with h | h
      · subst h; revert hnu; simp; decide
      · exact nuL_all _ _ _ h rfl
    · rename_i hnu
      rw [if_neg hnu] at h0 ⊢
      split at hl
      · rename_i hnm
        rw [if_pos hnm] at h0 ⊢
        exfalso
        simp only [List.take_succ_cons] at hl
        have hm := List.mem_of_getLast? hl
        rcases List.mem_cons.1 hm with h | h
        · subst h; revert hnm; decide
        · have := nmL_all _ _ h
          revert this; decide
      · rename_i hnm
        rw [if_neg hnm] at h0 ⊢
        split at hl
        · rename_i h39
          rw [if_pos h39] at h0 ⊢
          exfalso
          by_cases hq1 : quL 39 false r = 1
          · simp [hq1] at h0
          · simp only [hq1, if_false] at h0 hl
            obtain ⟨q2, q3⟩ := up_pos (m := quL 39 false r) (by omega)
            rw [q3, List.take_succ_cons, List.getLast?_cons, quL_last 39 false r q2] at hl
            simp at hl
        · rename_i h39
          rw [if_neg h39] at h0 ⊢
          split at hl
          · rename_i h34
            rw [if_pos h34] at h0 ⊢
            exfalso
            simp only at h0 hl
            obtain ⟨q2, q3⟩ := up_pos (m := quL 34 false r) (by omega)
            rw [q3, List.take_succ_cons, List.getLast?_cons, quL_last 34 false r q2] at hl
            simp at hl
          · rename_i h34
            rw [if_neg h34] at h0 ⊢
            split at hl
            · rename_i hsg
              rw [if_pos hsg] at h0 ⊢
              exfalso
              obtain ⟨t1, t2⟩ := sgL_top (c :: r)
              rcases t2 with t2 | t2
              · omega
              · simp only at hl
                have key : ∀ x ∈ signs, (x.contains 92) = false := by decide
                rw [pn, List.contains_iff_mem] at t2
                have h1 := key _ t2
                have h2 := List.mem_of_getLast? hl
                rw [Bool.eq_false_iff] at h1
                exact h1 (by simpa using h2)
            · rename_i hsg
              rw [if_neg hsg] at h0 ⊢
              simp only [List.take_succ_cons, List.take_zero] at hl ⊢
              simp at hl
              rw [hl]
theorem Og_tok : ∀ (a : List T) (s : List UInt8), Og s a → ∀ t ∈ a, t.s ≠ [] ∧ (t.s.getLast? = some 92 → t.s = [92])
  | [], s, _, t, h => by simp at h
  | x :: r, s, hO, t, h => by
    rcases List.mem_cons.1 h with rfl | h
    · obtain ⟨⟨h1, h2, h3, h4⟩, _⟩ := hO
      refine ⟨?_, fun h5 => ?_⟩
      · rw [h4]
        intro e
        have hne := isT_ne h1
        have := congrArg List.length e
        simp at this
        rcases this with h | h
        · exact h2 h
        · exact hne h
      · rw [h4] at h5 ⊢
        exact ms_last (isT_ne h1) h2 h5
    · cases r with
      | nil => simp at h
      | cons t2 r2 =>
        obtain ⟨s2, h3⟩ := hO.2.2
        exact Og_tok (t2 :: r2) s2 h3 t h
end Go.Proofs.YtaoekfokpbebfaaDoor.Tk
