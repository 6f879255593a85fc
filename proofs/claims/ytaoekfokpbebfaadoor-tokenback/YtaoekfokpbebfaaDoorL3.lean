/-
  Plain lists: each token of lines is just the token that it is alone.
-/
import Derived.Test.YtaoekfokpbebfaaDoorL2
namespace Go.Proofs.YtaoekfokpbebfaaDoor.Tk

theorem nmL_take : ∀ (s : List UInt8) (k : Nat), nmL s ≤ k → nmL (s.take k) = nmL s
  | [], k, _ => by simp
  | c :: r, 0, h => by
    have : nmL (c :: r) = 0 := by omega
    rw [this]; rfl
  | c :: r, k + 1, h => by
    rw [List.take_succ_cons, nmL, nmL]
    rw [nmL] at h
    split
    · rename_i hc
      rw [if_pos hc] at h
      rw [nmL_take r k (by omega)]
    · rfl
theorem nuL_take : ∀ (a : UInt8) (s : List UInt8) (k : Nat), nuL a s ≤ k → nuL a (s.take k) = nuL a s
  | _, [], k, _ => by simp
  | a, c :: r, 0, h => by
    have : nuL a (c :: r) = 0 := by omega
    rw [this]; rfl
  | a, c :: r, k + 1, h => by
    rw [List.take_succ_cons, nuL, nuL]
    rw [nuL] at h
    split
    · rename_i hc
      rw [if_pos hc] at h
      rw [nuL_take c r k (by omega)]
    · rfl
theorem up_pos {m : Nat} (h : 0 < up m) : 0 < m ∧ up m = m + 1 := by unfold up at *; split at h <;> simp_all; omega
theorem quL_take (q : UInt8) : ∀ (e : Bool) (s : List UInt8) (k : Nat), 0 < quL q e s → quL q e s ≤ k → quL q e (s.take k) = quL q e s
  | true, [], k, h, _ => by simp [quL] at h
  | false, [], k, h, _ => by simp [quL] at h
  | e, c :: r, 0, h, h2 => by omega
  | true, c :: r, k + 1, h, h2 => by
    rw [quL] at h h2
    obtain ⟨h3, h4⟩ := up_pos h
    rw [List.take_succ_cons, quL, quL, quL_take q false r k h3 (by omega)]
  | false, c :: r, k + 1, h, h2 => by
    rw [List.take_succ_cons, quL, quL]
    rw [quL] at h h2
    split
    · rename_i hc
      rw [if_pos hc] at h h2
      obtain ⟨h3, h4⟩ := up_pos h
      rw [quL_take q true r k h3 (by omega)]
    · rename_i hc
      rw [if_neg hc] at h h2
      split
      · rfl
      · rename_i hq
        rw [if_neg hq] at h h2
        obtain ⟨h3, h4⟩ := up_pos h
        rw [quL_take q false r k h3 (by omega)]
theorem sgL_take (s : List UInt8) (h : 0 < sgL s) : sgL (s.take (sgL s)) = sgL s := by
  have hl := sgL_le s
  generalize hk : sgL s = k at *
  unfold sgL at hk
  split at hk
  · rename_i h3
    subst hk
    unfold sgL
    simp only [List.length_take, List.take_take, Nat.min_self]
    simp at h3
    simp [h3]
  · split at hk
    · rename_i h3 h2
      subst hk
      unfold sgL
      simp only [List.length_take, List.take_take]
      simp at h2
      simp [h2]
    · split at hk
      · rename_i h3 h2 h1
        subst hk
        unfold sgL
        simp only [List.length_take, List.take_take]
        simp at h1
        simp [h1]
      · omega
/-- A text, cut behind its first token, has the same first token. -/
theorem ms_take {s : List UInt8} (hs : s ≠ []) (h0 : (ms s).2 ≠ 0) : ms (s.take (ms s).2) = ms s := by
  cases s with
  | nil => exact absurd rfl hs
  | cons c r =>
    obtain ⟨n, hn⟩ : ∃ n, (ms (c :: r)).2 = n + 1 := ⟨_, (Nat.succ_pred h0).symm⟩
    rw [hn, List.take_succ_cons]
    have hms : ms (c :: r) = ms (c :: r) := rfl
    conv at hms => rhs; rw [ms]
    rw [hms] at hn ⊢
    rw [ms]
    by_cases hnu : (dg c || (c == 46 && dig1 r)) = true
    · rw [if_pos hnu] at hn ⊢
      simp only at hn
      have hn' : nuL c r = n := by omega
      have hd1 : (dg c || (c == 46 && dig1 (r.take n))) = true := by
        cases hdc : dg c
        · rw [hdc] at hnu
          simp at hnu
          obtain ⟨h46, hd⟩ := hnu
          cases r with
          | nil => simp [dig1] at hd
          | cons d r =>
            simp only [dig1] at hd
            have : 0 < n := by
              rw [← hn', nuL]
              have : nu c d = true := by
                have h1 : (d == 43 || d == 45) = false := by
                  unfold dg at hd
                  simp at hd
                  have h2 := UInt8.le_iff_toNat_le.1 hd.1
                  have e1 : d ≠ 43 := fun e => by subst e; revert h2; decide
                  have e2 : d ≠ 45 := fun e => by subst e; revert h2; decide
                  simp [e1, e2]
                unfold nu nm
                rw [h1, hd]; simp
              rw [if_pos this]; omega
            obtain ⟨n', rfl⟩ : ∃ n', n = n' + 1 := ⟨n - 1, by omega⟩
            simp [dig1, hd, h46]
        · rfl
      rw [if_pos hd1, nuL_take c r n (by omega)]
    · rw [if_neg hnu] at hn ⊢
      have hd1 : ¬ (dg c || (c == 46 && dig1 (r.take n))) = true := by
        intro h
        apply hnu
        cases hdc : dg c
        · rw [hdc] at h
          simp at h ⊢
          refine ⟨h.1, ?_⟩
          cases r with
          | nil => simp [dig1] at h
          | cons d r =>
            cases n with
            | zero => simp [dig1] at h
            | succ n => simpa [dig1] using h.2
        · rfl
      rw [if_neg hd1]
      by_cases hnm : nm c = true
      · rw [if_pos hnm] at hn ⊢
        rw [if_pos hnm]
        simp only at hn
        rw [nmL_take r n (by omega)]
      · rw [if_neg hnm] at hn ⊢
        rw [if_neg hnm]
        by_cases h39 : (c == 39) = true
        · rw [if_pos h39] at hn ⊢
          rw [if_pos h39]
          simp only at hn
          by_cases hq1 : quL 39 false r = 1
          · rw [if_pos hq1] at hn; omega
          · rw [if_neg hq1] at hn
            obtain ⟨hq2, hq3⟩ := up_pos (m := quL 39 false r) (by omega)
            rw [quL_take 39 false r n hq2 (by omega)]
        · rw [if_neg h39] at hn ⊢
          rw [if_neg h39]
          by_cases h34 : (c == 34) = true
          · rw [if_pos h34] at hn ⊢
            rw [if_pos h34]
            simp only at hn
            obtain ⟨hq2, hq3⟩ := up_pos (m := quL 34 false r) (by omega)
            rw [quL_take 34 false r n hq2 (by omega)]
          · rw [if_neg h34] at hn ⊢
            rw [if_neg h34]
            by_cases hsg : 0 < sgL (c :: r)
            · rw [if_pos hsg] at hn ⊢
              simp only at hn
              have := sgL_take (c :: r) hsg
              rw [hn, List.take_succ_cons] at this
              rw [hn, this, if_pos (by omega)]
            · rw [if_neg hsg] at hn ⊢
              simp only at hn
              obtain rfl : n = 0 := by omega
              rw [List.take_zero]
              have h1 : sgL [c] = 0 := by
                have h0 : sgL (c :: r) = 0 := by omega
                unfold sgL at h0 ⊢
                simp at h0 ⊢
                rw [Bool.eq_false_iff]
                intro hp
                rw [hp] at h0
                split at h0
                · omega
                · split at h0
                  · omega
                  · simp at h0
              rw [h1]; simp

/-- What a token is alone: events of its text. -/
theorem alone_ev {s : List UInt8} (h : isT s = true) (h0 : (ms s).2 ≠ 0) : ev [(1, s.take (ms s).2)] false true = [(⟨(ms s).1, s.take (ms s).2, 1, false, true⟩, 0)] := by
  have hne := isT_ne h
  have hms := ms_take hne h0
  have hT : isT (s.take (ms s).2) = true := by
    cases s with
    | nil => exact absurd rfl hne
    | cons c r =>
      obtain ⟨n, hn⟩ : ∃ n, (ms (c :: r)).2 = n + 1 := ⟨_, (Nat.succ_pred h0).symm⟩
      rw [hn, List.take_succ_cons]
      rw [isT_iff] at h ⊢
      simp only [Bool.and_eq_true, Bool.not_eq_true'] at h ⊢
      refine ⟨⟨?_, ?_⟩, h.2⟩
      · rw [Bool.eq_false_iff]; intro hp
        have h1 : [47, 47] <+: c :: r.take n := List.isPrefixOf_iff_prefix.1 hp
        have h2 : c :: r.take n <+: c :: r := by rw [List.cons_prefix_cons]; exact ⟨rfl, List.take_prefix _ _⟩
        have := List.isPrefixOf_iff_prefix.2 (h1.trans h2)
        rw [show List.isPrefixOf [47, 47] (c :: r) = pre [47, 47] (c :: r) from rfl, h.1.1] at this
        cases this
      · rw [Bool.eq_false_iff]; intro hp
        have h1 : [47, 42] <+: c :: r.take n := List.isPrefixOf_iff_prefix.1 hp
        have h2 : c :: r.take n <+: c :: r := by rw [List.cons_prefix_cons]; exact ⟨rfl, List.take_prefix _ _⟩
        have := List.isPrefixOf_iff_prefix.2 (h1.trans h2)
        rw [show List.isPrefixOf [47, 42] (c :: r) = pre [47, 42] (c :: r) from rfl, h.1.2] at this
        cases this
  have hlen := ms_le hne
  rw [ev_tok _ _ _ hT (by rw [hms]; exact h0), hms, List.take_take, Nat.min_self, List.drop_eq_nil_of_le (by simp; omega), ev_end, ev_nil]
/-- Where events come from: each token stands where it is no blank. -/
theorem ev_all : ∀ (f : Nat) (l : List Ln) (sp fi : Bool) (x : T × Int), x ∈ evF f l sp fi → x.2 = 0 → ∃ s : List UInt8, isT s = true ∧ (ms s).2 ≠ 0 ∧ x.1.kind = (ms s).1 ∧ x.1.s = s.take (ms s).2
  | 0, _, _, _, x, h, _ => by simp [evF] at h
  | f + 1, [], _, _, x, h, _ => by simp [evF] at h
  | f + 1, (n, []) :: r, sp, fi, x, h, h2 => by
    rw [evF] at h
    exact ev_all f _ _ _ x h h2
  | f + 1, (n, c :: s) :: r, sp, fi, x, h, h2 => by
    rw [evF] at h
    split at h
    · exact ev_all f _ _ _ x h h2
    · rename_i p1
      split at h
      · split at h
        · simp at h; subst h; simp [er] at h2
        · exact ev_all f _ _ _ x h h2
      · rename_i p2
        split at h
        · exact ev_all f _ _ _ x h h2
        · rename_i p3
          split at h
          · simp at h; subst h; simp [er] at h2
          · rename_i p4
            rcases List.mem_cons.1 h with rfl | h
            · exact ⟨c :: s, by rw [isT_iff]; simp_all, p4, rfl, rfl⟩
            · exact ev_all f _ _ _ x h h2
theorem col_mem : ∀ (e : List (T × Int)) (out : List T) (t : T), t ∈ (col out e).1 → t ∈ out ∨ (t, 0) ∈ e
  | [], out, t, h => .inl h
  | (u, e) :: r, out, t, h => by
    rw [col] at h
    split at h
    · rename_i he
      split at h
      · rcases col_mem r _ t h with h1 | h1
        · rcases List.mem_append.1 h1 with h2 | h2
          · exact .inl h2
          · simp at h2; subst h2; subst he; exact .inr (by simp)
        · exact .inr (by simp [h1])
      · simp at h
    · simp at h
theorem pn_not {c : UInt8} {r : List UInt8} (h : (dg c || (c == 46 && dig1 r)) = true ∨ nm c = true ∨ (c == 39) = true ∨ (c == 34) = true) : pn (c :: r) = false := by
  rw [pn, Bool.eq_false_iff]
  intro hp
  rw [List.contains_iff_mem] at hp
  have key : ∀ x ∈ signs, (match x with | [] => true | c :: r => !dg c && !nm c && !(c == 39) && !(c == 34) && (!(c == 46) || !dig1 r)) = true := by decide
  have := key _ hp
  simp only [Bool.and_eq_true, Bool.not_eq_true', Bool.or_eq_true] at this
  obtain ⟨⟨⟨⟨h1, h2⟩, h3⟩, h4⟩, h5⟩ := this
  rcases h with h | h | h | h
  · rw [h1] at h
    simp at h
    rcases h5 with h5 | h5
    · rw [beq_eq_false_iff_ne] at h5; exact h5 h.1
    · rw [h5] at h; simp at h
  · rw [h2] at h; cases h
  · rw [h3] at h; cases h
  · rw [h4] at h; cases h
theorem pn_sg {s : List UInt8} (h : s ≠ []) (hl : sgL s = s.length) : pn s = true := by
  have hle := sgL_le s
  have h3 : s.length ≤ 3 := by
    rw [← hl]; unfold sgL; split <;> (try split) <;> (try split) <;> omega
  unfold sgL at hl
  split at hl
  · rename_i h1
    simp at h1
    rw [List.take_of_length_le (by omega)] at h1
    exact h1.2
  · split at hl
    · rename_i h1
      simp at h1
      rw [List.take_of_length_le (by omega)] at h1
      exact h1.2
    · split at hl
      · rename_i h1
        simp at h1
        rw [List.take_of_length_le (by omega)] at h1
        exact h1.2
      · have : s = [] := List.length_eq_zero_iff.1 hl.symm
        exact absurd this h
theorem pn_kind {s : List UInt8} (h : s ≠ []) (h0 : (ms s).2 ≠ 0) (hall : (ms s).2 = s.length) : pn s = decide ((ms s).1 = 5) := by
  cases s with
  | nil => exact absurd rfl h
  | cons c r =>
    have hms : ms (c :: r) = ms (c :: r) := rfl
    conv at hms => rhs; rw [ms]
    rw [hms] at hall ⊢
    split
    · rename_i hnu
      rw [pn_not (.inl hnu)]; rfl
    · rename_i hnu
      rw [if_neg hnu] at hall
      by_cases hnm : nm c = true
      · rw [if_pos hnm, pn_not (.inr (.inl hnm))]; rfl
      · rw [if_neg hnm] at hall ⊢
        by_cases h39 : (c == 39) = true
        · rw [if_pos h39, pn_not (.inr (.inr (.inl h39)))]; rfl
        · rw [if_neg h39] at hall ⊢
          by_cases h34 : (c == 34) = true
          · rw [if_pos h34, pn_not (.inr (.inr (.inr h34)))]; rfl
          · rw [if_neg h34] at hall ⊢
            by_cases hsg : 0 < sgL (c :: r)
            · rw [if_pos hsg] at hall ⊢
              rw [pn_sg (by simp) hall]; rfl
            · rw [if_neg hsg] at hall ⊢
              have h1 : r = [] := by
                simp at hall
                exact hall
              subst h1
              have h0 : sgL [c] = 0 := by omega
              unfold sgL at h0
              simp at h0
              rw [h0]; rfl
/-- Each token of lines, alone, is just itself. -/
theorem lex_alone {l : List Ln} {t : T} (h : t ∈ (lex l).1) : lex [(1, t.s)] = ([⟨t.kind, t.s, 1, false, true⟩], 0, 0) ∧ pn t.s = decide (t.kind = 5) ∧ t.s ≠ [] := by
  rcases col_mem _ _ t h with h1 | h1
  · simp at h1
  · obtain ⟨s, h2, h3, h4, h5⟩ := ev_all _ _ _ _ _ h1 rfl
    simp only at h4 h5
    have hne := isT_ne h2
    have hms := ms_take hne h3
    have hle := ms_le hne
    have hne2 : t.s ≠ [] := by
      rw [h5]; intro e
      have := congrArg List.length e
      simp at this
      rcases this with h | h
      · exact h3 h
      · exact hne h
    refine ⟨?_, ?_, hne2⟩
    · unfold lex
      rw [h5, alone_ev h2 h3, h4]
      rfl
    · rw [pn_kind hne2 (by rw [h5, hms]; exact h3) (by rw [h5, hms]; simp; omega), h5, hms, h4]
end Go.Proofs.YtaoekfokpbebfaaDoor.Tk
