/-
  Plain lists: what stands behind a token, if it is a blank or nothing, makes no difference to it.
-/
import Derived.Test.YtaoekfokpbebfaaDoorL6
namespace Go.Proofs.YtaoekfokpbebfaaDoor.Tk
set_option linter.unusedSimpArgs false
set_option linter.unusedVariables false

/-- Nothing, or a blank. -/
def stop : List UInt8 → Bool
  | [] => true
  | c :: _ => c == 32
theorem stop_nm {v : List UInt8} (h : stop v = true) : nmL v = 0 := by
  cases v with
  | nil => rfl
  | cons c r => simp [stop] at h; subst h; rfl
theorem stop_nu {v : List UInt8} (h : stop v = true) (a : UInt8) : nuL a v = 0 := by
  cases v with
  | nil => rfl
  | cons c r => simp [stop] at h; subst h; rfl
theorem stop_dig {v : List UInt8} (h : stop v = true) : dig1 v = false := by
  cases v with
  | nil => rfl
  | cons c r => simp [stop] at h; subst h; rfl
theorem nmL_swap {v v' : List UInt8} (hv : stop v' = true) : ∀ (u : List UInt8), nmL (u ++ v) ≤ u.length → nmL (u ++ v') = nmL (u ++ v)
  | [], h => by
    simp at h
    simp [stop_nm hv, h]
  | c :: u, h => by
    simp only [List.cons_append, nmL] at h ⊢
    by_cases hc : nm c = true
    · simp only [hc, if_true, List.length_cons] at h ⊢
      rw [nmL_swap (v := v) hv u (by omega)]
    · simp only [hc, Bool.false_eq_true, if_false]
theorem nuL_swap {v v' : List UInt8} (hv : stop v' = true) : ∀ (a : UInt8) (u : List UInt8), nuL a (u ++ v) ≤ u.length → nuL a (u ++ v') = nuL a (u ++ v)
  | a, [], h => by
    simp at h
    simp [stop_nu hv, h]
  | a, c :: u, h => by
    simp only [List.cons_append, nuL] at h ⊢
    by_cases hc : nu a c = true
    · simp only [hc, if_true, List.length_cons] at h ⊢
      rw [nuL_swap (v := v) hv c u (by omega)]
    · simp only [hc, Bool.false_eq_true, if_false]
theorem quL_app (q : UInt8) : ∀ (e : Bool) (p z : List UInt8), 0 < quL q e p → quL q e (p ++ z) = quL q e p
  | true, [], z, h => by simp [quL] at h
  | false, [], z, h => by simp [quL] at h
  | true, c :: r, z, h => by
    rw [quL] at h
    rw [List.cons_append, quL, quL, quL_app q false r z (up_pos h).1]
  | false, c :: r, z, h => by
    rw [quL] at h
    rw [List.cons_append, quL, quL]
    split
    · rename_i hc
      rw [if_pos hc] at h
      rw [quL_app q true r z (up_pos h).1]
    · rename_i hc
      rw [if_neg hc] at h
      split
      · rfl
      · rename_i hq
        rw [if_neg hq] at h
        rw [quL_app q false r z (up_pos h).1]
theorem quL_swap {q : UInt8} {v v' : List UInt8} (u : List UInt8) (h0 : 0 < quL q false (u ++ v)) (h : quL q false (u ++ v) ≤ u.length) : quL q false (u ++ v') = quL q false (u ++ v) := by
  have h1 := quL_take q false (u ++ v) _ h0 h
  rw [List.take_left] at h1
  have h2 := quL_app q false u v' (by omega)
  omega
theorem sgL_max {s : List UInt8} {j : Nat} (h1 : 1 ≤ j) (h3 : j ≤ 3) (hl : j ≤ s.length) (hp : pn (s.take j) = true) : j ≤ sgL s := by
  unfold sgL
  obtain rfl | rfl | rfl : j = 1 ∨ j = 2 ∨ j = 3 := by omega
  · split
    · omega
    · split
      · omega
      · simp [hl, hp]
  · split
    · omega
    · simp [hl, hp]
  · simp [hl, hp]
theorem sgL_of {s : List UInt8} {k : Nat} (h3 : k ≤ 3) (hl : k ≤ s.length) (hp : k = 0 ∨ pn (s.take k) = true) (hm : ∀ j, k < j → j ≤ 3 → j ≤ s.length → pn (s.take j) = false) : sgL s = k := by
  have hle : sgL s ≤ k := by
    rcases Nat.lt_or_ge k (sgL s) with h | h
    · have h4 : sgL s ≤ 3 := by unfold sgL; split <;> (try split) <;> (try split) <;> omega
      have := hm (sgL s) h h4 (sgL_le s)
      have hps : pn (s.take (sgL s)) = true := by
        have hpos : 0 < sgL s := by omega
        clear hm this
        generalize hk : sgL s = m at *
        unfold sgL at hk
        split at hk
        · rename_i h5; subst hk; simp at h5; exact h5.2
        · split at hk
          · rename_i h5; subst hk; simp at h5; exact h5.2
          · split at hk
            · rename_i h5; subst hk; simp at h5; exact h5.2
            · omega
      rw [hps] at this; cases this
    · exact h
  rcases hp with rfl | hp
  · omega
  · rcases Nat.eq_zero_or_pos k with h0 | h0
    · omega
    · have := sgL_max h0 h3 hl hp
      omega
theorem sgL_top (s : List UInt8) : sgL s ≤ 3 ∧ (sgL s = 0 ∨ pn (s.take (sgL s)) = true) := by
  unfold sgL
  split
  · rename_i h; simp at h; exact ⟨by omega, .inr h.2⟩
  · split
    · rename_i h; simp at h; exact ⟨by omega, .inr h.2⟩
    · split
      · rename_i h; simp at h; exact ⟨by omega, .inr h.2⟩
      · exact ⟨by omega, .inl rfl⟩
theorem pn_blank {s : List UInt8} (h : 32 ∈ s) : pn s = false := by
  rw [pn, Bool.eq_false_iff]
  intro hp
  rw [List.contains_iff_mem] at hp
  have key : ∀ x ∈ signs, (x.contains 32) = false := by decide
  have := key _ hp
  rw [Bool.eq_false_iff] at this
  exact this (by simpa using h)
theorem sgL_swap {v v' : List UInt8} (hv : stop v' = true) (u : List UInt8) (h : sgL (u ++ v) ≤ u.length) : sgL (u ++ v') = sgL (u ++ v) := by
  obtain ⟨t1, t2⟩ := sgL_top (u ++ v)
  refine sgL_of t1 (by rw [List.length_append]; omega) ?_ (fun j hj j3 jl => ?_)
  · rcases t2 with t2 | t2
    · exact .inl t2
    · right
      rw [List.take_append_of_le_length h] at t2 ⊢
      exact t2
  · by_cases hju : j ≤ u.length
    · rw [List.take_append_of_le_length hju, Bool.eq_false_iff]
      intro hp
      have := sgL_max (s := u ++ v) (j := j) (by omega) j3 (by rw [List.length_append]; omega) (by rw [List.take_append_of_le_length hju]; exact hp)
      omega
    · cases v' with
      | nil => simp at jl; omega
      | cons c r =>
        simp [stop] at hv
        subst hv
        apply pn_blank
        rw [List.take_append]
        obtain ⟨m, hm⟩ : ∃ m, j - u.length = m + 1 := ⟨j - u.length - 1, by omega⟩
        rw [hm]
        simp
/-- The first token of a text hangs on nothing behind it but whether it goes on. -/
theorem ms_swap {v v' u : List UInt8} (hu : u ≠ []) (hv : stop v' = true) (h0 : (ms (u ++ v)).2 ≠ 0) (h : (ms (u ++ v)).2 ≤ u.length) : ms (u ++ v') = ms (u ++ v) := by
  cases u with
  | nil => exact absurd rfl hu
  | cons c r =>
    simp only [List.cons_append] at h0 h ⊢
    simp only [ms] at h0 h ⊢
    have hdig : (dg c || (c == 46 && dig1 (r ++ v'))) = (dg c || (c == 46 && dig1 (r ++ v))) := by
      cases r with
      | cons d r => rfl
      | nil =>
        simp only [List.nil_append]
        rw [stop_dig hv]
        cases hdc : dg c
        · simp only [Bool.false_or, Bool.and_false]
          symm
          rw [Bool.eq_false_iff]
          intro hh
          rw [hdc] at h
          simp only [Bool.false_or, List.nil_append, hh, if_true, List.length_cons, List.length_nil] at h
          simp only [Bool.and_eq_true, beq_iff_eq] at hh
          obtain ⟨rfl, hd⟩ := hh
          cases v with
          | nil => simp [dig1] at hd
          | cons d v =>
            simp only [dig1] at hd
            have hnu : nu 46 d = true := by
              have h1 : (d == 43 || d == 45) = false := by
                unfold dg at hd
                simp at hd
                have h2 := UInt8.le_iff_toNat_le.1 hd.1
                have e1 : d ≠ 43 := fun e => by subst e; revert h2; decide
                have e2 : d ≠ 45 := fun e => by subst e; revert h2; decide
                simp [e1, e2]
              unfold nu nm
              rw [h1, hd]; simp
            rw [nuL, if_pos hnu] at h
            omega
        · rfl
    rw [hdig]
    by_cases hnu : (dg c || (c == 46 && dig1 (r ++ v))) = true
    · simp only [hnu, if_true, List.length_cons] at h ⊢
      rw [nuL_swap (v := v) hv c r (by omega)]
    · simp only [hnu, Bool.false_eq_true, if_false] at h0 h ⊢
      by_cases hnm : nm c = true
      · simp only [hnm, if_true, List.length_cons] at h ⊢
        rw [nmL_swap (v := v) hv r (by omega)]
      · simp only [hnm, Bool.false_eq_true, if_false] at h0 h ⊢
        by_cases h39 : (c == 39) = true
        · simp only [h39, if_true, List.length_cons] at h0 h ⊢
          by_cases hq1 : quL 39 false (r ++ v) = 1
          · simp [hq1] at h0
          · simp only [hq1, Bool.false_eq_true, if_false] at h0 h
            obtain ⟨q2, q3⟩ := up_pos (m := quL 39 false (r ++ v)) (by omega)
            rw [quL_swap (v := v) r q2 (by omega)]
        · simp only [h39, Bool.false_eq_true, if_false] at h0 h ⊢
          by_cases h34 : (c == 34) = true
          · simp only [h34, if_true, List.length_cons] at h0 h ⊢
            obtain ⟨q2, q3⟩ := up_pos (m := quL 34 false (r ++ v)) (by omega)
            rw [quL_swap (v := v) r q2 (by omega)]
          · simp only [h34, Bool.false_eq_true, if_false] at h0 h ⊢
            have hsw : sgL (c :: (r ++ v')) = sgL (c :: (r ++ v)) := by
              refine sgL_swap (v := v) (u := c :: r) hv ?_
              by_cases hsg : 0 < sgL (c :: (r ++ v))
              · simp only [hsg, if_true] at h
                exact h
              · simp only [List.cons_append]
                omega
            rw [hsw]
theorem isT_swap {v v' u : List UInt8} (hu : u ≠ []) (hv : stop v' = true) (h : isT (u ++ v) = true) : isT (u ++ v') = true := by
  cases u with
  | nil => exact absurd rfl hu
  | cons c r =>
    simp only [List.cons_append] at h ⊢
    rw [isT_iff] at h ⊢
    cases r with
    | cons d r =>
      simp only [List.cons_append, pre_two] at h ⊢
      exact h
    | nil =>
      simp only [List.nil_append] at h ⊢
      simp only [Bool.and_eq_true, Bool.not_eq_true'] at h ⊢
      refine ⟨⟨?_, ?_⟩, h.2⟩
      all_goals
        cases v' with
        | nil => simp [pre, List.isPrefixOf]
        | cons d r =>
          simp [stop] at hv
          subst hv
          rw [pre_two]
          simp
end Go.Proofs.YtaoekfokpbebfaaDoor.Tk
