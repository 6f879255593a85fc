/-
  Lists: every word that comes of tokens is right; a number's text bears bytes below 128 alone.
-/
import Derived.Test.YtnpjgamfjfmjjaaDoorKb
namespace Go.Proofs.YtnpjgamfjfmjjaaDoor
open Go Go.RowKit
set_option linter.unusedVariables false
set_option linter.unusedSimpArgs false

theorem dv_pos (c : UInt8) : 0 ≤ dvM c.toNat := by
  unfold dvM
  repeat' split
  all_goals omega
theorem puM_range (base cut : Int) (hb : 0 ≤ base) : ∀ (l : List UInt8) (a : Int), 0 ≤ a → a < 18446744073709551616 → 0 ≤ (puM base cut a l).1 ∧ (puM base cut a l).1 < 18446744073709551616
  | [], a, h0, h1 => ⟨h0, h1⟩
  | c :: r, a, h0, h1 => by
    rw [puM]
    split
    · exact ⟨by decide, by decide⟩
    · split
      · exact ⟨by decide, by decide⟩
      · split
        · exact ⟨by decide, by decide⟩
        · have := dv_pos c
          have := Int.mul_nonneg h0 hb
          exact puM_range base cut hb r _ (by omega) (by omega)
theorem numM_range (s : List UInt8) : 0 ≤ (numM s).1.b ∧ (numM s).1.b < 18446744073709551616 := by
  have hp : ∀ t : List UInt8, 0 ≤ (puS (baseM s) (baseC (baseM s)) t).1 ∧ (puS (baseM s) (baseC (baseM s)) t).1 < 18446744073709551616 := fun t => by
    unfold puS
    split
    · exact ⟨by decide, by decide⟩
    · exact puM_range _ _ (by rcases baseM_is s with h | h | h <;> omega) _ _ (by decide) (by decide)
  unfold numM
  simp only
  split
  · exact ⟨by decide, by decide⟩
  · exact hp _
theorem si_right (t : Gt) (h : (siM t).2 = true) : rightM (siM t).1 = true := by
  unfold siM at h ⊢
  cases k1 : t.kind == 1
  · simp only [k1, Bool.false_eq_true, if_false] at h ⊢
    cases k2 : t.kind == 2
    · simp only [k2, Bool.false_eq_true, if_false] at h ⊢
      cases k3 : t.kind == 3
      · simp only [k3, Bool.false_eq_true, if_false] at h ⊢
        cases k5 : t.kind == 5
        · simp only [k5, Bool.false_eq_true, if_false] at h
        · simp only [k5, if_true] at h ⊢
          simp [rightM, h]
      · simp only [k3, if_true] at h ⊢
        rw [h]
        have hr := rdM_range t.s
        have := rInt_char hr.1 hr.2
        rw [right3]
        exact this
    · simp only [k2, if_true] at h ⊢
      unfold numW at h ⊢
      cases hn : (numM t.s).2
      · simp [hn] at h
      · simp only [hn, if_true] at h ⊢
        have hr := numM_range t.s
        have hk : kindM (numM t.s).1.b t.s ≠ 0 := by simpa using h
        have hi := kmN_is _ _ _ _ 4 5 (by decide) (by decide) hk
        have := rInt_of hr.1 hr.2 hi.1 hi.2.1 hi.2.2
        rw [right3]
        exact this
  · simp only [k1, if_true] at h ⊢
    cases hk : keyM t.s
    · simp only [hk, Bool.false_eq_true, if_false] at h ⊢
      simp [rightM, hk, h]
    · simp [rightM, hk]
theorem fi_right (t : Gt) (r : List Gt) (h : (fiM (t :: r)).2.2 = true) : rightM (fiM (t :: r)).1 = true := by
  unfold fiM at h ⊢
  cases k4 : t.kind == 4
  · simp only [k4, Bool.false_eq_true, if_false] at h ⊢
    rw [right_pl]
    exact si_right t h
  · simp only [k4, if_true] at h ⊢
    obtain ⟨z, hz, hl⟩ := tx_word t (t :: r) [] (by decide) h
    rw [hz]
    simp [rightM, hl]
theorem wev_right : ∀ (n : Nat) (l : List Gt), l.length ≤ n → ∀ e ∈ wev l, e.2 = true → rightM e.1 = true := by
  intro n
  induction n with
  | zero =>
    intro l hl e he
    obtain rfl : l = [] := List.length_eq_zero_iff.1 (by omega)
    cases he
  | succ n ih =>
    intro l hl e he h2
    match l, hl, he with
    | [], _, he => cases he
    | t :: r, hl, he =>
      rw [wev_step] at he
      rcases List.mem_cons.1 he with rfl | he
      · exact fi_right t r h2
      · split at he
        · rename_i hf
          have hp := fiM_pos t r hf
          exact ih _ (by simp at hl ⊢; omega) e he h2
        · cases he
theorem ws_right (l : List Gt) : ∀ x ∈ (wsM l).1, rightM x = true := by
  intro x hx
  unfold wsM at hx
  cases ha : allOk (wev l)
  · rw [(wcol_no _ _ ha).1] at hx; cases hx
  · rw [wcol_ok _ _ ha] at hx
    simp only [List.nil_append, List.mem_map] at hx
    obtain ⟨e, he, rfl⟩ := hx
    unfold allOk at ha
    exact wev_right _ l (Nat.le_refl _) e he (List.all_eq_true.1 ha e he)
theorem si_len (t : Gt) (h : t.s.length ≤ 140737488355320) : (siM t).1.s.length ≤ 140737488355320 := by
  unfold siM numW
  repeat' split
  all_goals first | exact h | (show 0 ≤ _; omega)
theorem fi_len (t : Gt) (r : List Gt) (ht : t.s.length ≤ 140737488355320) (h : (fiM (t :: r)).2.2 = true) : (fiM (t :: r)).1.s.length ≤ 140737488355320 := by
  unfold fiM at h ⊢
  cases k4 : t.kind == 4
  · simp only [k4, Bool.false_eq_true, if_false] at h ⊢
    exact si_len t ht
  · simp only [k4, if_true] at h ⊢
    obtain ⟨z, hz, hl⟩ := tx_word t (t :: r) [] (by decide) h
    rw [hz]
    show z.length ≤ _
    omega
theorem wev_slen : ∀ (n : Nat) (l : List Gt), l.length ≤ n → (∀ t ∈ l, t.s.length ≤ 140737488355320) → ∀ e ∈ wev l, e.2 = true → e.1.s.length ≤ 140737488355320 := by
  intro n
  induction n with
  | zero =>
    intro l hl _ e he
    obtain rfl : l = [] := List.length_eq_zero_iff.1 (by omega)
    cases he
  | succ n ih =>
    intro l hl hs e he h2
    match l, hl, hs, he with
    | [], _, _, he => cases he
    | t :: r, hl, hs, he =>
      rw [wev_step] at he
      rcases List.mem_cons.1 he with rfl | he
      · exact fi_len t r (hs t (by simp)) h2
      · split at he
        · rename_i hf
          have hp := fiM_pos t r hf
          exact ih _ (by simp at hl ⊢; omega) (fun x hx => hs x (List.mem_of_mem_drop hx)) e he h2
        · cases he
theorem ws_slen (l : List Gt) (hs : ∀ t ∈ l, t.s.length ≤ 140737488355320) : ∀ x ∈ (wsM l).1, x.s.length ≤ 140737488355320 := by
  intro x hx
  unfold wsM at hx
  cases ha : allOk (wev l)
  · rw [(wcol_no _ _ ha).1] at hx; cases hx
  · rw [wcol_ok _ _ ha] at hx
    simp only [List.nil_append, List.mem_map] at hx
    obtain ⟨e, he, rfl⟩ := hx
    unfold allOk at ha
    exact wev_slen _ l (Nat.le_refl _) hs e he (List.all_eq_true.1 ha e he)
theorem ws_len (l : List Gt) : (wsM l).1.length ≤ l.length := by
  unfold wsM
  cases ha : allOk (wev l)
  · rw [(wcol_no _ _ ha).1]; simp
  · rw [wcol_ok _ _ ha]; simpa using wev_len l
theorem ws_err (l : List Gt) : (wsM l).2.1 = 0 ∨ (wsM l).2.1 = 70 := by
  unfold wsM
  cases ha : allOk (wev l)
  · exact .inr (wcol_no _ _ ha).2
  · rw [wcol_ok _ _ ha]; exact .inl rfl
theorem dig_ascii {c : UInt8} {b : Int} (h : digM c.toNat b = true) : c.toNat < 128 := by
  unfold digM at h
  repeat' split at h
  all_goals (simp at h; omega)
theorem digN_ascii (b : Int) : ∀ (l : List UInt8), ∀ c ∈ l.take (digN b l), c.toNat < 128
  | [], c, h => by simp at h
  | d :: r, c, h => by
    rw [digN] at h
    split at h
    · rename_i hd
      rw [List.take_succ_cons] at h
      rcases List.mem_cons.1 h with rfl | h
      · exact dig_ascii hd
      · exact digN_ascii b r c h
    · simp at h
theorem suf_ascii {l : List UInt8} (h : (sufM l).2 = true) : ∀ c ∈ l, c.toNat < 128 := by
  unfold sufM at h
  split at h
  · rename_i hc
    simp only [Bool.or_eq_true, beq_iff_eq] at hc
    rcases hc with (((rfl | rfl) | rfl) | rfl) | rfl <;> decide
  · split at h
    · rename_i hc
      simp only [Bool.or_eq_true, beq_iff_eq] at hc
      intro c hm
      have : ∀ x : List UInt8, l = x → (x.all fun c => decide (c.toNat < 128)) = true → c.toNat < 128 := fun x hx ha => by
        subst hx
        simpa using List.all_eq_true.1 ha c hm
      repeat' (refine Or.elim hc ?_ ?_ <;> clear hc <;> intro hc)
      all_goals exact this _ hc (by decide)
    · cases h
theorem num_ascii {s : List UInt8} (h : (numM s).2 = true) : ∀ c ∈ s, c.toNat < 128 := by
  unfold numM at h
  simp only at h
  split at h
  · cases h
  · have hs := suf_ascii h
    have hr : ∀ c ∈ restM s, c.toNat < 128 := fun c hc => by
      rw [← List.take_append_drop (digN (baseM s) (restM s)) (restM s)] at hc
      rcases List.mem_append.1 hc with hc | hc
      · exact digN_ascii _ _ c hc
      · exact hs c hc
    unfold restM at hr
    split at hr
    · rename_i h16
      intro c hc
      rw [← List.take_append_drop 2 s] at hc
      rcases List.mem_append.1 hc with hc | hc
      · have hp : ([48, 120] : List UInt8) <+: s ∨ ([48, 88] : List UInt8) <+: s := by
          unfold baseM at h16
          split at h16
          · rename_i hq; exact .inl (List.isPrefixOf_iff_prefix.1 hq)
          · split at h16
            · rename_i hq; exact .inr (List.isPrefixOf_iff_prefix.1 hq)
            · split at h16 <;> simp at h16
        rcases hp with ⟨z, rfl⟩ | ⟨z, rfl⟩
        · simp at hc; rcases hc with rfl | rfl <;> decide
        · simp at hc; rcases hc with rfl | rfl <;> decide
      · exact hr c hc
    · exact hr
end Go.Proofs.YtnpjgamfjfmjjaaDoor
