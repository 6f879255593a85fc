/-
  Plain lists: the lines of two parts, and of a text with a splice more.
-/
import Derived.Test.YtaoekfokpbebfaaDoorTp2
namespace Go.Proofs.YtaoekfokpbebfaaDoor.Sx.Tx

theorem pl_app : ∀ (n : Nat) (a cur b : List UInt8), a.length ≤ n → pl cur (a ++ 10 :: b) = pl cur (a ++ [10]) ++ pl [] b := by
  intro n
  induction n with
  | zero =>
    intro a cur b h
    have : a = [] := List.length_eq_zero_iff.1 (by omega)
    subst this
    simp [pl_lf, pl_nil]
  | succ n ih =>
    intro a cur b h
    cases a with
    | nil => simp [pl_lf, pl_nil]
    | cons c r =>
      have hr : r.length ≤ n := by simpa using h
      by_cases h13 : c = 13
      · subst h13
        cases r with
        | nil =>
          simp only [List.cons_append, List.nil_append]
          rw [pl_crlf, pl_crlf, pl_nil]; rfl
        | cons x r =>
          by_cases hx : x = 10
          · subst hx
            simp only [List.cons_append]
            rw [pl_crlf, pl_crlf, ih r [] b (by simp at hr; omega)]; rfl
          · simp only [List.cons_append]
            rw [pl_cr (by simp [hx]), pl_cr (by simp [hx]), ← List.cons_append, ← List.cons_append, ih (x :: r) [] b hr]; rfl
      · by_cases h10 : c = 10
        · subst h10
          simp only [List.cons_append]
          rw [pl_lf, pl_lf, ih r [] b hr]; rfl
        · simp only [List.cons_append]
          rw [pl_char h13 h10, pl_char h13 h10, ih r _ b hr]

/-- What stands ahead of a place is the same whatever comes behind it. -/
theorem pl_split : ∀ (n : Nat) (A cur : List UInt8), A.length ≤ n → A.getLast? ≠ some 13 → ∃ M c, (∀ B, pl cur (A ++ B) = M ++ pl c B) ∧ c <:+ cur ++ A := by
  intro n
  induction n with
  | zero =>
    intro A cur h _
    have : A = [] := List.length_eq_zero_iff.1 (by omega)
    subst this
    exact ⟨[], cur, fun B => rfl, by simp⟩
  | succ n ih =>
    intro A cur h hl
    cases A with
    | nil => exact ⟨[], cur, fun B => rfl, by simp⟩
    | cons c r =>
      have hr : r.length ≤ n := by simpa using h
      have hlr : r.getLast? ≠ some 13 := by
        cases r with
        | nil => simp
        | cons x r => simpa using hl
      by_cases h13 : c = 13
      · subst h13
        cases r with
        | nil => simp at hl
        | cons x r =>
          by_cases hx : x = 10
          · subst hx
            have hlr2 : r.getLast? ≠ some 13 := by
              cases r with
              | nil => simp
              | cons y r => simpa using hlr
            obtain ⟨M, c', hM, hc⟩ := ih r [] (by simp at hr; omega) hlr2
            refine ⟨cur :: M, c', fun B => ?_, ?_⟩
            · simp only [List.cons_append]; rw [pl_crlf, hM]
            · exact List.IsSuffix.trans (by simpa using hc) ⟨cur ++ [13, 10], by simp⟩
          · obtain ⟨M, c', hM, hc⟩ := ih (x :: r) [] hr hlr
            refine ⟨cur :: M, c', fun B => ?_, ?_⟩
            · have := hM B
              simp only [List.cons_append] at this ⊢
              rw [pl_cr (by simp [hx]), this]
            · exact List.IsSuffix.trans (by simpa using hc) ⟨cur ++ [13], by simp⟩
      · by_cases h10 : c = 10
        · subst h10
          obtain ⟨M, c', hM, hc⟩ := ih r [] hr hlr
          refine ⟨cur :: M, c', fun B => ?_, ?_⟩
          · simp only [List.cons_append]; rw [pl_lf, hM]
          · exact List.IsSuffix.trans (by simpa using hc) ⟨cur ++ [10], by simp⟩
        · obtain ⟨M, c', hM, hc⟩ := ih r (cur ++ [c]) hr hlr
          refine ⟨M, c', fun B => ?_, ?_⟩
          · simp only [List.cons_append]; rw [pl_char h13 h10, hM]
          · simpa using hc

/-- What the open line has goes ahead of the first line. -/
theorem pl_cur : ∀ (n : Nat) (B : List UInt8), B.length ≤ n → B ≠ [] → ∃ x R, (∀ c, pl c B = (c ++ x) :: R) ∧ (x = [] → ler B ≠ 0) := by
  intro n
  induction n with
  | zero => intro B h hB; exact absurd (List.length_eq_zero_iff.1 (by omega)) hB
  | succ n ih =>
    intro B h hB
    cases B with
    | nil => exact absurd rfl hB
    | cons b r =>
      by_cases h0 : ler (b :: r) = 0
      · cases r with
        | nil => exact ⟨[b], [], fun c => by rw [pl_no h0, pl_nil]; simp, by simp⟩
        | cons y r =>
          obtain ⟨x, R, hx, _⟩ := ih (y :: r) (by simpa using h) (by simp)
          exact ⟨b :: x, R, fun c => by rw [pl_no h0, hx]; simp, by simp⟩
      · exact ⟨[], pl [] ((b :: r).drop (ler (b :: r))), fun c => by rw [pl_yes h0]; simp, fun _ => h0⟩

theorem bsB_iff (x : List UInt8) : bsB x = true ↔ [92] <:+ x := by unfold bsB; exact List.isSuffixOf_iff_suffix
theorem bsB_last (x : List UInt8) : bsB x = true ↔ x.getLast? = some 92 := by
  rw [bsB_iff]
  constructor
  · rintro ⟨t, rfl⟩; simp
  · intro h
    obtain ⟨l, rfl⟩ := List.getLast?_eq_some_iff.1 h
    exact ⟨l, rfl⟩
theorem bsB_snoc (x : List UInt8) : bsB (x ++ [92]) = true := (bsB_last _).2 (by simp)
theorem cutB_snoc (x : List UInt8) (c : UInt8) : cutB (x ++ [c]) = x := by simp [cutB]
theorem bsB_app (c x : List UInt8) (hx : x ≠ []) : bsB (c ++ x) = bsB x := by
  rw [Bool.eq_iff_iff, bsB_last, bsB_last, List.getLast?_append]
  cases h : x.getLast? with
  | none => exact absurd (List.getLast?_eq_none_iff.1 h) hx
  | some z => simp
theorem cutB_app (c x : List UInt8) (hx : x ≠ []) : cutB (c ++ x) = c ++ cutB x := by
  have : 0 < x.length := List.length_pos_iff.2 hx
  unfold cutB
  rw [List.length_append, Nat.add_sub_assoc (by omega), List.take_append, List.take_of_length_le (by omega)]
  simp
theorem suf_last {c l : List UInt8} (h : c <:+ l) (hc : bsB c = true) : l.getLast? = some 92 := by
  rw [bsB_iff] at hc
  exact (bsB_last l).1 ((bsB_iff l).2 (hc.trans h))

/-! Two parts. -/
theorem lg_app : ∀ (M : List (List UInt8)) (x : List UInt8) (n f : Nat) (w : List UInt8) (L : List (List UInt8)), bsB x = false →
    lg n f w (M ++ x :: L) = lg n f w (M ++ [x]) ++ lg (n + M.length + 1) (n + M.length + 1 + 1) [] L
  | [], x, n, f, w, L, h => by simp [lg, h]
  | y :: M, x, n, f, w, L, h => by
    simp only [List.cons_append, lg]
    have e1 : decide (M ++ x :: L ≠ []) = true := by simp
    have e2 : decide (M ++ [x] ≠ []) = true := by simp
    rw [e1, e2]
    split
    · rw [lg_app M x (n + 1) f _ L h]; congr 2 <;> (simp only [List.length_cons]; omega)
    · rw [lg_app M x (n + 1) (n + 1 + 1) _ L h]; simp only [List.cons_append, List.length_cons]; congr 3 <;> omega
def shift (m : Nat) (l : List (Nat × List UInt8)) : List (Nat × List UInt8) := l.map fun p => (p.1 + m, p.2)
theorem lg_shift (m : Nat) : ∀ (L : List (List UInt8)) (n f : Nat) (w : List UInt8), lg (n + m) (f + m) w L = shift m (lg n f w L)
  | [], _, _, _ => rfl
  | x :: L, n, f, w => by
    simp only [lg]
    split
    · rw [show n + m + 1 = n + 1 + m by omega, lg_shift m L]
    · simp only [shift, List.map_cons]
      rw [show n + m + 1 = n + 1 + m by omega, show n + 1 + m + 1 = n + 1 + 1 + m by omega, lg_shift m L]; rfl
theorem lines_parts (a b : List UInt8) (h13 : a.getLast? ≠ some 13) (h92 : a.getLast? ≠ some 92) :
    lines ((a ++ [10]) ++ b) = lines (a ++ [10]) ++ shift (pl [] (a ++ [10])).length (lines b) := by
  obtain ⟨M, c, hM, hc⟩ := pl_split a.length a [] (Nat.le_refl _) h13
  have hL : pl [] (a ++ [10]) = M ++ [c] := by rw [hM [10], pl_lf, pl_nil]; rfl
  have hx : bsB c = false := by
    rw [Bool.eq_false_iff]; intro h
    exact h92 (by simpa using suf_last hc h)
  have e : (a ++ [10]) ++ b = a ++ 10 :: b := by simp
  rw [lines_lg, lines_lg, lines_lg, e, pl_app a.length a [] b (Nat.le_refl _), hL, List.append_assoc, List.singleton_append, lg_app M c 0 1 [] _ hx]
  congr 1
  rw [← lg_shift]
  congr 1 <;> (simp; try omega)
theorem pl_parts (a b : List UInt8) : (pl [] ((a ++ [10]) ++ b)).length = (pl [] (a ++ [10])).length + (pl [] b).length := by
  have e : (a ++ [10]) ++ b = a ++ 10 :: b := by simp
  rw [e, pl_app a.length a [] b (Nat.le_refl _)]; simp

theorem lg_num : ∀ (L : List (List UInt8)) (n f : Nat) (w : List UInt8), f ≤ n + 1 → ∀ p ∈ lg n f w L, p.1 ≤ n + L.length
  | [], _, _, _, _, p, hp => by simp [lg] at hp
  | x :: L, n, f, w, h, p, hp => by
    simp only [lg] at hp
    split at hp
    · have := lg_num L (n + 1) f _ (by omega) p hp; simp only [List.length_cons]; omega
    · rcases List.mem_cons.1 hp with rfl | hp
      · simp only [List.length_cons]; omega
      · have := lg_num L (n + 1) (n + 1 + 1) _ (by omega) p hp; simp only [List.length_cons]; omega
theorem lines_num (d : List UInt8) : ∀ p ∈ lines d, p.1 ≤ d.length := by
  intro p hp
  rw [lines_lg] at hp
  have h1 := lg_num _ 0 1 [] (by omega) p hp
  have h2 := phys_length d
  rw [phys_len] at h2
  omega

/-! A splice more. -/
def Rel : List (Nat × List UInt8) → List (Nat × List UInt8) → Prop
  | [], [] => True
  | x :: l, y :: r => x.2 = y.2 ∧ (y.1 = x.1 ∨ y.1 = x.1 + 1) ∧ Rel l r
  | _, _ => False
theorem Rel.refl : ∀ l, Rel l l
  | [] => trivial
  | _ :: l => ⟨rfl, .inl rfl, Rel.refl l⟩
theorem Rel.length : ∀ {l r}, Rel l r → l.length = r.length
  | [], [], _ => rfl
  | _ :: _, _ :: _, h => by simp [Rel.length h.2.2]
  | [], _ :: _, h => h.elim
  | _ :: _, [], h => h.elim
theorem Rel.get : ∀ {l r}, Rel l r → ∀ (i : Nat) (h1 : i < l.length) (h2 : i < r.length), l[i].2 = r[i].2 ∧ (r[i].1 = l[i].1 ∨ r[i].1 = l[i].1 + 1)
  | [], [], _, i, h1, _ => by simp at h1
  | _ :: _, _ :: _, h, 0, _, _ => ⟨h.1, h.2.1⟩
  | _ :: _, _ :: _, h, i + 1, h1, h2 => by simpa using Rel.get h.2.2 i (by simpa using h1) (by simpa using h2)
  | [], _ :: _, h, _, _, _ => h.elim
  | _ :: _, [], h, _, _, _ => h.elim
theorem lg_rel : ∀ (L : List (List UInt8)) (n f f' : Nat) (w : List UInt8), (f' = f ∨ f' = f + 1) → Rel (lg n f w L) (lg (n + 1) f' w L)
  | [], _, _, _, _, _ => trivial
  | x :: L, n, f, f', w, h => by
    simp only [lg]
    split
    · exact lg_rel L _ _ _ _ h
    · exact ⟨rfl, h, lg_rel L _ _ _ _ (.inr rfl)⟩
theorem lg_splice (c x : List UInt8) (hx : x = [] → bsB c = false) : ∀ (M R : List (List UInt8)) (n f : Nat) (w : List UInt8), Rel (lg n f w (M ++ (c ++ x) :: R)) (lg n f w (M ++ (c ++ [92]) :: x :: R))
  | [], R, n, f, w => by
    simp only [List.nil_append]
    have e : lg n f w ((c ++ [92]) :: x :: R) = lg (n + 1) f (w ++ c) (x :: R) := by
      conv => lhs; unfold lg
      rw [bsB_snoc, cutB_snoc]; simp
    rw [e]
    simp only [lg]
    by_cases h0 : x = []
    · subst h0
      have h1 := hx rfl
      have h2 : bsB [] = false := by decide
      simp only [List.append_nil, h1, h2, Bool.false_and, Bool.false_eq_true, if_false]
      exact ⟨by simp, .inl rfl, lg_rel _ _ _ _ _ (.inr rfl)⟩
    · rw [bsB_app c x h0, cutB_app c x h0]
      split
      · rw [← List.append_assoc]; exact lg_rel _ _ _ _ _ (.inl rfl)
      · exact ⟨by simp, .inl rfl, lg_rel _ _ _ _ _ (.inr rfl)⟩
  | y :: M, R, n, f, w => by
    simp only [List.cons_append, lg]
    have e1 : decide (M ++ (c ++ x) :: R ≠ []) = true := by simp
    have e2 : decide (M ++ (c ++ [92]) :: x :: R ≠ []) = true := by simp
    rw [e1, e2]
    split
    · exact lg_splice c x hx M R _ _ _
    · exact ⟨rfl, .inl rfl, lg_splice c x hx M R _ _ _⟩
theorem lines_splice (A B : List UInt8) (hB : B ≠ []) (h13 : A.getLast? ≠ some 13) (h92 : A.getLast? = some 92 → ler B = 0) :
    Rel (lines (A ++ B)) (lines (A ++ [92, 10] ++ B)) := by
  obtain ⟨M, c, hM, hc⟩ := pl_split A.length A [] (Nat.le_refl _) h13
  obtain ⟨x, R, hx, h0⟩ := pl_cur B.length B (Nat.le_refl _) hB
  have e1 : pl [] (A ++ B) = M ++ (c ++ x) :: R := by rw [hM, hx]
  have e2 : pl [] (A ++ [92, 10] ++ B) = M ++ (c ++ [92]) :: x :: R := by
    rw [List.append_assoc, hM]
    simp only [List.cons_append, List.nil_append]
    rw [pl_char (by decide) (by decide), pl_lf, hx]; rfl
  rw [lines_lg, lines_lg, e1, e2]
  refine lg_splice c x (fun hx0 => ?_) M R 0 1 []
  rw [Bool.eq_false_iff]; intro hb
  exact h0 hx0 (h92 (by simpa using suf_last hc hb))
end Go.Proofs.YtaoekfokpbebfaaDoor.Sx.Tx
