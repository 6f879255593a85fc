/-
  Plain lists: line ends, physical lines and logical lines of a list of bytes.
-/
namespace Go.Proofs.YtaoekfokpbebfaaDoor.Sx.Tx

/-- Is p a list's beginning? -/
def preB (p l : List UInt8) : Bool := p.isPrefixOf l
theorem preB_iff (p l : List UInt8) : preB p l = true ↔ p <+: l := List.isPrefixOf_iff_prefix
/-- How many bytes the line end has that a list begins with. -/
def ler (l : List UInt8) : Nat := if preB [13, 10] l then 2 else if preB [13] l || preB [10] l then 1 else 0
theorem ler_le (l : List UInt8) : ler l ≤ 2 := by unfold ler; split <;> (try split) <;> omega
theorem ler_len (l : List UInt8) : ler l ≤ l.length := by
  unfold ler
  split
  · rename_i h; have := ((preB_iff _ _).1 h).length_le; simpa using this
  · split
    · rename_i h
      rcases (by simpa [preB_iff] using h : [13] <+: l ∨ [10] <+: l) with h | h <;> (have := h.length_le; simpa using this)
    · omega

/-- Where line ends begin, and where what stands behind each does, from place i on. -/
def endsF : Nat → Nat → List UInt8 → List (Nat × Nat)
  | 0, _, _ => []
  | f + 1, i, r => if r = [] then [] else (if ler r = 0 then [] else [(i, i + ler r)]) ++ endsF f (i + max (ler r) 1) (r.drop (max (ler r) 1))
def endsAt (d : List UInt8) (i : Nat) : List (Nat × Nat) := endsF d.length i (d.drop i)

theorem endsF_more (f i : Nat) (r : List UInt8) : ∀ g, r.length ≤ f → r.length ≤ g → endsF f i r = endsF g i r := by
  induction f generalizing i r with
  | zero => intro g h _; have : r = [] := List.length_eq_zero_iff.1 (by omega); subst this; cases g <;> simp [endsF]
  | succ f ih =>
    intro g hf hg
    cases g with
    | zero => have : r = [] := List.length_eq_zero_iff.1 (by omega); subst this; simp [endsF]
    | succ g =>
      by_cases hr : r = []
      · simp [endsF, hr]
      · simp only [endsF, hr, if_false]
        rw [ih (i + max (ler r) 1) (r.drop (max (ler r) 1)) g (by simp; omega) (by simp; omega)]
theorem endsAt_end (d : List UInt8) {i : Nat} (h : d.length ≤ i) : endsAt d i = [] := by
  unfold endsAt; rw [List.drop_eq_nil_of_le h]; cases d.length <;> simp [endsF]
theorem endsAt_step (d : List UInt8) {i : Nat} (h : i < d.length) :
    endsAt d i = (if ler (d.drop i) = 0 then [] else [(i, i + ler (d.drop i))]) ++ endsAt d (i + max (ler (d.drop i)) 1) := by
  unfold endsAt
  have hne : d.drop i ≠ [] := by intro e; have := congrArg List.length e; simp at this; omega
  obtain ⟨f, hf⟩ : ∃ f, d.length = f + 1 := ⟨d.length - 1, by omega⟩
  conv => lhs; rw [hf]
  simp only [endsF, hne, if_false]
  congr 1
  rw [List.drop_drop]
  exact endsF_more _ _ _ _ (by simp; omega) (by simp)
theorem endsAt_no (d : List UInt8) {i : Nat} (h : i < d.length) (h0 : ler (d.drop i) = 0) : endsAt d i = endsAt d (i + 1) := by
  rw [endsAt_step d h]; simp [h0]
theorem endsAt_yes (d : List UInt8) {i : Nat} (h : i < d.length) (h0 : ler (d.drop i) ≠ 0) : endsAt d i = (i, i + ler (d.drop i)) :: endsAt d (i + ler (d.drop i)) := by
  rw [endsAt_step d h]; simp [h0]; congr 1; omega

/-- The pieces that line ends cut off, and where the last one stops. -/
def pcs (d : List UInt8) : Nat → List (Nat × Nat) → List (List UInt8 × Bool)
  | _, [] => []
  | st, (e, nx) :: r => ((d.drop st).take (e - st), decide (nx < d.length)) :: pcs d nx r
def lastN : Nat → List (Nat × Nat) → Nat
  | st, [] => st
  | _, (_, nx) :: r => lastN nx r
theorem lastN_snoc (st : Nat) (pre : List (Nat × Nat)) (e nx : Nat) : lastN st (pre ++ [(e, nx)]) = nx := by
  induction pre generalizing st with
  | nil => rfl
  | cons x r ih => exact ih _
theorem pcs_snoc (d : List UInt8) (st : Nat) (pre : List (Nat × Nat)) (e nx : Nat) :
    pcs d st (pre ++ [(e, nx)]) = pcs d st pre ++ [((d.drop (lastN st pre)).take (e - lastN st pre), decide (nx < d.length))] := by
  induction pre generalizing st with
  | nil => rfl
  | cons x r ih => simp only [List.cons_append, pcs, lastN, ih]
def tailP (d : List UInt8) (st : Nat) : List (List UInt8 × Bool) := if st < d.length then [(d.drop st, false)] else []
/-- The physical lines, each with whether another one follows. -/
def phys (d : List UInt8) : List (List UInt8 × Bool) := pcs d 0 (endsAt d 0) ++ tailP d (lastN 0 (endsAt d 0))

/-- Ends rise: what comes next lies behind what came. -/
def Rises (d : List UInt8) : Nat → List (Nat × Nat) → Prop
  | _, [] => True
  | st, (e, nx) :: r => st ≤ e ∧ e < nx ∧ nx ≤ d.length ∧ Rises d nx r
theorem rises_mono (d : List UInt8) {st st' : Nat} (h : st' ≤ st) : ∀ l, Rises d st l → Rises d st' l
  | [], _ => trivial
  | (_, _) :: _, hr => ⟨by have := hr.1; omega, hr.2⟩
theorem endsAt_rises (d : List UInt8) : ∀ (m i : Nat), d.length - i ≤ m → Rises d i (endsAt d i) := by
  intro m
  induction m with
  | zero => intro i h; rw [endsAt_end d (by omega)]; trivial
  | succ m ih =>
    intro i h
    by_cases hi : i < d.length
    · by_cases h0 : ler (d.drop i) = 0
      · rw [endsAt_no d hi h0]; exact rises_mono d (by omega) _ (ih (i + 1) (by omega))
      · rw [endsAt_yes d hi h0]
        have := ler_len (d.drop i)
        simp at this
        exact ⟨Nat.le_refl _, by omega, by omega, ih _ (by omega)⟩
    · rw [endsAt_end d (by omega)]; trivial
theorem rises_at (d : List UInt8) : ∀ (pre : List (Nat × Nat)) (st : Nat) (e nx : Nat) (r : List (Nat × Nat)), Rises d st (pre ++ (e, nx) :: r) → lastN st pre ≤ e ∧ e < nx ∧ nx ≤ d.length
  | [], _, _, _, _, h => ⟨h.1, h.2.1, h.2.2.1⟩
  | (_, _) :: pre, _, e, nx, r, h => rises_at d pre _ e nx r h.2.2.2
theorem ends_next {d : List UInt8} {pre : List (Nat × Nat)} {e nx : Nat} (h : pre ++ [(e, nx)] <+: endsAt d 0) : lastN 0 pre ≤ e ∧ e < nx ∧ nx ≤ d.length := by
  obtain ⟨r, hr⟩ := h
  have := endsAt_rises d d.length 0 (by omega)
  rw [← hr, List.append_assoc] at this
  exact rises_at d pre 0 e nx r this
theorem rises_last (d : List UInt8) : ∀ (l : List (Nat × Nat)) (st : Nat), st ≤ d.length → Rises d st l → lastN st l ≤ d.length
  | [], _, h, _ => h
  | (_, nx) :: r, _, _, h => rises_last d r nx h.2.2.1 h.2.2.2
theorem ends_last (d : List UInt8) : lastN 0 (endsAt d 0) ≤ d.length := rises_last d _ 0 (by omega) (endsAt_rises d d.length 0 (by omega))
theorem pcs_prefix (d : List UInt8) {pre : List (Nat × Nat)} {e nx : Nat} (h : pre ++ [(e, nx)] <+: endsAt d 0) :
    pcs d 0 pre ++ [((d.drop (lastN 0 pre)).take (e - lastN 0 pre), decide (nx < d.length))] <+: phys d := by
  obtain ⟨r, hr⟩ := h
  unfold phys
  rw [← hr, ← pcs_snoc]
  have : ∀ (st : Nat) (a b : List (Nat × Nat)), pcs d st a <+: pcs d st (a ++ b) := by
    intro st a
    induction a generalizing st with
    | nil => intro b; exact List.nil_prefix
    | cons x a ih => intro b; obtain ⟨t, ht⟩ := ih x.2 b; exact ⟨t, by simp only [List.cons_append, pcs, ht]⟩
  exact (this 0 _ r).trans (List.prefix_append _ _)
theorem phys_tail (d : List UInt8) (h : lastN 0 (endsAt d 0) < d.length) : phys d = pcs d 0 (endsAt d 0) ++ [(d.drop (lastN 0 (endsAt d 0)), false)] := by
  unfold phys tailP; rw [if_pos h]
theorem phys_no (d : List UInt8) (h : ¬ lastN 0 (endsAt d 0) < d.length) : phys d = pcs d 0 (endsAt d 0) := by
  unfold phys tailP; rw [if_neg h]; simp

theorem pcs_length (d : List UInt8) : ∀ (l : List (Nat × Nat)) (st : Nat), (pcs d st l).length = l.length
  | [], _ => rfl
  | (_, nx) :: r, _ => by simp [pcs, pcs_length d r nx]
theorem rises_length (d : List UInt8) : ∀ (l : List (Nat × Nat)) (st : Nat), Rises d st l → st + l.length ≤ lastN st l
  | [], _, _ => by simp [lastN]
  | (_, nx) :: r, st, h => by have := rises_length d r nx h.2.2.2; simp [lastN]; have := h.1; have := h.2.1; omega
theorem phys_length (d : List UInt8) : (phys d).length ≤ d.length := by
  have h1 := rises_length d _ 0 (endsAt_rises d d.length 0 (by omega))
  have h2 := ends_last d
  unfold phys tailP
  rw [List.length_append, pcs_length]
  split <;> simp <;> omega

/-- The physical lines from a place on: the line began at st, and place i is looked at. -/
def physFrom (d : List UInt8) (st i : Nat) : List (List UInt8) := (pcs d st (endsAt d i) ++ tailP d (lastN st (endsAt d i))).map Prod.fst
theorem physFrom_zero (d : List UInt8) : physFrom d 0 0 = (phys d).map Prod.fst := rfl
theorem physFrom_end (d : List UInt8) {st i : Nat} (h : d.length ≤ i) : physFrom d st i = if st < d.length then [d.drop st] else [] := by
  unfold physFrom; rw [endsAt_end d h]; by_cases hs : st < d.length <;> simp [pcs, lastN, tailP, hs]
theorem physFrom_no (d : List UInt8) {st i : Nat} (h : i < d.length) (h0 : ler (d.drop i) = 0) : physFrom d st i = physFrom d st (i + 1) := by
  unfold physFrom; rw [endsAt_no d h h0]
theorem physFrom_yes (d : List UInt8) {st i : Nat} (h : i < d.length) (h0 : ler (d.drop i) ≠ 0) :
    physFrom d st i = (d.drop st).take (i - st) :: physFrom d (i + ler (d.drop i)) (i + ler (d.drop i)) := by
  unfold physFrom; rw [endsAt_yes d h h0]; rfl
theorem ler_cons (c : UInt8) (r : List UInt8) : ler (c :: r) = if c = 13 then (if r.head? = some 10 then 2 else 1) else if c = 10 then 1 else 0 := by
  unfold ler preB
  by_cases h1 : c = 13
  · subst h1
    cases r with
    | nil => simp
    | cons x r =>
      by_cases hx : x = 10
      · simp [hx, List.isPrefixOf]
      · have hx' : ¬ (10 : UInt8) = x := fun e => hx e.symm
        simp [hx, hx', List.isPrefixOf]
  · have h1' : ¬ (13 : UInt8) = c := fun e => h1 e.symm
    by_cases h2 : c = 10
    · subst h2; simp [List.isPrefixOf]
    · have h2' : ¬ (10 : UInt8) = c := fun e => h2 e.symm
      simp [h1, h1', h2, h2', List.isPrefixOf]
theorem cur_snoc (d : List UInt8) {st i : Nat} (h : i < d.length) (hs : st ≤ i) : (d.drop st).take (i + 1 - st) = (d.drop st).take (i - st) ++ [d[i]] := by
  rw [show i + 1 - st = (i - st) + 1 by omega, List.take_succ_eq_append_getElem (by simp; omega)]
  congr 2
  rw [List.getElem_drop]
  congr 1
  omega

/-- Does a piece end in a backslash? What it is without. -/
def bsB (x : List UInt8) : Bool := [92].isSuffixOf x
def cutB (x : List UInt8) : List UInt8 := x.take (x.length - 1)
/-- What Lines keeps, piece by piece: the number of the last physical line, of the open line's first one, the open line, the lines that were closed. -/
abbrev LS := Nat × Nat × List UInt8 × List (Nat × List UInt8)
def lstep (S : LS) (x : List UInt8 × Bool) : LS :=
  if bsB x.1 && x.2 then (S.1 + 1, S.2.1, S.2.2.1 ++ cutB x.1, S.2.2.2) else (S.1 + 1, S.1 + 1 + 1, [], S.2.2.2 ++ [(S.2.1, S.2.2.1 ++ x.1)])
def lst (pre : List (List UInt8 × Bool)) : LS := pre.foldl lstep (0, 1, [], [])
def lines (d : List UInt8) : List (Nat × List UInt8) := (lst (phys d)).2.2.2
theorem lst_snoc (pre : List (List UInt8 × Bool)) (x : List UInt8 × Bool) : lst (pre ++ [x]) = lstep (lst pre) x := by unfold lst; rw [List.foldl_append]; rfl
theorem snoc_induct {α : Type} {p : List α → Prop} (h0 : p []) (h1 : ∀ l x, p l → p (l ++ [x])) : ∀ l, p l := by
  intro l
  have h : ∀ (r l : List α), p l → p (l ++ r) := by
    intro r
    induction r with
    | nil => intro l hl; simpa using hl
    | cons x r ih => intro l hl; have := ih (l ++ [x]) (h1 l x hl); simpa using this
  simpa using h l [] h0
theorem lst_bounds (M : Nat) : ∀ pre : List (List UInt8 × Bool), (∀ x ∈ pre, x.1.length ≤ M) →
    (lst pre).1 = pre.length ∧ (lst pre).2.1 ≤ pre.length + 1 ∧ (lst pre).2.2.1.length ≤ pre.length * M ∧ (lst pre).2.2.2.length ≤ pre.length := by
  refine snoc_induct (fun _ => by simp [lst]) (fun pre x ih h => ?_)
  obtain ⟨h1, h2, h3, h4⟩ := ih (fun y hy => h y (by simp [hy]))
  have hx := h x (by simp)
  rw [lst_snoc]
  unfold lstep
  split
  · refine ⟨by simp [h1], by simp; omega, ?_, by simp; omega⟩
    simp [cutB, Nat.add_mul]
    omega
  · refine ⟨by simp [h1], by simp [h1], by simp, by simp; omega⟩
theorem pcs_short (d : List UInt8) : ∀ (l : List (Nat × Nat)) (st : Nat), ∀ x ∈ pcs d st l, x.1.length ≤ d.length
  | [], _ => fun _ h => by simp [pcs] at h
  | (e, nx) :: r, st => fun x h => by
    simp only [pcs, List.mem_cons] at h
    rcases h with rfl | h
    · simp; omega
    · exact pcs_short d r nx x h
theorem phys_short (d : List UInt8) : ∀ x ∈ phys d, x.1.length ≤ d.length := by
  intro x hx
  unfold phys tailP at hx
  rw [List.mem_append] at hx
  rcases hx with hx | hx
  · exact pcs_short d _ _ x hx
  · split at hx
    · simp at hx; subst hx; simp
    · simp at hx

end Go.Proofs.YtaoekfokpbebfaaDoor.Sx.Tx
