/-
  Plain lists: line ends, physical lines and logical lines of a list of bytes.
  Plain lists: physical and logical lines byte by byte, and what joining, other line ends and splices do to them.
  Plain lists: the lines of two parts, and of a text with a splice more.
  What Join writes, on lists: lines that may be come back.
-/
namespace Go.Proofs.YtaoekfokpbebfaaDoor.Sx.Tx

/-- Is p a list's beginning? -/
def preB (p l : List UInt8) : Bool := p.isPrefixOf l
theorem preB_iff (p l : List UInt8) : preB p l = true ↔ p <+: l := List.isPrefixOf_iff_prefix
/-- How many bytes the line end has that a list begins with. -/
def ler (l : List UInt8) : Nat := if preB [13, 10] l then 2 else if preB [13] l || preB [10] l then 1 else 0
theorem ler_le (l : List UInt8) : ler l ≤ 2 := by unfold ler; split <;> (try split) <;> omega
theorem ler_len (l : List UInt8) : ler l ≤ l.length := by
  unfold ler
  split
  · rename_i h; have := ((preB_iff _ _).1 h).length_le; simpa using this
  · split
    · rename_i h
      rcases (by simpa [preB_iff] using h : [13] <+: l ∨ [10] <+: l) with h | h <;> (have := h.length_le; simpa using this)
    · omega

/-- Where line ends begin, and where what stands behind each does, from place i on. -/
def endsF : Nat → Nat → List UInt8 → List (Nat × Nat)
  | 0, _, _ => []
  | f + 1, i, r => if r = [] then [] else (if ler r = 0 then [] else [(i, i + ler r)]) ++ endsF f (i + max (ler r) 1) (r.drop (max (ler r) 1))
def endsAt (d : List UInt8) (i : Nat) : List (Nat × Nat) := endsF d.length i (d.drop i)

theorem endsF_more (f i : Nat) (r : List UInt8) : ∀ g, r.length ≤ f → r.length ≤ g → endsF f i r = endsF g i r := by
  induction f generalizing i r with
  | zero => intro g h _; have : r = [] := List.length_eq_zero_iff.1 (by omega); subst this; cases g <;> simp [endsF]
  | succ f ih =>
    intro g hf hg
    cases g with
    | zero => have : r = [] := List.length_eq_zero_iff.1 (by omega); subst this; simp [endsF]
    | succ g =>
      by_cases hr : r = []
      · simp [endsF, hr]
      · simp only [endsF, hr, if_false]
        rw [ih (i + max (ler r) 1) (r.drop (max (ler r) 1)) g (by simp; omega) (by simp; omega)]
theorem endsAt_end (d : List UInt8) {i : Nat} (h : d.length ≤ i) : endsAt d i = [] := by
  unfold endsAt; rw [List.drop_eq_nil_of_le h]; cases d.length <;> simp [endsF]
theorem endsAt_step (d : List UInt8) {i : Nat} (h : i < d.length) :
    endsAt d i = (if ler (d.drop i) = 0 then [] else [(i, i + ler (d.drop i))]) ++ endsAt d (i + max (ler (d.drop i)) 1) := by
  unfold endsAt
  have hne : d.drop i ≠ [] := by intro e; have := congrArg List.length e; simp at this; omega
  obtain ⟨f, hf⟩ : ∃ f, d.length = f + 1 := ⟨d.length - 1, by omega⟩
  conv => lhs; rw [hf]
  simp only [endsF, hne, if_false]
  congr 1
  rw [List.drop_drop]
  exact endsF_more _ _ _ _ (by simp; omega) (by simp)
theorem endsAt_no (d : List UInt8) {i : Nat} (h : i < d.length) (h0 : ler (d.drop i) = 0) : endsAt d i = endsAt d (i + 1) := by
  rw [endsAt_step d h]; simp [h0]
theorem endsAt_yes (d : List UInt8) {i : Nat} (h : i < d.length) (h0 : ler (d.drop i) ≠ 0) : endsAt d i = (i, i + ler (d.drop i)) :: endsAt d (i + ler (d.drop i)) := by
  rw [endsAt_step d h]; simp [h0]; congr 1; omega

/-- The pieces that line ends cut off, and where the last one stops. -/
def pcs (d : List UInt8) : Nat → List (Nat × Nat) → List (List UInt8 × Bool)
  | _, [] => []
  | st, (e, nx) :: r => ((d.drop st).take (e - st), decide (nx < d.length)) :: pcs d nx r
def lastN : Nat → List (Nat × Nat) → Nat
  | st, [] => st
  | _, (_, nx) :: r => lastN nx r
theorem lastN_snoc (st : Nat) (pre : List (Nat × Nat)) (e nx : Nat) : lastN st (pre ++ [(e, nx)]) = nx := by
  induction pre generalizing st with
  | nil => rfl
  | cons x r ih => exact ih _
theorem pcs_snoc (d : List UInt8) (st : Nat) (pre : List (Nat × Nat)) (e nx : Nat) :
    pcs d st (pre ++ [(e, nx)]) = pcs d st pre ++ [((d.drop (lastN st pre)).take (e - lastN st pre), decide (nx < d.length))] := by
  induction pre generalizing st with
  | nil => rfl
  | cons x r ih => simp only [List.cons_append, pcs, lastN, ih]
def tailP (d : List UInt8) (st : Nat) : List (List UInt8 × Bool) := if st < d.length then [(d.drop st, false)] else []
/-- The physical lines, each with whether another one follows. -/
def phys (d : List UInt8) : List (List UInt8 × Bool) := pcs d 0 (endsAt d 0) ++ tailP d (lastN 0 (endsAt d 0))

/-- Ends rise: what comes next lies behind what came. -/
def Rises (d : List UInt8) : Nat → List (Nat × Nat) → Prop
  | _, [] => True
  | st, (e, nx) :: r => st ≤ e ∧ e < nx ∧ nx ≤ d.length ∧ Rises d nx r
theorem rises_mono (d : List UInt8) {st st' : Nat} (h : st' ≤ st) : ∀ l, Rises d st l → Rises d st' l
  | [], _ => trivial
  | (_, _) :: _, hr => ⟨by have := hr.1; omega, hr.2⟩
theorem endsAt_rises (d : List UInt8) : ∀ (m i : Nat), d.length - i ≤ m → Rises d i (endsAt d i) := by
  intro m
  induction m with
  | zero => intro i h; rw [endsAt_end d (by omega)]; trivial
  | succ m ih =>
    intro i h
    by_cases hi : i < d.length
    · by_cases h0 : ler (d.drop i) = 0
      · rw [endsAt_no d hi h0]; exact rises_mono d (by omega) _ (ih (i + 1) (by omega))
      · rw [endsAt_yes d hi h0]
        have := ler_len (d.drop i)
        simp at this
        exact ⟨Nat.le_refl _, by omega, by omega, ih _ (by omega)⟩
    · rw [endsAt_end d (by omega)]; trivial
theorem rises_at (d : List UInt8) : ∀ (pre : List (Nat × Nat)) (st : Nat) (e nx : Nat) (r : List (Nat × Nat)), Rises d st (pre ++ (e, nx) :: r) → lastN st pre ≤ e ∧ e < nx ∧ nx ≤ d.length
  | [], _, _, _, _, h => ⟨h.1, h.2.1, h.2.2.1⟩
  | (_, _) :: pre, _, e, nx, r, h => rises_at d pre _ e nx r h.2.2.2
theorem ends_next {d : List UInt8} {pre : List (Nat × Nat)} {e nx : Nat} (h : pre ++ [(e, nx)] <+: endsAt d 0) : lastN 0 pre ≤ e ∧ e < nx ∧ nx ≤ d.length := by
  obtain ⟨r, hr⟩ := h
  have := endsAt_rises d d.length 0 (by omega)
  rw [← hr, List.append_assoc] at this
  exact rises_at d pre 0 e nx r this
theorem rises_last (d : List UInt8) : ∀ (l : List (Nat × Nat)) (st : Nat), st ≤ d.length → Rises d st l → lastN st l ≤ d.length
  | [], _, h, _ => h
  | (_, nx) :: r, _, _, h => rises_last d r nx h.2.2.1 h.2.2.2
theorem ends_last (d : List UInt8) : lastN 0 (endsAt d 0) ≤ d.length := rises_last d _ 0 (by omega) (endsAt_rises d d.length 0 (by omega))
theorem pcs_prefix (d : List UInt8) {pre : List (Nat × Nat)} {e nx : Nat} (h : pre ++ [(e, nx)] <+: endsAt d 0) :
    pcs d 0 pre ++ [((d.drop (lastN 0 pre)).take (e - lastN 0 pre), decide (nx < d.length))] <+: phys d := by
  obtain ⟨r, hr⟩ := h
  unfold phys
  rw [← hr, ← pcs_snoc]
  have : ∀ (st : Nat) (a b : List (Nat × Nat)), pcs d st a <+: pcs d st (a ++ b) := by
    intro st a
    induction a generalizing st with
    | nil => intro b; exact List.nil_prefix
    | cons x a ih => intro b; obtain ⟨t, ht⟩ := ih x.2 b; exact ⟨t, by simp only [List.cons_append, pcs, ht]⟩
  exact (this 0 _ r).trans (List.prefix_append _ _)
theorem phys_tail (d : List UInt8) (h : lastN 0 (endsAt d 0) < d.length) : phys d = pcs d 0 (endsAt d 0) ++ [(d.drop (lastN 0 (endsAt d 0)), false)] := by
  unfold phys tailP; rw [if_pos h]
theorem phys_no (d : List UInt8) (h : ¬ lastN 0 (endsAt d 0) < d.length) : phys d = pcs d 0 (endsAt d 0) := by
  unfold phys tailP; rw [if_neg h]; simp

theorem pcs_length (d : List UInt8) : ∀ (l : List (Nat × Nat)) (st : Nat), (pcs d st l).length = l.length
  | [], _ => rfl
  | (_, nx) :: r, _ => by simp [pcs, pcs_length d r nx]
theorem rises_length (d : List UInt8) : ∀ (l : List (Nat × Nat)) (st : Nat), Rises d st l → st + l.length ≤ lastN st l
  | [], _, _ => by simp [lastN]
  | (_, nx) :: r, st, h => by have := rises_length d r nx h.2.2.2; simp [lastN]; have := h.1; have := h.2.1; omega
theorem phys_length (d : List UInt8) : (phys d).length ≤ d.length := by
  have h1 := rises_length d _ 0 (endsAt_rises d d.length 0 (by omega))
  have h2 := ends_last d
  unfold phys tailP
  rw [List.length_append, pcs_length]
  split <;> simp <;> omega

/-- The physical lines from a place on: the line began at st, and place i is looked at. -/
def physFrom (d : List UInt8) (st i : Nat) : List (List UInt8) := (pcs d st (endsAt d i) ++ tailP d (lastN st (endsAt d i))).map Prod.fst
theorem physFrom_zero (d : List UInt8) : physFrom d 0 0 = (phys d).map Prod.fst := rfl
theorem physFrom_end (d : List UInt8) {st i : Nat} (h : d.length ≤ i) : physFrom d st i = if st < d.length then [d.drop st] else [] := by
  unfold physFrom; rw [endsAt_end d h]; by_cases hs : st < d.length <;> simp [pcs, lastN, tailP, hs]
theorem physFrom_no (d : List UInt8) {st i : Nat} (h : i < d.length) (h0 : ler (d.drop i) = 0) : physFrom d st i = physFrom d st (i + 1) := by
  unfold physFrom; rw [endsAt_no d h h0]
theorem physFrom_yes (d : List UInt8) {st i : Nat} (h : i < d.length) (h0 : ler (d.drop i) ≠ 0) :
    physFrom d st i = (d.drop st).take (i - st) :: physFrom d (i + ler (d.drop i)) (i + ler (d.drop i)) := by
  unfold physFrom; rw [endsAt_yes d h h0]; rfl
theorem ler_cons (c : UInt8) (r : List UInt8) : ler (c :: r) = if c = 13 then (if r.head? = some 10 then 2 else 1) else if c = 10 then 1 else 0 := by
  unfold ler preB
  by_cases h1 : c = 13
  · subst h1
    cases r with
    | nil => simp
    | cons x r =>
      by_cases hx : x = 10
      · simp [hx, List.isPrefixOf]
      · have hx' : ¬ (10 : UInt8) = x := fun e => hx e.symm
        simp [hx, hx', List.isPrefixOf]
  · have h1' : ¬ (13 : UInt8) = c := fun e => h1 e.symm
    by_cases h2 : c = 10
    · subst h2; simp [List.isPrefixOf]
    · have h2' : ¬ (10 : UInt8) = c := fun e => h2 e.symm
      simp [h1, h1', h2, h2', List.isPrefixOf]
theorem cur_snoc (d : List UInt8) {st i : Nat} (h : i < d.length) (hs : st ≤ i) : (d.drop st).take (i + 1 - st) = (d.drop st).take (i - st) ++ [d[i]] := by
  rw [show i + 1 - st = (i - st) + 1 by omega, List.take_succ_eq_append_getElem (by simp; omega)]
  congr 2
  rw [List.getElem_drop]
  congr 1
  omega

/-- Does a piece end in a backslash? What it is without. -/
def bsB (x : List UInt8) : Bool := [92].isSuffixOf x
def cutB (x : List UInt8) : List UInt8 := x.take (x.length - 1)
/-- What Lines keeps, piece by piece: the number of the last physical line, of the open line's first one, the open line, the lines that were closed. -/
abbrev LS := Nat × Nat × List UInt8 × List (Nat × List UInt8)
def lstep (S : LS) (x : List UInt8 × Bool) : LS :=
  if bsB x.1 && x.2 then (S.1 + 1, S.2.1, S.2.2.1 ++ cutB x.1, S.2.2.2) else (S.1 + 1, S.1 + 1 + 1, [], S.2.2.2 ++ [(S.2.1, S.2.2.1 ++ x.1)])
def lst (pre : List (List UInt8 × Bool)) : LS := pre.foldl lstep (0, 1, [], [])
def lines (d : List UInt8) : List (Nat × List UInt8) := (lst (phys d)).2.2.2
theorem lst_snoc (pre : List (List UInt8 × Bool)) (x : List UInt8 × Bool) : lst (pre ++ [x]) = lstep (lst pre) x := by unfold lst; rw [List.foldl_append]; rfl
theorem snoc_induct {α : Type} {p : List α → Prop} (h0 : p []) (h1 : ∀ l x, p l → p (l ++ [x])) : ∀ l, p l := by
  intro l
  have h : ∀ (r l : List α), p l → p (l ++ r) := by
    intro r
    induction r with
    | nil => intro l hl; simpa using hl
    | cons x r ih => intro l hl; have := ih (l ++ [x]) (h1 l x hl); simpa using this
  simpa using h l [] h0
theorem lst_bounds (M : Nat) : ∀ pre : List (List UInt8 × Bool), (∀ x ∈ pre, x.1.length ≤ M) →
    (lst pre).1 = pre.length ∧ (lst pre).2.1 ≤ pre.length + 1 ∧ (lst pre).2.2.1.length ≤ pre.length * M ∧ (lst pre).2.2.2.length ≤ pre.length := by
  refine snoc_induct (fun _ => by simp [lst]) (fun pre x ih h => ?_)
  obtain ⟨h1, h2, h3, h4⟩ := ih (fun y hy => h y (by simp [hy]))
  have hx := h x (by simp)
  rw [lst_snoc]
  unfold lstep
  split
  · refine ⟨by simp [h1], by simp; omega, ?_, by simp; omega⟩
    simp [cutB, Nat.add_mul]
    omega
  · refine ⟨by simp [h1], by simp [h1], by simp, by simp; omega⟩
theorem pcs_short (d : List UInt8) : ∀ (l : List (Nat × Nat)) (st : Nat), ∀ x ∈ pcs d st l, x.1.length ≤ d.length
  | [], _ => fun _ h => by simp [pcs] at h
  | (e, nx) :: r, st => fun x h => by
    simp only [pcs, List.mem_cons] at h
    rcases h with rfl | h
    · simp; omega
    · exact pcs_short d r nx x h
theorem phys_short (d : List UInt8) : ∀ x ∈ phys d, x.1.length ≤ d.length := by
  intro x hx
  unfold phys tailP at hx
  rw [List.mem_append] at hx
  rcases hx with hx | hx
  · exact pcs_short d _ _ x hx
  · split at hx
    · simp at hx; subst hx; simp
    · simp at hx

end Go.Proofs.YtaoekfokpbebfaaDoor.Sx.Tx
namespace Go.Proofs.YtaoekfokpbebfaaDoor.Sx.Tx

/-- Physical lines, byte by byte: cur is what the open line has. -/
def plF : Nat → List UInt8 → List UInt8 → List (List UInt8)
  | 0, cur, _ => if cur = [] then [] else [cur]
  | f + 1, cur, r => if r = [] then (if cur = [] then [] else [cur]) else if ler r = 0 then plF f (cur ++ r.take 1) (r.drop 1) else cur :: plF f [] (r.drop (ler r))
def pl (cur r : List UInt8) : List (List UInt8) := plF r.length cur r

theorem plF_more : ∀ (f g : Nat) (cur r : List UInt8), r.length ≤ f → r.length ≤ g → plF f cur r = plF g cur r := by
  intro f
  induction f with
  | zero =>
    intro g cur r hf hg
    have : r = [] := List.length_eq_zero_iff.1 (by omega)
    subst this
    cases g <;> simp [plF]
  | succ f ih =>
    intro g cur r hf hg
    cases g with
    | zero =>
      have : r = [] := List.length_eq_zero_iff.1 (by omega)
      subst this
      simp [plF]
    | succ g =>
      unfold plF
      split
      · rfl
      · rename_i hr
        have hpos : 0 < r.length := List.length_pos_iff.2 hr
        split
        · exact ih g _ _ (by simp; omega) (by simp; omega)
        · rw [ih g _ _ (by simp; omega) (by simp; omega)]
theorem pl_nil (cur : List UInt8) : pl cur [] = if cur = [] then [] else [cur] := rfl
theorem pl_no {cur r : List UInt8} {c : UInt8} (h : ler (c :: r) = 0) : pl cur (c :: r) = pl (cur ++ [c]) r := by
  unfold pl
  rw [List.length_cons]
  conv => lhs; unfold plF
  simp [h]
theorem pl_yes {cur r : List UInt8} (h : ler r ≠ 0) : pl cur r = cur :: pl [] (r.drop (ler r)) := by
  unfold pl
  cases r with
  | nil => exact absurd (by decide) h
  | cons c r =>
    rw [List.length_cons]
    conv => lhs; unfold plF
    simp only [h, if_false, reduceCtorEq]
    rw [plF_more _ ((c :: r).drop (ler (c :: r))).length _ _ (by simp; omega) (Nat.le_refl _)]
theorem pl_char {cur r : List UInt8} {c : UInt8} (h13 : c ≠ 13) (h10 : c ≠ 10) : pl cur (c :: r) = pl (cur ++ [c]) r := pl_no (by rw [ler_cons]; simp [h13, h10])
theorem pl_lf (cur r : List UInt8) : pl cur (10 :: r) = cur :: pl [] r := by
  have h : ler (10 :: r) = 1 := by rw [ler_cons]; simp
  rw [pl_yes (by rw [h]; decide), h]; rfl
theorem pl_crlf (cur r : List UInt8) : pl cur (13 :: 10 :: r) = cur :: pl [] r := by
  have h : ler (13 :: 10 :: r) = 2 := by rw [ler_cons]; simp
  rw [pl_yes (by rw [h]; decide), h]; rfl
theorem pl_cr {cur r : List UInt8} (hr : r.head? ≠ some 10) : pl cur (13 :: r) = cur :: pl [] r := by
  have h : ler (13 :: r) = 1 := by rw [ler_cons]; simp [hr]
  rw [pl_yes (by rw [h]; decide), h]; rfl
theorem pl_eq_nil {cur r : List UInt8} : pl cur r = [] ↔ cur = [] ∧ r = [] := by
  have key : ∀ (n : Nat) (cur r : List UInt8), r.length ≤ n → (pl cur r = [] ↔ cur = [] ∧ r = []) := by
    intro n
    induction n with
    | zero =>
      intro cur r h
      have : r = [] := List.length_eq_zero_iff.1 (by omega)
      subst this
      rw [pl_nil]; split <;> simp_all
    | succ n ih =>
      intro cur r h
      cases r with
      | nil => rw [pl_nil]; split <;> simp_all
      | cons c r =>
        by_cases h0 : ler (c :: r) = 0
        · rw [pl_no h0, ih _ _ (by simpa using h)]; simp
        · rw [pl_yes h0]; simp
  exact key _ cur r (Nat.le_refl _)

/-- The walk by places is the walk byte by byte. -/
theorem physFrom_pl (d : List UInt8) : ∀ (m st i : Nat), d.length - i ≤ m → st ≤ i → physFrom d st i = pl ((d.drop st).take (i - st)) (d.drop i) := by
  intro m
  induction m with
  | zero =>
    intro st i h hs
    rw [physFrom_end d (by omega), List.drop_eq_nil_of_le (show d.length ≤ i by omega), pl_nil, List.take_of_length_le (by simp; omega)]
    by_cases hd : st < d.length
    · rw [if_pos hd, if_neg (by simp; omega)]
    · rw [if_neg hd, if_pos (by simp; omega)]
  | succ m ih =>
    intro st i h hs
    by_cases hi : i < d.length
    · by_cases h0 : ler (d.drop i) = 0
      · rw [physFrom_no d hi h0, ih st (i + 1) (by omega) (by omega)]
        have hd : d.drop i = d[i] :: d.drop (i + 1) := List.drop_eq_getElem_cons hi
        rw [cur_snoc d hi hs]
        conv => rhs; rw [hd]
        rw [hd] at h0
        rw [pl_no h0]
      · rw [physFrom_yes d hi h0, ih _ _ (by omega) (Nat.le_refl _), pl_yes h0]
        simp [List.drop_drop]
    · rw [physFrom_end d (by omega), List.drop_eq_nil_of_le (show d.length ≤ i by omega), pl_nil, List.take_of_length_le (by simp; omega)]
      by_cases hd : st < d.length
      · rw [if_pos hd, if_neg (by simp; omega)]
      · rw [if_neg hd, if_pos (by simp; omega)]
theorem phys_fst (d : List UInt8) : (phys d).map Prod.fst = pl [] d := by
  rw [← physFrom_zero, physFrom_pl d d.length 0 0 (by omega) (by omega)]; simp
theorem phys_len (d : List UInt8) : (phys d).length = (pl [] d).length := by rw [← phys_fst]; simp

/-- Each with whether another one follows. -/
def wf : List (List UInt8) → List (List UInt8 × Bool)
  | [] => []
  | x :: r => (x, decide (r ≠ [])) :: wf r
def physP (d : List UInt8) (st i : Nat) : List (List UInt8 × Bool) := pcs d st (endsAt d i) ++ tailP d (lastN st (endsAt d i))
theorem physP_wf (d : List UInt8) : ∀ (m st i : Nat), d.length - i ≤ m → physP d st i = wf (physFrom d st i) := by
  intro m
  induction m with
  | zero =>
    intro st i h
    rw [physFrom_end d (by omega)]
    unfold physP
    rw [endsAt_end d (by omega)]
    by_cases hd : st < d.length <;> simp [pcs, lastN, tailP, wf, hd]
  | succ m ih =>
    intro st i h
    by_cases hi : i < d.length
    · by_cases h0 : ler (d.drop i) = 0
      · rw [physFrom_no d hi h0, ← ih st (i + 1) (by omega)]
        unfold physP
        rw [endsAt_no d hi h0]
      · rw [physFrom_yes d hi h0]
        simp only [wf]
        rw [← ih _ _ (by omega)]
        unfold physP
        rw [endsAt_yes d hi h0]
        simp only [pcs, lastN, List.cons_append]
        congr 2
        rw [decide_eq_decide]
        rw [physFrom_pl d d.length _ _ (by omega) (Nat.le_refl _)]
        simp only [Nat.sub_self, List.take_zero]
        rw [ne_eq, pl_eq_nil]
        simp
    · rw [physFrom_end d (by omega)]
      unfold physP
      rw [endsAt_end d (by omega)]
      by_cases hd : st < d.length <;> simp [pcs, lastN, tailP, wf, hd]
theorem phys_wf (d : List UInt8) : phys d = wf (pl [] d) := by
  have := physP_wf d d.length 0 0 (by omega)
  rw [physFrom_zero, phys_fst] at this
  exact this

/-- Logical lines out of physical ones: the number of the last one, that of the open line's first one, the open line. -/
def lg : Nat → Nat → List UInt8 → List (List UInt8) → List (Nat × List UInt8)
  | _, _, _, [] => []
  | n, f, w, x :: r => if bsB x && decide (r ≠ []) then lg (n + 1) f (w ++ cutB x) r else (f, w ++ x) :: lg (n + 1) (n + 1 + 1) [] r
theorem lst_lg : ∀ (L : List (List UInt8)) (n f : Nat) (w : List UInt8) (out : List (Nat × List UInt8)), ((wf L).foldl lstep (n, f, w, out)).2.2.2 = out ++ lg n f w L
  | [], _, _, _, out => by simp [wf, lg]
  | x :: r, n, f, w, out => by
    simp only [wf, List.foldl_cons, lstep, lg]
    split
    · rw [lst_lg r]
    · rw [lst_lg r]; simp
theorem lines_lg (d : List UInt8) : lines d = lg 0 1 [] (pl [] d) := by
  unfold lines lst
  rw [phys_wf, lst_lg]; rfl

/-! Other line ends. -/
def conv (k : Nat) : List UInt8 → List UInt8
  | [] => []
  | c :: r => (if c = 10 then (if k = 1 then [13, 10] else [13]) else [c]) ++ conv k r
theorem conv_head (d : List UInt8) (h : ∀ c ∈ d, c ≠ 13) : (conv 0 d).head? ≠ some 10 := by
  cases d with
  | nil => simp [conv]
  | cons c r =>
    by_cases hc : c = 10
    · simp [conv, hc]
    · simp [conv, hc]
theorem pl_conv (k : Nat) (hk : k = 0 ∨ k = 1) : ∀ (d cur : List UInt8), (∀ c ∈ d, c ≠ 13) → pl cur (conv k d) = pl cur d
  | [], _, _ => rfl
  | c :: r, cur, h => by
    have hr : ∀ c ∈ r, c ≠ 13 := fun x hx => h x (by simp [hx])
    have h13 : c ≠ 13 := h c (by simp)
    by_cases hc : c = 10
    · subst hc
      rw [pl_lf]
      rcases hk with rfl | rfl
      · have e : conv 0 (10 :: r) = 13 :: conv 0 r := by simp [conv]
        rw [e, pl_cr (conv_head r hr), pl_conv 0 (.inl rfl) r [] hr]
      · have e : conv 1 (10 :: r) = 13 :: 10 :: conv 1 r := by simp [conv]
        rw [e, pl_crlf, pl_conv 1 (.inr rfl) r [] hr]
    · have e : conv k (c :: r) = c :: conv k r := by simp [conv, hc]
      rw [e, pl_char h13 hc, pl_char h13 hc, pl_conv k hk r _ hr]
theorem lines_conv (k : Nat) (hk : k = 0 ∨ k = 1) (d : List UInt8) (h : ∀ c ∈ d, c ≠ 13) : lines (conv k d) = lines d := by
  rw [lines_lg, lines_lg, pl_conv k hk d [] h]
theorem conv_snoc (k : Nat) (d : List UInt8) (c : UInt8) : conv k (d ++ [c]) = conv k d ++ (if c = 10 then (if k = 1 then [13, 10] else [13]) else [c]) := by
  induction d with
  | nil => simp [conv]
  | cons x d ih => simp [conv, ih]
theorem conv_length (k : Nat) (d : List UInt8) : (conv k d).length ≤ 2 * d.length := by
  induction d with
  | nil => simp [conv]
  | cons c d ih =>
    simp only [conv, List.length_append, List.length_cons]
    split
    · split <;> simp <;> omega
    · simp; omega
end Go.Proofs.YtaoekfokpbebfaaDoor.Sx.Tx
namespace Go.Proofs.YtaoekfokpbebfaaDoor.Sx.Tx

theorem pl_app : ∀ (n : Nat) (a cur b : List UInt8), a.length ≤ n → pl cur (a ++ 10 :: b) = pl cur (a ++ [10]) ++ pl [] b := by
  intro n
  induction n with
  | zero =>
    intro a cur b h
    have : a = [] := List.length_eq_zero_iff.1 (by omega)
    subst this
    simp [pl_lf, pl_nil]
  | succ n ih =>
    intro a cur b h
    cases a with
    | nil => simp [pl_lf, pl_nil]
    | cons c r =>
      have hr : r.length ≤ n := by simpa using h
      by_cases h13 : c = 13
      · subst h13
        cases r with
        | nil =>
          simp only [List.cons_append, List.nil_append]
          rw [pl_crlf, pl_crlf, pl_nil]; rfl
        | cons x r =>
          by_cases hx : x = 10
          · subst hx
            simp only [List.cons_append]
            rw [pl_crlf, pl_crlf, ih r [] b (by simp at hr; omega)]; rfl
          · simp only [List.cons_append]
            rw [pl_cr (by simp [hx]), pl_cr (by simp [hx]), ← List.cons_append, ← List.cons_append, ih (x :: r) [] b hr]; rfl
      · by_cases h10 : c = 10
        · subst h10
          simp only [List.cons_append]
          rw [pl_lf, pl_lf, ih r [] b hr]; rfl
        · simp only [List.cons_append]
          rw [pl_char h13 h10, pl_char h13 h10, ih r _ b hr]

/-- What stands ahead of a place is the same whatever comes behind it. -/
theorem pl_split : ∀ (n : Nat) (A cur : List UInt8), A.length ≤ n → A.getLast? ≠ some 13 → ∃ M c, (∀ B, pl cur (A ++ B) = M ++ pl c B) ∧ c <:+ cur ++ A := by
  intro n
  induction n with
  | zero =>
    intro A cur h _
    have : A = [] := List.length_eq_zero_iff.1 (by omega)
    subst this
    exact ⟨[], cur, fun B => rfl, by simp⟩
  | succ n ih =>
    intro A cur h hl
    cases A with
    | nil => exact ⟨[], cur, fun B => rfl, by simp⟩
    | cons c r =>
      have hr : r.length ≤ n := by simpa using h
      have hlr : r.getLast? ≠ some 13 := by
        cases r with
        | nil => simp
        | cons x r => simpa using hl
      by_cases h13 : c = 13
      · subst h13
        cases r with
        | nil => simp at hl
        | cons x r =>
          by_cases hx : x = 10
          · subst hx
            have hlr2 : r.getLast? ≠ some 13 := by
              cases r with
              | nil => simp
              | cons y r => simpa using hlr
            obtain ⟨M, c', hM, hc⟩ := ih r [] (by simp at hr; omega) hlr2
            refine ⟨cur :: M, c', fun B => ?_, ?_⟩
            · simp only [List.cons_append]; rw [pl_crlf, hM]
            · exact List.IsSuffix.trans (by simpa using hc) ⟨cur ++ [13, 10], by simp⟩
          · obtain ⟨M, c', hM, hc⟩ := ih (x :: r) [] hr hlr
            refine ⟨cur :: M, c', fun B => ?_, ?_⟩
            · have := hM B
              simp only [List.cons_append] at this ⊢
              rw [pl_cr (by simp [hx]), this]
            · exact List.IsSuffix.trans (by simpa using hc) ⟨cur ++ [13], by simp⟩
      · by_cases h10 : c = 10
        · subst h10
          obtain ⟨M, c', hM, hc⟩ := ih r [] hr hlr
          refine ⟨cur :: M, c', fun B => ?_, ?_⟩
          · simp only [List.cons_append]; rw [pl_lf, hM]
          · exact List.IsSuffix.trans (by simpa using hc) ⟨cur ++ [10], by simp⟩
        · obtain ⟨M, c', hM, hc⟩ := ih r (cur ++ [c]) hr hlr
          refine ⟨M, c', fun B => ?_, ?_⟩
          · simp only [List.cons_append]; rw [pl_char h13 h10, hM]
          · simpa using hc

/-- What the open line has goes ahead of the first line. -/
theorem pl_cur : ∀ (n : Nat) (B : List UInt8), B.length ≤ n → B ≠ [] → ∃ x R, (∀ c, pl c B = (c ++ x) :: R) ∧ (x = [] → ler B ≠ 0) := by
  intro n
  induction n with
  | zero => intro B h hB; exact absurd (List.length_eq_zero_iff.1 (by omega)) hB
  | succ n ih =>
    intro B h hB
    cases B with
    | nil => exact absurd rfl hB
    | cons b r =>
      by_cases h0 : ler (b :: r) = 0
      · cases r with
        | nil => exact ⟨[b], [], fun c => by rw [pl_no h0, pl_nil]; simp, by simp⟩
        | cons y r =>
          obtain ⟨x, R, hx, _⟩ := ih (y :: r) (by simpa using h) (by simp)
          exact ⟨b :: x, R, fun c => by rw [pl_no h0, hx]; simp, by simp⟩
      · exact ⟨[], pl [] ((b :: r).drop (ler (b :: r))), fun c => by rw [pl_yes h0]; simp, fun _ => h0⟩

theorem bsB_iff (x : List UInt8) : bsB x = true ↔ [92] <:+ x := by unfold bsB; exact List.isSuffixOf_iff_suffix
theorem bsB_last (x : List UInt8) : bsB x = true ↔ x.getLast? = some 92 := by
  rw [bsB_iff]
  constructor
  · rintro ⟨t, rfl⟩; simp
  · intro h
    obtain ⟨l, rfl⟩ := List.getLast?_eq_some_iff.1 h
    exact ⟨l, rfl⟩
theorem bsB_snoc (x : List UInt8) : bsB (x ++ [92]) = true := (bsB_last _).2 (by simp)
theorem cutB_snoc (x : List UInt8) (c : UInt8) : cutB (x ++ [c]) = x := by simp [cutB]
theorem bsB_app (c x : List UInt8) (hx : x ≠ []) : bsB (c ++ x) = bsB x := by
  rw [Bool.eq_iff_iff, bsB_last, bsB_last, List.getLast?_append]
  cases h : x.getLast? with
  | none => exact absurd (List.getLast?_eq_none_iff.1 h) hx
  | some z => simp
theorem cutB_app (c x : List UInt8) (hx : x ≠ []) : cutB (c ++ x) = c ++ cutB x := by
  have : 0 < x.length := List.length_pos_iff.2 hx
  unfold cutB
  rw [List.length_append, Nat.add_sub_assoc (by omega), List.take_append, List.take_of_length_le (by omega)]
  simp
theorem suf_last {c l : List UInt8} (h : c <:+ l) (hc : bsB c = true) : l.getLast? = some 92 := by
  rw [bsB_iff] at hc
  exact (bsB_last l).1 ((bsB_iff l).2 (hc.trans h))

/-! Two parts. -/
theorem lg_app : ∀ (M : List (List UInt8)) (x : List UInt8) (n f : Nat) (w : List UInt8) (L : List (List UInt8)), bsB x = false →
    lg n f w (M ++ x :: L) = lg n f w (M ++ [x]) ++ lg (n + M.length + 1) (n + M.length + 1 + 1) [] L
  | [], x, n, f, w, L, h => by simp [lg, h]
  | y :: M, x, n, f, w, L, h => by
    simp only [List.cons_append, lg]
    have e1 : decide (M ++ x :: L ≠ []) = true := by simp
    have e2 : decide (M ++ [x] ≠ []) = true := by simp
    rw [e1, e2]
    split
    · rw [lg_app M x (n + 1) f _ L h]; congr 2 <;> (simp only [List.length_cons]; omega)
    · rw [lg_app M x (n + 1) (n + 1 + 1) _ L h]; simp only [List.cons_append, List.length_cons]; congr 3 <;> omega
def shift (m : Nat) (l : List (Nat × List UInt8)) : List (Nat × List UInt8) := l.map fun p => (p.1 + m, p.2)
theorem lg_shift (m : Nat) : ∀ (L : List (List UInt8)) (n f : Nat) (w : List UInt8), lg (n + m) (f + m) w L = shift m (lg n f w L)
  | [], _, _, _ => rfl
  | x :: L, n, f, w => by
    simp only [lg]
    split
    · rw [show n + m + 1 = n + 1 + m by omega, lg_shift m L]
    · simp only [shift, List.map_cons]
      rw [show n + m + 1 = n + 1 + m by omega, show n + 1 + m + 1 = n + 1 + 1 + m by omega, lg_shift m L]; rfl
theorem lines_parts (a b : List UInt8) (h13 : a.getLast? ≠ some 13) (h92 : a.getLast? ≠ some 92) :
    lines ((a ++ [10]) ++ b) = lines (a ++ [10]) ++ shift (pl [] (a ++ [10])).length (lines b) := by
  obtain ⟨M, c, hM, hc⟩ := pl_split a.length a [] (Nat.le_refl _) h13
  have hL : pl [] (a ++ [10]) = M ++ [c] := by rw [hM [10], pl_lf, pl_nil]; rfl
  have hx : bsB c = false := by
    rw [Bool.eq_false_iff]; intro h
    exact h92 (by simpa using suf_last hc h)
  have e : (a ++ [10]) ++ b = a ++ 10 :: b := by simp
  rw [lines_lg, lines_lg, lines_lg, e, pl_app a.length a [] b (Nat.le_refl _), hL, List.append_assoc, List.singleton_append, lg_app M c 0 1 [] _ hx]
  congr 1
  rw [← lg_shift]
  congr 1 <;> (simp; try omega)
theorem pl_parts (a b : List UInt8) : (pl [] ((a ++ [10]) ++ b)).length = (pl [] (a ++ [10])).length + (pl [] b).length := by
  have e : (a ++ [10]) ++ b = a ++ 10 :: b := by simp
  rw [e, pl_app a.length a [] b (Nat.le_refl _)]; simp

theorem lg_num : ∀ (L : List (List UInt8)) (n f : Nat) (w : List UInt8), f ≤ n + 1 → ∀ p ∈ lg n f w L, p.1 ≤ n + L.length
  | [], _, _, _, _, p, hp => by simp [lg] at hp
  | x :: L, n, f, w, h, p, hp => by
    simp only [lg] at hp
    split at hp
    · have := lg_num L (n + 1) f _ (by omega) p hp; simp only [List.length_cons]; omega
    · rcases List.mem_cons.1 hp with rfl | hp
      · simp only [List.length_cons]; omega
      · have := lg_num L (n + 1) (n + 1 + 1) _ (by omega) p hp; simp only [List.length_cons]; omega
theorem lines_num (d : List UInt8) : ∀ p ∈ lines d, p.1 ≤ d.length := by
  intro p hp
  rw [lines_lg] at hp
  have h1 := lg_num _ 0 1 [] (by omega) p hp
  have h2 := phys_length d
  rw [phys_len] at h2
  omega

/-! A splice more. -/
def Rel : List (Nat × List UInt8) → List (Nat × List UInt8) → Prop
  | [], [] => True
  | x :: l, y :: r => x.2 = y.2 ∧ (y.1 = x.1 ∨ y.1 = x.1 + 1) ∧ Rel l r
  | _, _ => False
theorem Rel.refl : ∀ l, Rel l l
  | [] => trivial
  | _ :: l => ⟨rfl, .inl rfl, Rel.refl l⟩
theorem Rel.length : ∀ {l r}, Rel l r → l.length = r.length
  | [], [], _ => rfl
  | _ :: _, _ :: _, h => by simp [Rel.length h.2.2]
  | [], _ :: _, h => h.elim
  | _ :: _, [], h => h.elim
theorem Rel.get : ∀ {l r}, Rel l r → ∀ (i : Nat) (h1 : i < l.length) (h2 : i < r.length), l[i].2 = r[i].2 ∧ (r[i].1 = l[i].1 ∨ r[i].1 = l[i].1 + 1)
  | [], [], _, i, h1, _ => by simp at h1
  | _ :: _, _ :: _, h, 0, _, _ => ⟨h.1, h.2.1⟩
  | _ :: _, _ :: _, h, i + 1, h1, h2 => by simpa using Rel.get h.2.2 i (by simpa using h1) (by simpa using h2)
  | [], _ :: _, h, _, _, _ => h.elim
  | _ :: _, [], h, _, _, _ => h.elim
theorem lg_rel : ∀ (L : List (List UInt8)) (n f f' : Nat) (w : List UInt8), (f' = f ∨ f' = f + 1) → Rel (lg n f w L) (lg (n + 1) f' w L)
  | [], _, _, _, _, _ => trivial
  | x :: L, n, f, f', w, h => by
    simp only [lg]
    split
    · exact lg_rel L _ _ _ _ h
    · exact ⟨rfl, h, lg_rel L _ _ _ _ (.inr rfl)⟩
theorem lg_splice (c x : List UInt8) (hx : x = [] → bsB c = false) : ∀ (M R : List (List UInt8)) (n f : Nat) (w : List UInt8), Rel (lg n f w (M ++ (c ++ x) :: R)) (lg n f w (M ++ (c ++ [92]) :: x :: R))
  | [], R, n, f, w => by
    simp only [List.nil_append]
    have e : lg n f w ((c ++ [92]) :: x :: R) = lg (n + 1) f (w ++ c) (x :: R) := by
      conv => lhs; unfold lg
      rw [bsB_snoc, cutB_snoc]; simp
    rw [e]
    simp only [lg]
    by_cases h0 : x = []
    · subst h0
      have h1 := hx rfl
      have h2 : bsB [] = false := by decide
      simp only [List.append_nil, h1, h2, Bool.false_and, Bool.false_eq_true, if_false]
      exact ⟨by simp, .inl rfl, lg_rel _ _ _ _ _ (.inr rfl)⟩
    · rw [bsB_app c x h0, cutB_app c x h0]
      split
      · rw [← List.append_assoc]; exact lg_rel _ _ _ _ _ (.inl rfl)
      · exact ⟨by simp, .inl rfl, lg_rel _ _ _ _ _ (.inr rfl)⟩
  | y :: M, R, n, f, w => by
    simp only [List.cons_append, lg]
    have e1 : decide (M ++ (c ++ x) :: R ≠ []) = true := by simp
    have e2 : decide (M ++ (c ++ [92]) :: x :: R ≠ []) = true := by simp
    rw [e1, e2]
    split
    · exact lg_splice c x hx M R _ _ _
    · exact ⟨rfl, .inl rfl, lg_splice c x hx M R _ _ _⟩
theorem lines_splice (A B : List UInt8) (hB : B ≠ []) (h13 : A.getLast? ≠ some 13) (h92 : A.getLast? = some 92 → ler B = 0) :
    Rel (lines (A ++ B)) (lines (A ++ [92, 10] ++ B)) := by
  obtain ⟨M, c, hM, hc⟩ := pl_split A.length A [] (Nat.le_refl _) h13
  obtain ⟨x, R, hx, h0⟩ := pl_cur B.length B (Nat.le_refl _) hB
  have e1 : pl [] (A ++ B) = M ++ (c ++ x) :: R := by rw [hM, hx]
  have e2 : pl [] (A ++ [92, 10] ++ B) = M ++ (c ++ [92]) :: x :: R := by
    rw [List.append_assoc, hM]
    simp only [List.cons_append, List.nil_append]
    rw [pl_char (by decide) (by decide), pl_lf, hx]; rfl
  rw [lines_lg, lines_lg, e1, e2]
  refine lg_splice c x (fun hx0 => ?_) M R 0 1 []
  rw [Bool.eq_false_iff]; intro hb
  exact h0 hx0 (h92 (by simpa using suf_last hc hb))
end Go.Proofs.YtaoekfokpbebfaaDoor.Sx.Tx
namespace Go.Proofs.YtaoekfokpbebfaaDoor.Sx.Tx

def sp : Nat → List UInt8
  | 0 => []
  | g + 1 => 92 :: 10 :: sp g
theorem sp_length : ∀ g, (sp g).length = 2 * g
  | 0 => rfl
  | g + 1 => by simp [sp, sp_length g]; omega
theorem sp_snoc : ∀ g, sp (g + 1) = sp g ++ [92, 10]
  | 0 => rfl
  | g + 1 => by
    have h := sp_snoc g
    calc sp (g + 1 + 1) = 92 :: 10 :: sp (g + 1) := rfl
      _ = 92 :: 10 :: (sp g ++ [92, 10]) := by rw [h]
      _ = sp (g + 1) ++ [92, 10] := rfl
def gap (L : List (Nat × List UInt8)) (i : Nat) : Nat := if h : i + 1 < L.length then L[i + 1].1 - L[i].1 - 1 else 0
def pieceJ (L : List (Nat × List UInt8)) (i : Nat) : List UInt8 := (L.getD i (0, [])).2 ++ (sp (gap L i) ++ [10])
def jnk (L : List (Nat × List UInt8)) (k : Nat) : List UInt8 := (List.range k).flatMap (pieceJ L)
def jn (L : List (Nat × List UInt8)) : List UInt8 := jnk L L.length
theorem jnk_succ (L : List (Nat × List UInt8)) (k : Nat) : jnk L (k + 1) = jnk L k ++ pieceJ L k := by simp [jnk, List.range_succ]
theorem gap_cons (x : Nat × List UInt8) (r : List (Nat × List UInt8)) (i : Nat) : gap (x :: r) (i + 1) = gap r i := by simp [gap]
theorem pieceJ_cons (x : Nat × List UInt8) (r : List (Nat × List UInt8)) (i : Nat) : pieceJ (x :: r) (i + 1) = pieceJ r i := by simp [pieceJ, gap_cons]
theorem jn_cons (x : Nat × List UInt8) (r : List (Nat × List UInt8)) : jn (x :: r) = (x.2 ++ (sp (gap (x :: r) 0) ++ [10])) ++ jn r := by
  unfold jn jnk
  rw [List.length_cons, List.range_succ_eq_map, List.flatMap_cons, List.flatMap_map]
  congr 1
  have : (fun i => pieceJ (x :: r) (i + 1)) = pieceJ r := funext (pieceJ_cons x r)
  exact congrArg (fun f => (List.range r.length).flatMap f) this

def okS (s : List UInt8) : Prop := (∀ c ∈ s, c ≠ 13 ∧ c ≠ 10) ∧ bsB s = false
theorem pl_chars : ∀ (s cur d : List UInt8), (∀ c ∈ s, c ≠ 13 ∧ c ≠ 10) → pl cur (s ++ d) = pl (cur ++ s) d
  | [], cur, d, _ => by simp
  | c :: s, cur, d, h => by
    rw [List.cons_append, pl_char (h c (by simp)).1 (h c (by simp)).2, pl_chars s _ d (fun x hx => h x (by simp [hx]))]
    simp
theorem lg_sp : ∀ (g n f : Nat) (w cur d : List UInt8), bsB cur = false → lg n f w (pl cur (sp g ++ 10 :: d)) = (f, w ++ cur) :: lg (n + g + 1) (n + g + 1 + 1) [] (pl [] d)
  | 0, n, f, w, cur, d, h => by
    rw [sp, List.nil_append, pl_lf, lg, h]; simp
  | g + 1, n, f, w, cur, d, h => by
    rw [sp, List.cons_append, List.cons_append, pl_char (by decide) (by decide), pl_lf, lg, bsB_snoc, cutB_snoc]
    have hne : pl [] (sp g ++ 10 :: d) ≠ [] := fun e => by
      have := (pl_eq_nil.1 e).2
      simp at this
    rw [if_pos (by simp [hne]), lg_sp g _ _ _ _ _ (by decide)]
    simp only [List.append_nil]
    rw [show n + 1 + g + 1 = n + (g + 1) + 1 by omega]
theorem lg_jn : ∀ (L : List (Nat × List UInt8)) (n : Nat), (∀ x ∈ L, okS x.2) → (∀ i (h : i + 1 < L.length), L[i].1 < L[i + 1].1) → (∀ y, L.head? = some y → y.1 = n + 1) → lg n (n + 1) [] (pl [] (jn L)) = L
  | [], n, _, _, _ => by simp [jn, jnk, pl_nil, lg]
  | x :: r, n, hok, hch, hh => by
    have hx := hok x (by simp)
    rw [jn_cons, List.append_assoc, pl_chars _ _ _ hx.1, List.append_assoc, List.nil_append, List.singleton_append, lg_sp _ _ _ _ _ _ hx.2, List.nil_append]
    have e1 : n + 1 = x.1 := (hh x rfl).symm
    rw [lg_jn r (n + gap (x :: r) 0 + 1) (fun y hy => hok y (by simp [hy])) (fun i h => hch (i + 1) (by simpa using h)) (fun y hy => ?_), e1]
    cases r with
    | nil => simp at hy
    | cons z r =>
      obtain rfl : z = y := by simpa using hy
      have := hch 0 (by simp)
      simp [gap] at this ⊢
      omega
theorem lines_jn (L : List (Nat × List UInt8)) (hok : ∀ x ∈ L, okS x.2) (hch : ∀ i (h : i + 1 < L.length), L[i].1 < L[i + 1].1) (h1 : ∀ y, L.head? = some y → y.1 = 1) : lines (jn L) = L := by
  rw [lines_lg]; exact lg_jn L 0 hok hch h1
theorem jnk_length (L : List (Nat × List UInt8)) (hs : ∀ x ∈ L, x.2.length ≤ 100) (hg : ∀ i, gap L i ≤ 2) : ∀ k, (jnk L k).length ≤ 105 * k
  | 0 => by simp [jnk]
  | k + 1 => by
    rw [jnk_succ, List.length_append]
    have h1 := jnk_length L hs hg k
    have h2 := hg k
    have h3 : (L.getD k (0, [])).2.length ≤ 100 := by
      by_cases h : k < L.length
      · rw [List.getD_eq_getElem?_getD, List.getElem?_eq_getElem h]; exact hs _ (List.getElem_mem _)
      · rw [List.getD_eq_getElem?_getD, List.getElem?_eq_none (by omega)]; simp
    simp [pieceJ, sp_length] at h3 ⊢
    omega
end Go.Proofs.YtaoekfokpbebfaaDoor.Sx.Tx
