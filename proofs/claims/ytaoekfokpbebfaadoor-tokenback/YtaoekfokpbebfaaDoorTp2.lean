/-
  Plain lists: physical and logical lines byte by byte, and what joining, other line ends and splices do to them.
-/
import Derived.Test.YtaoekfokpbebfaaDoorTa
namespace Go.Proofs.YtaoekfokpbebfaaDoor.Sx.Tx

/-- Physical lines, byte by byte: cur is what the open line has. -/
def plF : Nat → List UInt8 → List UInt8 → List (List UInt8)
  | 0, cur, _ => if cur = [] then [] else [cur]
  | f + 1, cur, r => if r = [] then (if cur = [] then [] else [cur]) else if ler r = 0 then plF f (cur ++ r.take 1) (r.drop 1) else cur :: plF f [] (r.drop (ler r))
def pl (cur r : List UInt8) : List (List UInt8) := plF r.length cur r

theorem plF_more : ∀ (f g : Nat) (cur r : List UInt8), r.length ≤ f → r.length ≤ g → plF f cur r = plF g cur r := by
  intro f
  induction f with
  | zero =>
    intro g cur r hf hg
    have : r = [] := List.length_eq_zero_iff.1 (by omega)
    subst this
    cases g <;> simp [plF]
  | succ f ih =>
    intro g cur r hf hg
    cases g with
    | zero =>
      have : r = [] := List.length_eq_zero_iff.1 (by omega)
      subst this
      simp [plF]
    | succ g =>
      unfold plF
      split
      · rfl
      · rename_i hr
        have hpos : 0 < r.length := List.length_pos_iff.2 hr
        split
        · exact ih g _ _ (by simp; omega) (by simp; omega)
        · rw [ih g _ _ (by simp; omega) (by simp; omega)]
theorem pl_nil (cur : List UInt8) : pl cur [] = if cur = [] then [] else [cur] := rfl
theorem pl_no {cur r : List UInt8} {c : UInt8} (h : ler (c :: r) = 0) : pl cur (c :: r) = pl (cur ++ [c]) r := by
  unfold pl
  rw [List.length_cons]
  conv => lhs; unfold plF
  simp [h]
theorem pl_yes {cur r : List UInt8} (h : ler r ≠ 0) : pl cur r = cur :: pl [] (r.drop (ler r)) := by
  unfold pl
  cases r with
  | nil => exact absurd (by decide) h
  | cons c r =>
    rw [List.length_cons]
    conv => lhs; unfold plF
    simp only [h, if_false, reduceCtorEq]
    rw [plF_more _ ((c :: r).drop (ler (c :: r))).length _ _ (by simp; omega) (Nat.le_refl _)]
theorem pl_char {cur r : List UInt8} {c : UInt8} (h13 : c ≠ 13) (h10 : c ≠ 10) : pl cur (c :: r) = pl (cur ++ [c]) r := pl_no (by rw [ler_cons]; simp [h13, h10])
theorem pl_lf (cur r : List UInt8) : pl cur (10 :: r) = cur :: pl [] r := by
  have h : ler (10 :: r) = 1 := by rw [ler_cons]; simp
  rw [pl_yes (by rw [h]; decide), h]; rfl
theorem pl_crlf (cur r : List UInt8) : pl cur (13 :: 10 :: r) = cur :: pl [] r := by
  have h : ler (13 :: 10 :: r) = 2 := by rw [ler_cons]; simp
  rw [pl_yes (by rw [h]; decide), h]; rfl
theorem pl_cr {cur r : List UInt8} (hr : r.head? ≠ some 10) : pl cur (13 :: r) = cur :: pl [] r := by
  have h : ler (13 :: r) = 1 := by rw [ler_cons]; simp [hr]
  rw [pl_yes (by rw [h]; decide), h]; rfl
theorem pl_eq_nil {cur r : List UInt8} : pl cur r = [] ↔ cur = [] ∧ r = [] := by
  have key : ∀ (n : Nat) (cur r : List UInt8), r.length ≤ n → (pl cur r = [] ↔ cur = [] ∧ r = []) := by
    intro n
    induction n with
    | zero =>
      intro cur r h
      have : r = [] := List.length_eq_zero_iff.1 (by omega)
      subst this
      rw [pl_nil]; split <;> simp_all
    | succ n ih =>
      intro cur r h
      cases r with
      | nil => rw [pl_nil]; split <;> simp_all
      | cons c r =>
        by_cases h0 : ler (c :: r) = 0
        · rw [pl_no h0, ih _ _ (by simpa using h)]; simp
        · rw [pl_yes h0]; simp
  exact key _ cur r (Nat.le_refl _)

/-- The walk by places is the walk byte by byte. -/
theorem physFrom_pl (d : List UInt8) : ∀ (m st i : Nat), d.length - i ≤ m → st ≤ i → physFrom d st i = pl ((d.drop st).take (i - st)) (d.drop i) := by
  intro m
  induction m with
  | zero =>
    intro st i h hs
    rw [physFrom_end d (by omega), List.drop_eq_nil_of_le (show d.length ≤ i by omega), pl_nil, List.take_of_length_le (by simp; omega)]
    by_cases hd : st < d.length
    · rw [if_pos hd, if_neg (by simp; omega)]
    · rw [if_neg hd, if_pos (by simp; omega)]
  | succ m ih =>
    intro st i h hs
    by_cases hi : i < d.length
    · by_cases h0 : ler (d.drop i) = 0
      · rw [physFrom_no d hi h0, ih st (i + 1) (by omega) (by omega)]
        have hd : d.drop i = d[i] :: d.drop (i + 1) := List.drop_eq_getElem_cons hi
        rw [cur_snoc d hi hs]
        conv => rhs; rw [hd]
        rw [hd] at h0
        rw [pl_no h0]
      · rw [physFrom_yes d hi h0, ih _ _ (by omega) (Nat.le_refl _), pl_yes h0]
        simp [List.drop_drop]
    · rw [physFrom_end d (by omega), List.drop_eq_nil_of_le (show d.length ≤ i by omega), pl_nil, List.take_of_length_le (by simp; omega)]
      by_cases hd : st < d.length
      · rw [if_pos hd, if_neg (by simp; omega)]
      · rw [if_neg hd, if_pos (by simp; omega)]
theorem phys_fst (d : List UInt8) : (phys d).map Prod.fst = pl [] d := by
  rw [← physFrom_zero, physFrom_pl d d.length 0 0 (by omega) (by omega)]; simp
theorem phys_len (d : List UInt8) : (phys d).length = (pl [] d).length := by rw [← phys_fst]; simp

/-- Each with whether another one follows. -/
def wf : List (List UInt8) → List (List UInt8 × Bool)
  | [] => []
  | x :: r => (x, decide (r ≠ [])) :: wf r
def physP (d : List UInt8) (st i : Nat) : List (List UInt8 × Bool) := pcs d st (endsAt d i) ++ tailP d (lastN st (endsAt d i))
theorem physP_wf (d : List UInt8) : ∀ (m st i : Nat), d.length - i ≤ m → physP d st i = wf (physFrom d st i) := by
  intro m
  induction m with
  | zero =>
    intro st i h
    rw [physFrom_end d (by omega)]
    unfold physP
    rw [endsAt_end d (by omega)]
    by_cases hd : st < d.length <;> simp [pcs, lastN, tailP, wf, hd]
  | succ m ih =>
    intro st i h
    by_cases hi : i < d.length
    · by_cases h0 : ler (d.drop i) = 0
      · rw [physFrom_no d hi h0, ← ih st (i + 1) (by omega)]
        unfold physP
        rw [endsAt_no d hi h0]
      · rw [physFrom_yes d hi h0]
        simp only [wf]
        rw [← ih _ _ (by omega)]
        unfold physP
        rw [endsAt_yes d hi h0]
        simp only [pcs, lastN, List.cons_append]
        congr 2
        rw [decide_eq_decide]
        rw [physFrom_pl d d.length _ _ (by omega) (Nat.le_refl _)]
        simp only [Nat.sub_self, List.take_zero]
        rw [ne_eq, pl_eq_nil]
        simp
    · rw [physFrom_end d (by omega)]
      unfold physP
      rw [endsAt_end d (by omega)]
      by_cases hd : st < d.length <;> simp [pcs, lastN, tailP, wf, hd]
theorem phys_wf (d : List UInt8) : phys d = wf (pl [] d) := by
  have := physP_wf d d.length 0 0 (by omega)
  rw [physFrom_zero, phys_fst] at this
  exact this

/-- Logical lines out of physical ones: the number of the last one, that of the open line's first one, the open line. -/
def lg : Nat → Nat → List UInt8 → List (List UInt8) → List (Nat × List UInt8)
  | _, _, _, [] => []
  | n, f, w, x :: r => if bsB x && decide (r ≠ []) then lg (n + 1) f (w ++ cutB x) r else (f, w ++ x) :: lg (n + 1) (n + 1 + 1) [] r
theorem lst_lg : ∀ (L : List (List UInt8)) (n f : Nat) (w : List UInt8) (out : List (Nat × List UInt8)), ((wf L).foldl lstep (n, f, w, out)).2.2.2 = out ++ lg n f w L
  | [], _, _, _, out => by simp [wf, lg]
  | x :: r, n, f, w, out => by
    simp only [wf, List.foldl_cons, lstep, lg]
    split
    · rw [lst_lg r]
    · rw [lst_lg r]; simp
theorem lines_lg (d : List UInt8) : lines d = lg 0 1 [] (pl [] d) := by
  unfold lines lst
  rw [phys_wf, lst_lg]; rfl

/-! Other line ends. -/
def conv (k : Nat) : List UInt8 → List UInt8
  | [] => []
  | c :: r => (if c = 10 then (if k = 1 then [13, 10] else [13]) else [c]) ++ conv k r
theorem conv_head (d : List UInt8) (h : ∀ c ∈ d, c ≠ 13) : (conv 0 d).head? ≠ some 10 := by
  cases d with
  | nil => simp [conv]
  | cons c r =>
    by_cases hc : c = 10
    · simp [conv, hc]
    · simp [conv, hc]
theorem pl_conv (k : Nat) (hk : k = 0 ∨ k = 1) : ∀ (d cur : List UInt8), (∀ c ∈ d, c ≠ 13) → pl cur (conv k d) = pl cur d
  | [], _, _ => rfl
  | c :: r, cur, h => by
    have hr : ∀ c ∈ r, c ≠ 13 := fun x hx => h x (by simp [hx])
    have h13 : c ≠ 13 := h c (by simp)
    by_cases hc : c = 10
    · subst hc
      rw [pl_lf]
      rcases hk with rfl | rfl
      · have e : conv 0 (10 :: r) = 13 :: conv 0 r := by simp [conv]
        rw [e, pl_cr (conv_head r hr), pl_conv 0 (.inl rfl) r [] hr]
      · have e : conv 1 (10 :: r) = 13 :: 10 :: conv 1 r := by simp [conv]
        rw [e, pl_crlf, pl_conv 1 (.inr rfl) r [] hr]
    · have e : conv k (c :: r) = c :: conv k r := by simp [conv, hc]
      rw [e, pl_char h13 hc, pl_char h13 hc, pl_conv k hk r _ hr]
theorem lines_conv (k : Nat) (hk : k = 0 ∨ k = 1) (d : List UInt8) (h : ∀ c ∈ d, c ≠ 13) : lines (conv k d) = lines d := by
  rw [lines_lg, lines_lg, pl_conv k hk d [] h]
theorem conv_snoc (k : Nat) (d : List UInt8) (c : UInt8) : conv k (d ++ [c]) = conv k d ++ (if c = 10 then (if k = 1 then [13, 10] else [13]) else [c]) := by
  induction d with
  | nil => simp [conv]
  | cons x d ih => simp [conv, ih]
theorem conv_length (k : Nat) (d : List UInt8) : (conv k d).length ≤ 2 * d.length := by
  induction d with
  | nil => simp [conv]
  | cons c d ih =>
    simp only [conv, List.length_append, List.length_cons]
    split
    · split <;> simp <;> omega
    · simp; omega
end Go.Proofs.YtaoekfokpbebfaaDoor.Sx.Tx
