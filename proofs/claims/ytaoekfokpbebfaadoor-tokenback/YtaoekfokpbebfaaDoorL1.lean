/-
  Plain lists: which tokens lines have, as a list of events (a token and no error, or an error and its line), and how reading goes on step by step.
-/
namespace Go.Proofs.YtaoekfokpbebfaaDoor.Tk

def bl (c : UInt8) : Bool := c == 32 || c == 9 || c == 11 || c == 12
def dg (c : UInt8) : Bool := decide (48 ≤ c) && decide (c ≤ 57)
def le (c : UInt8) : Bool := (decide (97 ≤ c) && decide (c ≤ 122)) || (decide (65 ≤ c) && decide (c ≤ 90)) || c == 95
def nm (c : UInt8) : Bool := le c || dg c
def ex (a : UInt8) : Bool := a == 101 || a == 69 || a == 112 || a == 80
def nu (a c : UInt8) : Bool := if c == 43 || c == 45 then ex a else c == 46 || nm c
/-- How many bytes go on with a name, with a number behind the byte a. -/
def nmL : List UInt8 → Nat
  | [] => 0
  | c :: r => if nm c then nmL r + 1 else 0
def nuL : UInt8 → List UInt8 → Nat
  | _, [] => 0
  | a, c :: r => if nu a c then nuL c r + 1 else 0
def up (m : Nat) : Nat := if m = 0 then 0 else m + 1
/-- How many bytes up to the quote's end, and with it; 0: there is none. -/
def quL (q : UInt8) : Bool → List UInt8 → Nat
  | _, [] => 0
  | true, _ :: r => up (quL q false r)
  | false, c :: r => if c == 92 then up (quL q true r) else if c == q then 1 else up (quL q false r)
def signs : List (List UInt8) := [[91], [93], [40], [41], [123], [125], [46], [45, 62], [43, 43], [45, 45], [38], [42], [43], [45], [126], [33], [47], [37], [60, 60], [62, 62], [60], [62], [60, 61], [62, 61], [61, 61], [33, 61], [94], [124], [38, 38], [124, 124], [63], [58], [59], [46, 46, 46], [61], [42, 61], [47, 61], [37, 61], [43, 61], [45, 61], [60, 60, 61], [62, 62, 61], [38, 61], [94, 61], [124, 61], [44], [35], [35, 35]]
def pn (s : List UInt8) : Bool := signs.contains s
/-- How many bytes the longest sign has that a text begins with. -/
def sgL (s : List UInt8) : Nat :=
  if decide (3 ≤ s.length) && pn (s.take 3) then 3 else if decide (2 ≤ s.length) && pn (s.take 2) then 2 else if decide (1 ≤ s.length) && pn (s.take 1) then 1 else 0
def dig1 : List UInt8 → Bool
  | [] => false
  | d :: _ => dg d
/-- The kind and the size of the token that a text begins with; size 0: its quote is wrong. -/
def ms : List UInt8 → Nat × Nat
  | [] => (6, 1)
  | c :: r =>
    if dg c || (c == 46 && dig1 r) then (2, nuL c r + 1)
    else if nm c then (1, nmL r + 1)
    else if c == 39 then (3, if quL 39 false r = 1 then 0 else up (quL 39 false r))
    else if c == 34 then (4, up (quL 34 false r))
    else if 0 < sgL (c :: r) then (5, sgL (c :: r)) else (6, 1)

structure T where
  kind : Nat
  s : List UInt8
  line : Int
  sp : Bool
  fi : Bool
abbrev Ln := Int × List UInt8
def er (e n : Int) : T × Int := (⟨0, [], n, false, false⟩, e)
def pre (p l : List UInt8) : Bool := p.isPrefixOf l

/-- What stands behind the end of a comment in a line. -/
def fc : List UInt8 → Option (List UInt8)
  | [] => none
  | c :: r => if pre [42, 47] (c :: r) then some (r.drop 1) else fc r
/-- Lines, from behind the end of a comment on. -/
def cl : List Ln → Option (List Ln)
  | [] => none
  | (n, s) :: r => match fc s with
    | some t => some ((n, t) :: r)
    | none => cl r
def wt : List Ln → Nat
  | [] => 0
  | (_, s) :: r => s.length + 1 + wt r
/-- Is it no blank and no comment that stands here? -/
def isT (s : List UInt8) : Bool := match s with
  | [] => false
  | c :: _ => !pre [47, 47] s && !pre [47, 42] s && !bl c

def evF : Nat → List Ln → Bool → Bool → List (T × Int)
  | 0, _, _, _ => []
  | _ + 1, [], _, _ => []
  | f + 1, (_, []) :: r, _, _ => evF f r false true
  | f + 1, (n, c :: s) :: r, sp, fi =>
    if pre [47, 47] (c :: s) then evF f r false true
    else if pre [47, 42] (c :: s) then (match cl ((n, s.drop 1) :: r) with | none => [er 20 n] | some l => evF f l true fi)
    else if bl c then evF f ((n, s) :: r) true fi
    else if (ms (c :: s)).2 = 0 then [er 21 n]
    else (⟨(ms (c :: s)).1, (c :: s).take (ms (c :: s)).2, n, sp, fi⟩, 0) :: evF f ((n, (c :: s).drop (ms (c :: s)).2) :: r) false false
/-- The events of lines. -/
def ev (l : List Ln) (sp fi : Bool) : List (T × Int) := evF (wt l) l sp fi

theorem fc_len : ∀ {s t : List UInt8}, fc s = some t → t.length + 2 ≤ s.length
  | c :: r, t, h => by
    rw [fc] at h
    split at h
    · rename_i hp
      cases h
      have : [42, 47] <+: (c :: r) := List.isPrefixOf_iff_prefix.1 hp
      have := this.length_le
      simp at this ⊢; omega
    · have := fc_len h
      simp; omega
theorem cl_wt : ∀ {l l' : List Ln}, cl l = some l' → wt l' ≤ wt l
  | (n, s) :: r, l', h => by
    rw [cl] at h
    split at h
    · rename_i t ht
      cases h
      have := fc_len ht
      simp [wt]; omega
    · have := cl_wt h
      simp [wt]; omega
theorem evF_more : ∀ (f g : Nat) (l : List Ln) (sp fi : Bool), wt l ≤ f → wt l ≤ g → evF f l sp fi = evF g l sp fi := by
  intro f
  induction f with
  | zero =>
    intro g l sp fi hf hg
    cases l with
    | nil => cases g <;> rfl
    | cons x r => obtain ⟨n, s⟩ := x; simp [wt] at hf
  | succ f ih =>
    intro g l sp fi hf hg
    cases l with
    | nil => cases g <;> rfl
    | cons x r =>
      obtain ⟨n, s⟩ := x
      cases g with
      | zero => simp [wt] at hg
      | succ g =>
        cases s with
        | nil => simp only [evF]; simp [wt] at hf hg; exact ih _ _ _ _ (by omega) (by omega)
        | cons c s =>
          simp only [evF]
          simp [wt] at hf hg
          split
          · exact ih _ _ _ _ (by omega) (by omega)
          · split
            · split
              · rfl
              · rename_i l hl
                have := cl_wt hl
                simp [wt] at this
                exact ih _ _ _ _ (by omega) (by omega)
            · split
              · exact ih _ _ _ _ (by simp [wt]; omega) (by simp [wt]; omega)
              · split
                · rfl
                · congr 1
                  refine ih _ _ _ _ ?_ ?_ <;> (simp [wt]; omega)
theorem ev_nil (sp fi : Bool) : ev [] sp fi = [] := rfl
theorem ev_end (n : Int) (r : List Ln) (sp fi : Bool) : ev ((n, []) :: r) sp fi = ev r false true := by
  unfold ev
  rw [show wt ((n, []) :: r) = wt r + 1 by simp [wt]; omega]
  rfl
theorem ev_line {n : Int} {s : List UInt8} (r : List Ln) (sp fi : Bool) (h : pre [47, 47] s = true) : ev ((n, s) :: r) sp fi = ev r false true := by
  cases s with
  | nil => exact ev_end n r sp fi
  | cons c s =>
    unfold ev
    rw [show wt ((n, c :: s) :: r) = wt r + s.length + 1 + 1 by simp [wt]; omega, evF, if_pos h]
    exact evF_more _ _ _ _ _ (by omega) (Nat.le_refl _)
theorem pre_two {c d : UInt8} {a b : UInt8} {s : List UInt8} : pre [a, b] (c :: d :: s) = (a == c && b == d) := by simp [pre, List.isPrefixOf]
theorem pre_no {p q s : List UInt8} (h : pre p s = true) (hl : p.length = q.length) (hne : p ≠ q) : pre q s = false := by
  rw [Bool.eq_false_iff]
  intro h2
  have h1 : p <+: s := List.isPrefixOf_iff_prefix.1 h
  have h3 : q <+: s := List.isPrefixOf_iff_prefix.1 h2
  exact hne (by rw [List.prefix_iff_eq_take.1 h1, List.prefix_iff_eq_take.1 h3, hl])
/-- Events within a comment that began in line 'fr'. -/
def evO (fr : Int) (l : List Ln) (fi : Bool) : List (T × Int) := match cl l with | none => [er 20 fr] | some l' => ev l' true fi
theorem ev_open {n : Int} {s : List UInt8} (r : List Ln) (sp fi : Bool) (h : pre [47, 42] s = true) : ev ((n, s) :: r) sp fi = evO n ((n, s.drop 2) :: r) fi := by
  have h2 : pre [47, 47] s = false := pre_no h rfl (by decide)
  cases s with
  | nil => cases h
  | cons c s =>
    unfold ev evO
    rw [show wt ((n, c :: s) :: r) = wt r + s.length + 1 + 1 by simp [wt]; omega, evF, if_neg (by simp [h2]), if_pos h]
    simp only [List.drop_succ_cons]
    split
    · rfl
    · rename_i l hl
      have := cl_wt hl
      simp [wt] at this
      exact evF_more _ _ _ _ _ (by omega) (Nat.le_refl _)
theorem ev_blank {n : Int} {c : UInt8} {s : List UInt8} (r : List Ln) (sp fi : Bool) (h : bl c = true) : ev ((n, c :: s) :: r) sp fi = ev ((n, s) :: r) true fi := by
  have hc : c ≠ 47 := fun e => by subst e; revert h; decide
  have p1 : pre [47, 47] (c :: s) = false := by simp [pre, List.isPrefixOf, Ne.symm hc]
  have p2 : pre [47, 42] (c :: s) = false := by simp [pre, List.isPrefixOf, Ne.symm hc]
  unfold ev
  rw [show wt ((n, c :: s) :: r) = wt ((n, s) :: r) + 1 by simp [wt]; omega, evF, if_neg (by simp [p1]), if_neg (by simp [p2]), if_pos h]
theorem ev_quote {n : Int} {s : List UInt8} (r : List Ln) (sp fi : Bool) (h : isT s = true) (h0 : (ms s).2 = 0) : ev ((n, s) :: r) sp fi = [er 21 n] := by
  cases s with
  | nil => cases h
  | cons c s =>
    simp [isT] at h
    unfold ev
    rw [show wt ((n, c :: s) :: r) = wt ((n, s) :: r) + 1 by simp [wt]; omega, evF, if_neg (by simp [h]), if_neg (by simp [h]), if_neg (by simp [h]), if_pos h0]
theorem ev_tok {n : Int} {s : List UInt8} (r : List Ln) (sp fi : Bool) (h : isT s = true) (h0 : (ms s).2 ≠ 0) :
    ev ((n, s) :: r) sp fi = (⟨(ms s).1, s.take (ms s).2, n, sp, fi⟩, 0) :: ev ((n, s.drop (ms s).2) :: r) false false := by
  cases s with
  | nil => cases h
  | cons c s =>
    simp [isT] at h
    unfold ev
    rw [show wt ((n, c :: s) :: r) = wt ((n, s) :: r) + 1 by simp [wt]; omega, evF, if_neg (by simp [h]), if_neg (by simp [h]), if_neg (by simp [h]), if_neg h0]
    congr 1
    refine evF_more _ _ _ _ _ ?_ (Nat.le_refl _)
    simp [wt]; omega
theorem isT_iff {c : UInt8} {s : List UInt8} : isT (c :: s) = (!pre [47, 47] (c :: s) && !pre [47, 42] (c :: s) && !bl c) := rfl
theorem evO_nil (fr : Int) (fi : Bool) : evO fr [] fi = [er 20 fr] := rfl
theorem evO_end (fr n : Int) (r : List Ln) (fi : Bool) : evO fr ((n, []) :: r) fi = evO fr r fi := rfl
theorem evO_yes {fr n : Int} {s : List UInt8} (r : List Ln) (fi : Bool) (h : pre [42, 47] s = true) : evO fr ((n, s) :: r) fi = ev ((n, s.drop 2) :: r) true fi := by
  cases s with
  | nil => cases h
  | cons c s => simp [evO, cl, fc, h]
theorem evO_no {fr n : Int} {c : UInt8} {s : List UInt8} (r : List Ln) (fi : Bool) (h : pre [42, 47] (c :: s) = false) : evO fr ((n, c :: s) :: r) fi = evO fr ((n, s) :: r) fi := by
  simp [evO, cl, fc, h]

/-- What Lex tells of events, behind the tokens that there are already. -/
def col : List T → List (T × Int) → List T × Int × Int
  | out, [] => (out, 0, 0)
  | out, (t, e) :: r => if e = 0 then (if out.length < 20000 then col (out ++ [t]) r else ([], 22, t.line)) else ([], e, t.line)
def lex (l : List Ln) : List T × Int × Int := col [] (ev l false true)
end Go.Proofs.YtaoekfokpbebfaaDoor.Tk
