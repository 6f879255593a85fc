/-
  Plain lists: which tokens lines have, as a list of events (a token and no error, or an error and its line), and how reading goes on step by step.
  Plain lists: a token is no longer than the text that it begins.
  Plain lists: each token of lines is just the token that it is alone.
  Plain lists: tokens are no longer than their lines, and there are at most 20000.
  Plain lists: the tokens of lines are those of both parts.
  Plain lists: a token is a piece of its line; beside an error there are none.
  Plain lists: what stands behind a token, if it is a blank or nothing, makes no difference to it.
  Plain lists: tokens of lines, laid behind each other with blanks where there were some, are the same tokens.
  Plain lists: a text of one line, with more blanks where there are some.
  Plain lists: rows of tokens; bytes of tokens.
-/
namespace Go.Proofs.YtmpkgjonbjpohaaGreatDoor.Tk

def bl (c : UInt8) : Bool := c == 32 || c == 9 || c == 11 || c == 12
def dg (c : UInt8) : Bool := decide (48 ≤ c) && decide (c ≤ 57)
def le (c : UInt8) : Bool := (decide (97 ≤ c) && decide (c ≤ 122)) || (decide (65 ≤ c) && decide (c ≤ 90)) || c == 95
def nm (c : UInt8) : Bool := le c || dg c
def ex (a : UInt8) : Bool := a == 101 || a == 69 || a == 112 || a == 80
def nu (a c : UInt8) : Bool := if c == 43 || c == 45 then ex a else c == 46 || nm c
/-- How many bytes go on with a name, with a number behind the byte a. -/
def nmL : List UInt8 → Nat
  | [] => 0
  | c :: r => if nm c then nmL r + 1 else 0
def nuL : UInt8 → List UInt8 → Nat
  | _, [] => 0
  | a, c :: r => if nu a c then nuL c r + 1 else 0
def up (m : Nat) : Nat := if m = 0 then 0 else m + 1
/-- How many bytes up to the quote's end, and with it; 0: there is none. -/
def quL (q : UInt8) : Bool → List UInt8 → Nat
  | _, [] => 0
  | true, _ :: r => up (quL q false r)
  | false, c :: r => if c == 92 then up (quL q true r) else if c == q then 1 else up (quL q false r)
def signs : List (List UInt8) := [[91], [93], [40], [41], [123], [125], [46], [45, 62], [43, 43], [45, 45], [38], [42], [43], [45], [126], [33], [47], [37], [60, 60], [62, 62], [60], [62], [60, 61], [62, 61], [61, 61], [33, 61], [94], [124], [38, 38], [124, 124], [63], [58], [59], [46, 46, 46], [61], [42, 61], [47, 61], [37, 61], [43, 61], [45, 61], [60, 60, 61], [62, 62, 61], [38, 61], [94, 61], [124, 61], [44], [35], [35, 35]]
def pn (s : List UInt8) : Bool := signs.contains s
/-- How many bytes the longest sign has that a text begins with. -/
def sgL (s : List UInt8) : Nat :=
  if decide (3 ≤ s.length) && pn (s.take 3) then 3 else if decide (2 ≤ s.length) && pn (s.take 2) then 2 else if decide (1 ≤ s.length) && pn (s.take 1) then 1 else 0
def dig1 : List UInt8 → Bool
  | [] => false
  | d :: _ => dg d
/-- The kind and the size of the token that a text begins with; size 0: its quote is wrong. -/
def ms : List UInt8 → Nat × Nat
  | [] => (6, 1)
  | c :: r =>
    if dg c || (c == 46 && dig1 r) then (2, nuL c r + 1)
    else if nm c then (1, nmL r + 1)
    else if c == 39 then (3, if quL 39 false r = 1 then 0 else up (quL 39 false r))
    else if c == 34 then (4, up (quL 34 false r))
    else if 0 < sgL (c :: r) then (5, sgL (c :: r)) else (6, 1)

structure T where
  kind : Nat
  s : List UInt8
  line : Int
  sp : Bool
  fi : Bool
abbrev Ln := Int × List UInt8
def er (e n : Int) : T × Int := (⟨0, [], n, false, false⟩, e)
def pre (p l : List UInt8) : Bool := p.isPrefixOf l

/-- What stands behind the end of a comment in a line. -/
def fc : List UInt8 → Option (List UInt8)
  | [] => none
  | c :: r => if pre [42, 47] (c :: r) then some (r.drop 1) else fc r
/-- Lines, from behind the end of a comment on. -/
def cl : List Ln → Option (List Ln)
  | [] => none
  | (n, s) :: r => match fc s with
    | some t => some ((n, t) :: r)
    | none => cl r
def wt : List Ln → Nat
  | [] => 0
  | (_, s) :: r => s.length + 1 + wt r
/-- Is it no blank and no comment that stands here? -/
def isT (s : List UInt8) : Bool := match s with
  | [] => false
  | c :: _ => !pre [47, 47] s && !pre [47, 42] s && !bl c

def evF : Nat → List Ln → Bool → Bool → List (T × Int)
  | 0, _, _, _ => []
  | _ + 1, [], _, _ => []
  | f + 1, (_, []) :: r, _, _ => evF f r false true
  | f + 1, (n, c :: s) :: r, sp, fi =>
    if pre [47, 47] (c :: s) then evF f r false true
    else if pre [47, 42] (c :: s) then (match cl ((n, s.drop 1) :: r) with | none => [er 20 n] | some l => evF f l true fi)
    else if bl c then evF f ((n, s) :: r) true fi
    else if (ms (c :: s)).2 = 0 then [er 21 n]
    else (⟨(ms (c :: s)).1, (c :: s).take (ms (c :: s)).2, n, sp, fi⟩, 0) :: evF f ((n, (c :: s).drop (ms (c :: s)).2) :: r) false false
/-- The events of lines. -/
def ev (l : List Ln) (sp fi : Bool) : List (T × Int) := evF (wt l) l sp fi

theorem fc_len : ∀ {s t : List UInt8}, fc s = some t → t.length + 2 ≤ s.length
  | c :: r, t, h => by
    rw [fc] at h
    split at h
    · rename_i hp
      cases h
      have : [42, 47] <+: (c :: r) := List.isPrefixOf_iff_prefix.1 hp
      have := this.length_le
      simp at this ⊢; omega
    · have := fc_len h
      simp; omega
theorem cl_wt : ∀ {l l' : List Ln}, cl l = some l' → wt l' ≤ wt l
  | (n, s) :: r, l', h => by
    rw [cl] at h
    split at h
    · rename_i t ht
      cases h
      have := fc_len ht
      simp [wt]; omega
    · have := cl_wt h
      simp [wt]; omega
theorem evF_more : ∀ (f g : Nat) (l : List Ln) (sp fi : Bool), wt l ≤ f → wt l ≤ g → evF f l sp fi = evF g l sp fi := by
  intro f
  induction f with
  | zero =>
    intro g l sp fi hf hg
    cases l with
    | nil => cases g <;> rfl
    | cons x r => obtain ⟨n, s⟩ := x; simp [wt] at hf
  | succ f ih =>
    intro g l sp fi hf hg
    cases l with
    | nil => cases g <;> rfl
    | cons x r =>
      obtain ⟨n, s⟩ := x
      cases g with
      | zero => simp [wt] at hg
      | succ g =>
        cases s with
        | nil => simp only [evF]; simp [wt] at hf hg; exact ih _ _ _ _ (by omega) (by omega)
        | cons c s =>
          simp only [evF]
          simp [wt] at hf hg
          split
          · exact ih _ _ _ _ (by omega) (by omega)
          · split
            · split
              · rfl
              · rename_i l hl
                have := cl_wt hl
                simp [wt] at this
                exact ih _ _ _ _ (by omega) (by omega)
            · split
              · exact ih _ _ _ _ (by simp [wt]; omega) (by simp [wt]; omega)
              · split
                · rfl
                · congr 1
                  refine ih _ _ _ _ ?_ ?_ <;> (simp [wt]; omega)
theorem ev_nil (sp fi : Bool) : ev [] sp fi = [] := rfl
theorem ev_end (n : Int) (r : List Ln) (sp fi : Bool) : ev ((n, []) :: r) sp fi = ev r false true := by
  unfold ev
  rw [show wt ((n, []) :: r) = wt r + 1 by simp [wt]; omega]
  rfl
theorem ev_line {n : Int} {s : List UInt8} (r : List Ln) (sp fi : Bool) (h : pre [47, 47] s = true) : ev ((n, s) :: r) sp fi = ev r false true := by
  cases s with
  | nil => exact ev_end n r sp fi
  | cons c s =>
    unfold ev
    rw [show wt ((n, c :: s) :: r) = wt r + s.length + 1 + 1 by simp [wt]; omega, evF, if_pos h]
    exact evF_more _ _ _ _ _ (by omega) (Nat.le_refl _)
theorem pre_two {c d : UInt8} {a b : UInt8} {s : List UInt8} : pre [a, b] (c :: d :: s) = (a == c && b == d) := by simp [pre, List.isPrefixOf]
theorem pre_no {p q s : List UInt8} (h : pre p s = true) (hl : p.length = q.length) (hne : p ≠ q) : pre q s = false := by
  rw [Bool.eq_false_iff]
  intro h2
  have h1 : p <+: s := List.isPrefixOf_iff_prefix.1 h
  have h3 : q <+: s := List.isPrefixOf_iff_prefix.1 h2
  exact hne (by rw [List.prefix_iff_eq_take.1 h1, List.prefix_iff_eq_take.1 h3, hl])
/-- Events within a comment that began in line 'fr'. -/
def evO (fr : Int) (l : List Ln) (fi : Bool) : List (T × Int) := match cl l with | none => [er 20 fr] | some l' => ev l' true fi
theorem ev_open {n : Int} {s : List UInt8} (r : List Ln) (sp fi : Bool) (h : pre [47, 42] s = true) : ev ((n, s) :: r) sp fi = evO n ((n, s.drop 2) :: r) fi := by
  have h2 : pre [47, 47] s = false := pre_no h rfl (by decide)
  cases s with
  | nil => cases h
  | cons c s =>
    unfold ev evO
    rw [show wt ((n, c :: s) :: r) = wt r + s.length + 1 + 1 by simp [wt]; omega, evF, if_neg (by simp [h2]), if_pos h]
    simp only [List.drop_succ_cons]
    split
    · rfl
    · rename_i l hl
      have := cl_wt hl
      simp [wt] at this
      exact evF_more _ _ _ _ _ (by omega) (Nat.le_refl _)
theorem ev_blank {n : Int} {c : UInt8} {s : List UInt8} (r : List Ln) (sp fi : Bool) (h : bl c = true) : ev ((n, c :: s) :: r) sp fi = ev ((n, s) :: r) true fi := by
  have hc : c ≠ 47 := fun e => by subst e; revert h; decide
  have p1 : pre [47, 47] (c :: s) = false := by simp [pre, List.isPrefixOf, Ne.symm hc]
  have p2 : pre [47, 42] (c :: s) = false := by simp [pre, List.isPrefixOf, Ne.symm hc]
  unfold ev
  rw [show wt ((n, c :: s) :: r) = wt ((n, s) :: r) + 1 by simp [wt]; omega, evF, if_neg (by simp [p1]), if_neg (by simp [p2]), if_pos h]
theorem ev_quote {n : Int} {s : List UInt8} (r : List Ln) (sp fi : Bool) (h : isT s = true) (h0 : (ms s).2 = 0) : ev ((n, s) :: r) sp fi = [er 21 n] := by
  cases s with
  | nil => cases h
  | cons c s =>
    simp [isT] at h
    unfold ev
    rw [show wt ((n, c :: s) :: r) = wt ((n, s) :: r) + 1 by simp [wt]; omega, evF, if_neg (by simp [h]), if_neg (by simp [h]), if_neg (by simp [h]), if_pos h0]
theorem ev_tok {n : Int} {s : List UInt8} (r : List Ln) (sp fi : Bool) (h : isT s = true) (h0 : (ms s).2 ≠ 0) :
    ev ((n, s) :: r) sp fi = (⟨(ms s).1, s.take (ms s).2, n, sp, fi⟩, 0) :: ev ((n, s.drop (ms s).2) :: r) false false := by
  cases s with
  | nil => cases h
  | cons c s =>
    simp [isT] at h
    unfold ev
    rw [show wt ((n, c :: s) :: r) = wt ((n, s) :: r) + 1 by simp [wt]; omega, evF, if_neg (by simp [h]), if_neg (by simp [h]), if_neg (by simp [h]), if_neg h0]
    congr 1
    refine evF_more _ _ _ _ _ ?_ (Nat.le_refl _)
    simp [wt]; omega
theorem isT_iff {c : UInt8} {s : List UInt8} : isT (c :: s) = (!pre [47, 47] (c :: s) && !pre [47, 42] (c :: s) && !bl c) := rfl
theorem evO_nil (fr : Int) (fi : Bool) : evO fr [] fi = [er 20 fr] := rfl
theorem evO_end (fr n : Int) (r : List Ln) (fi : Bool) : evO fr ((n, []) :: r) fi = evO fr r fi := rfl
theorem evO_yes {fr n : Int} {s : List UInt8} (r : List Ln) (fi : Bool) (h : pre [42, 47] s = true) : evO fr ((n, s) :: r) fi = ev ((n, s.drop 2) :: r) true fi := by
  cases s with
  | nil => cases h
  | cons c s => simp [evO, cl, fc, h]
theorem evO_no {fr n : Int} {c : UInt8} {s : List UInt8} (r : List Ln) (fi : Bool) (h : pre [42, 47] (c :: s) = false) : evO fr ((n, c :: s) :: r) fi = evO fr ((n, s) :: r) fi := by
  simp [evO, cl, fc, h]

/-- What Lex tells of events, behind the tokens that there are already. -/
def col : List T → List (T × Int) → List T × Int × Int
  | out, [] => (out, 0, 0)
  | out, (t, e) :: r => if e = 0 then (if out.length < 20000 then col (out ++ [t]) r else ([], 22, t.line)) else ([], e, t.line)
def lex (l : List Ln) : List T × Int × Int := col [] (ev l false true)
end Go.Proofs.YtmpkgjonbjpohaaGreatDoor.Tk
namespace Go.Proofs.YtmpkgjonbjpohaaGreatDoor.Tk

theorem nmL_le : ∀ s, nmL s ≤ s.length
  | [] => Nat.le_refl _
  | c :: r => by
    have := nmL_le r
    rw [nmL]; split <;> simp <;> omega
theorem nuL_le : ∀ a s, nuL a s ≤ s.length
  | _, [] => Nat.le_refl _
  | a, c :: r => by
    have := nuL_le c r
    rw [nuL]; split <;> simp <;> omega
theorem up_le (m n : Nat) (h : m ≤ n) : up m ≤ n + 1 := by unfold up; split <;> omega
theorem quL_le (q : UInt8) : ∀ e s, quL q e s ≤ s.length
  | true, [] => by simp [quL]
  | false, [] => by simp [quL]
  | true, c :: r => by rw [quL]; exact up_le _ _ (quL_le q false r)
  | false, c :: r => by
    have h1 := up_le _ _ (quL_le q true r)
    have h2 := up_le _ _ (quL_le q false r)
    rw [quL, List.length_cons]
    split
    · exact h1
    · split
      · omega
      · exact h2
theorem sgL_le (s : List UInt8) : sgL s ≤ s.length := by
  unfold sgL
  split
  · rename_i h; simp at h; exact h.1
  · split
    · rename_i h; simp at h; exact h.1
    · split
      · rename_i h; simp at h; omega
      · omega
theorem ms_le {s : List UInt8} (h : s ≠ []) : (ms s).2 ≤ s.length := by
  cases s with
  | nil => exact absurd rfl h
  | cons c r =>
    have h1 := nuL_le c r
    have h2 := nmL_le r
    have h3 := up_le _ _ (quL_le 39 false r)
    have h4 := up_le _ _ (quL_le 34 false r)
    have h5 := sgL_le (c :: r)
    rw [ms]
    split
    · simp; omega
    · split
      · simp; omega
      · split
        · simp only [List.length_cons]; split <;> omega
        · split
          · simpa using h4
          · split
            · exact h5
            · simp
theorem isT_ne {s : List UInt8} (h : isT s = true) : s ≠ [] := fun e => by subst e; cases h
end Go.Proofs.YtmpkgjonbjpohaaGreatDoor.Tk
namespace Go.Proofs.YtmpkgjonbjpohaaGreatDoor.Tk

theorem nmL_take : ∀ (s : List UInt8) (k : Nat), nmL s ≤ k → nmL (s.take k) = nmL s
  | [], k, _ => by simp
  | c :: r, 0, h => by
    have : nmL (c :: r) = 0 := by omega
    rw [this]; rfl
  | c :: r, k + 1, h => by
    rw [List.take_succ_cons, nmL, nmL]
    rw [nmL] at h
    split
    · rename_i hc
      rw [if_pos hc] at h
      rw [nmL_take r k (by omega)]
    · rfl
theorem nuL_take : ∀ (a : UInt8) (s : List UInt8) (k : Nat), nuL a s ≤ k → nuL a (s.take k) = nuL a s
  | _, [], k, _ => by simp
  | a, c :: r, 0, h => by
    have : nuL a (c :: r) = 0 := by omega
    rw [this]; rfl
  | a, c :: r, k + 1, h => by
    rw [List.take_succ_cons, nuL, nuL]
    rw [nuL] at h
    split
    · rename_i hc
      rw [if_pos hc] at h
      rw [nuL_take c r k (by omega)]
    · rfl
theorem up_pos {m : Nat} (h : 0 < up m) : 0 < m ∧ up m = m + 1 := by unfold up at *; split at h <;> simp_all; omega
theorem quL_take (q : UInt8) : ∀ (e : Bool) (s : List UInt8) (k : Nat), 0 < quL q e s → quL q e s ≤ k → quL q e (s.take k) = quL q e s
  | true, [], k, h, _ => by simp [quL] at h
  | false, [], k, h, _ => by simp [quL] at h
  | e, c :: r, 0, h, h2 => by omega
  | true, c :: r, k + 1, h, h2 => by
    rw [quL] at h h2
    obtain ⟨h3, h4⟩ := up_pos h
    rw [List.take_succ_cons, quL, quL, quL_take q false r k h3 (by omega)]
  | false, c :: r, k + 1, h, h2 => by
    rw [List.take_succ_cons, quL, quL]
    rw [quL] at h h2
    split
    · rename_i hc
      rw [if_pos hc] at h h2
      obtain ⟨h3, h4⟩ := up_pos h
      rw [quL_take q true r k h3 (by omega)]
    · rename_i hc
      rw [if_neg hc] at h h2
      split
      · rfl
      · rename_i hq
        rw [if_neg hq] at h h2
        obtain ⟨h3, h4⟩ := up_pos h
        rw [quL_take q false r k h3 (by omega)]
theorem sgL_take (s : List UInt8) (h : 0 < sgL s) : sgL (s.take (sgL s)) = sgL s := by
  have hl := sgL_le s
  generalize hk : sgL s = k at *
  unfold sgL at hk
  split at hk
  · rename_i h3
    subst hk
    unfold sgL
    simp only [List.length_take, List.take_take, Nat.min_self]
    simp at h3
    simp [h3]
  · split at hk
    · rename_i h3 h2
      subst hk
      unfold sgL
      simp only [List.length_take, List.take_take]
      simp at h2
      simp [h2]
    · split at hk
      · rename_i h3 h2 h1
        subst hk
        unfold sgL
        simp only [List.length_take, List.take_take]
        simp at h1
        simp [h1]
      · omega
/-- A text, cut behind its first token, has the same first token. -/
theorem ms_take {s : List UInt8} (hs : s ≠ []) (h0 : (ms s).2 ≠ 0) : ms (s.take (ms s).2) = ms s := by
  cases s with
  | nil => exact absurd rfl hs
  | cons c r =>
    obtain ⟨n, hn⟩ : ∃ n, (ms (c :: r)).2 = n + 1 := ⟨_, (Nat.succ_pred h0).symm⟩
    rw [hn, List.take_succ_cons]
    have hms : ms (c :: r) = ms (c :: r) := rfl
    conv at hms => rhs; rw [ms]
    rw [hms] at hn ⊢
    rw [ms]
    by_cases hnu : (dg c || (c == 46 && dig1 r)) = true
    · rw [if_pos hnu] at hn ⊢
      simp only at hn
      have hn' : nuL c r = n := by omega
      have hd1 : (dg c || (c == 46 && dig1 (r.take n))) = true := by
        cases hdc : dg c
        · rw [hdc] at hnu
          simp at hnu
          obtain ⟨h46, hd⟩ := hnu
          cases r with
          | nil => simp [dig1] at hd
          | cons d r =>
            simp only [dig1] at hd
            have : 0 < n := by
              rw [← hn', nuL]
              have : nu c d = true := by
                have h1 : (d == 43 || d == 45) = false := by
                  unfold dg at hd
                  simp at hd
                  have h2 := UInt8.le_iff_toNat_le.1 hd.1
                  have e1 : d ≠ 43 := fun e => by subst e; revert h2; decide
                  have e2 : d ≠ 45 := fun e => by subst e; revert h2; decide
                  simp [e1, e2]
                unfold nu nm
                rw [h1, hd]; simp
              rw [if_pos this]; omega
            obtain ⟨n', rfl⟩ : ∃ n', n = n' + 1 := ⟨n - 1, by omega⟩
            simp [dig1, hd, h46]
        · rfl
      rw [if_pos hd1, nuL_take c r n (by omega)]
    · rw [if_neg hnu] at hn ⊢
      have hd1 : ¬ (dg c || (c == 46 && dig1 (r.take n))) = true := by
        intro h
        apply hnu
        cases hdc : dg c
        · rw [hdc] at h
          simp at h ⊢
          refine ⟨h.1, ?_⟩
          cases r with
          | nil => simp [dig1] at h
          | cons d r =>
            cases n with
            | zero => simp [dig1] at h
            | succ n => simpa [dig1] using h.2
        · rfl
      rw [if_neg hd1]
      by_cases hnm : nm c = true
      · rw [if_pos hnm] at hn ⊢
        rw [if_pos hnm]
        simp only at hn
        rw [nmL_take r n (by omega)]
      · rw [if_neg hnm] at hn ⊢
        rw [if_neg hnm]
        by_cases h39 : (c == 39) = true
        · rw [if_pos h39] at hn ⊢
          rw [if_pos h39]
          simp only at hn
          by_cases hq1 : quL 39 false r = 1
          · rw [if_pos hq1] at hn; omega
          · rw [if_neg hq1] at hn
            obtain ⟨hq2, hq3⟩ := up_pos (m := quL 39 false r) (by omega)
            rw [quL_take 39 false r n hq2 (by omega)]
        · rw [if_neg h39] at hn ⊢
          rw [if_neg h39]
          by_cases h34 : (c == 34) = true
          · rw [if_pos h34] at hn ⊢
            rw [if_pos h34]
            simp only at hn
            obtain ⟨hq2, hq3⟩ := up_pos (m := quL 34 false r) (by omega)
            rw [quL_take 34 false r n hq2 (by omega)]
          · rw [if_neg h34] at hn ⊢
            rw [if_neg h34]
            by_cases hsg : 0 < sgL (c :: r)
            · rw [if_pos hsg] at hn ⊢
              simp only at hn
              have := sgL_take (c :: r) hsg
              rw [hn, List.take_succ_cons] at this
              rw [hn, this, if_pos (by omega)]
            · rw [if_neg hsg] at hn ⊢
              simp only at hn
              obtain rfl : n = 0 := by omega
              rw [List.take_zero]
              have h1 : sgL [c] = 0 := by
                have h0 : sgL (c :: r) = 0 := by omega
                unfold sgL at h0 ⊢
                simp at h0 ⊢
                rw [Bool.eq_false_iff]
                intro hp
                rw [hp] at h0
                split at h0
                · omega
                · split at h0
                  · omega
                  · simp at h0
              rw [h1]; simp

/-- What a token is alone: events of its text. -/
theorem alone_ev {s : List UInt8} (h : isT s = true) (h0 : (ms s).2 ≠ 0) : ev [(1, s.take (ms s).2)] false true = [(⟨(ms s).1, s.take (ms s).2, 1, false, true⟩, 0)] := by
  have hne := isT_ne h
  have hms := ms_take hne h0
  have hT : isT (s.take (ms s).2) = true := by
    cases s with
    | nil => exact absurd rfl hne
    | cons c r =>
      obtain ⟨n, hn⟩ : ∃ n, (ms (c :: r)).2 = n + 1 := ⟨_, (Nat.succ_pred h0).symm⟩
      rw [hn, List.take_succ_cons]
      rw [isT_iff] at h ⊢
      simp only [Bool.and_eq_true, Bool.not_eq_true'] at h ⊢
      refine ⟨⟨?_, ?_⟩, h.2⟩
      · rw [Bool.eq_false_iff]; intro hp
        have h1 : [47, 47] <+: c :: r.take n := List.isPrefixOf_iff_prefix.1 hp
        have h2 : c :: r.take n <+: c :: r := by rw [List.cons_prefix_cons]; exact ⟨rfl, List.take_prefix _ _⟩
        have := List.isPrefixOf_iff_prefix.2 (h1.trans h2)
        rw [show List.isPrefixOf [47, 47] (c :: r) = pre [47, 47] (c :: r) from rfl, h.1.1] at this
        cases this
      · rw [Bool.eq_false_iff]; intro hp
        have h1 : [47, 42] <+: c :: r.take n := List.isPrefixOf_iff_prefix.1 hp
        have h2 : c :: r.take n <+: c :: r := by rw [List.cons_prefix_cons]; exact ⟨rfl, List.take_prefix _ _⟩
        have := List.isPrefixOf_iff_prefix.2 (h1.trans h2)
        rw [show List.isPrefixOf [47, 42] (c :: r) = pre [47, 42] (c :: r) from rfl, h.1.2] at this
        cases this
  have hlen := ms_le hne
  rw [ev_tok _ _ _ hT (by rw [hms]; exact h0), hms, List.take_take, Nat.min_self, List.drop_eq_nil_of_le (by simp; omega), ev_end, ev_nil]
/-- Where events come from: each token stands where it is no blank. -/
theorem ev_all : ∀ (f : Nat) (l : List Ln) (sp fi : Bool) (x : T × Int), x ∈ evF f l sp fi → x.2 = 0 → ∃ s : List UInt8, isT s = true ∧ (ms s).2 ≠ 0 ∧ x.1.kind = (ms s).1 ∧ x.1.s = s.take (ms s).2
  | 0, _, _, _, x, h, _ => by simp [evF] at h
  | f + 1, [], _, _, x, h, _ => by simp [evF] at h
  | f + 1, (n, []) :: r, sp, fi, x, h, h2 => by
    rw [evF] at h
    exact ev_all f _ _ _ x h h2
  | f + 1, (n, c :: s) :: r, sp, fi, x, h, h2 => by
    rw [evF] at h
    split at h
    · exact ev_all f _ _ _ x h h2
    · rename_i p1
      split at h
      · split at h
        · simp at h; subst h; simp [er] at h2
        · exact ev_all f _ _ _ x h h2
      · rename_i p2
        split at h
        · exact ev_all f _ _ _ x h h2
        · rename_i p3
          split at h
          · simp at h; subst h; simp [er] at h2
          · rename_i p4
            rcases List.mem_cons.1 h with rfl | h
            · exact ⟨c :: s, by rw [isT_iff]; simp_all, p4, rfl, rfl⟩
            · exact ev_all f _ _ _ x h h2
theorem col_mem : ∀ (e : List (T × Int)) (out : List T) (t : T), t ∈ (col out e).1 → t ∈ out ∨ (t, 0) ∈ e
  | [], out, t, h => .inl h
  | (u, e) :: r, out, t, h => by
    rw [col] at h
    split at h
    · rename_i he
      split at h
      · rcases col_mem r _ t h with h1 | h1
        · rcases List.mem_append.1 h1 with h2 | h2
          · exact .inl h2
          · simp at h2; subst h2; subst he; exact .inr (by simp)
        · exact .inr (by simp [h1])
      · simp at h
    · simp at h
theorem pn_not {c : UInt8} {r : List UInt8} (h : (dg c || (c == 46 && dig1 r)) = true ∨ nm c = true ∨ (c == 39) = true ∨ (c == 34) = true) : pn (c :: r) = false := by
  rw [pn, Bool.eq_false_iff]
  intro hp
  rw [List.contains_iff_mem] at hp
  have key : ∀ x ∈ signs, (match x with | [] => true | c :: r => !dg c && !nm c && !(c == 39) && !(c == 34) && (!(c == 46) || !dig1 r)) = true := by decide
  have := key _ hp
  simp only [Bool.and_eq_true, Bool.not_eq_true', Bool.or_eq_true] at this
  obtain ⟨⟨⟨⟨h1, h2⟩, h3⟩, h4⟩, h5⟩ := this
  rcases h with h | h | h | h
  · rw [h1] at h
    simp at h
    rcases h5 with h5 | h5
    · rw [beq_eq_false_iff_ne] at h5; exact h5 h.1
    · rw [h5] at h; simp at h
  · rw [h2] at h; cases h
  · rw [h3] at h; cases h
  · rw [h4] at h; cases h
theorem pn_sg {s : List UInt8} (h : s ≠ []) (hl : sgL s = s.length) : pn s = true := by
  have hle := sgL_le s
  have h3 : s.length ≤ 3 := by
    rw [← hl]; unfold sgL; split <;> (try split) <;> (try split) <;> omega
  unfold sgL at hl
  split at hl
  · rename_i h1
    simp at h1
    rw [List.take_of_length_le (by omega)] at h1
    exact h1.2
  · split at hl
    · rename_i h1
      simp at h1
      rw [List.take_of_length_le (by omega)] at h1
      exact h1.2
    · split at hl
      · rename_i h1
        simp at h1
        rw [List.take_of_length_le (by omega)] at h1
        exact h1.2
      · have : s = [] := List.length_eq_zero_iff.1 hl.symm
        exact absurd this h
theorem pn_kind {s : List UInt8} (h : s ≠ []) (h0 : (ms s).2 ≠ 0) (hall : (ms s).2 = s.length) : pn s = decide ((ms s).1 = 5) := by
  cases s with
  | nil => exact absurd rfl h
  | cons c r =>
    have hms : ms (c :: r) = ms (c :: r) := rfl
    conv at hms => rhs; rw [ms]
    rw [hms] at hall ⊢
    split
    · rename_i hnu
      rw [pn_not (.inl hnu)]; rfl
    · rename_i hnu
      rw [if_neg hnu] at hall
      by_cases hnm : nm c = true
      · rw [if_pos hnm, pn_not (.inr (.inl hnm))]; rfl
      · rw [if_neg hnm] at hall ⊢
        by_cases h39 : (c == 39) = true
        · rw [if_pos h39, pn_not (.inr (.inr (.inl h39)))]; rfl
        · rw [if_neg h39] at hall ⊢
          by_cases h34 : (c == 34) = true
          · rw [if_pos h34, pn_not (.inr (.inr (.inr h34)))]; rfl
          · rw [if_neg h34] at hall ⊢
            by_cases hsg : 0 < sgL (c :: r)
            · rw [if_pos hsg] at hall ⊢
              rw [pn_sg (by simp) hall]; rfl
            · rw [if_neg hsg] at hall ⊢
              have h1 : r = [] := by
                simp at hall
                exact hall
              subst h1
              have h0 : sgL [c] = 0 := by omega
              unfold sgL at h0
              simp at h0
              rw [h0]; rfl
/-- Each token of lines, alone, is just itself. -/
theorem lex_alone {l : List Ln} {t : T} (h : t ∈ (lex l).1) : lex [(1, t.s)] = ([⟨t.kind, t.s, 1, false, true⟩], 0, 0) ∧ pn t.s = decide (t.kind = 5) ∧ t.s ≠ [] := by
  rcases col_mem _ _ t h with h1 | h1
  · simp at h1
  · obtain ⟨s, h2, h3, h4, h5⟩ := ev_all _ _ _ _ _ h1 rfl
    simp only at h4 h5
    have hne := isT_ne h2
    have hms := ms_take hne h3
    have hle := ms_le hne
    have hne2 : t.s ≠ [] := by
      rw [h5]; intro e
      have := congrArg List.length e
      simp at this
      rcases this with h | h
      · exact h3 h
      · exact hne h
    refine ⟨?_, ?_, hne2⟩
    · unfold lex
      rw [h5, alone_ev h2 h3, h4]
      rfl
    · rw [pn_kind hne2 (by rw [h5, hms]; exact h3) (by rw [h5, hms]; simp; omega), h5, hms, h4]
end Go.Proofs.YtmpkgjonbjpohaaGreatDoor.Tk
namespace Go.Proofs.YtmpkgjonbjpohaaGreatDoor.Tk

theorem ev_len : ∀ (f : Nat) (l : List Ln) (sp fi : Bool) (x : T × Int), x ∈ evF f l sp fi → x.1.s.length ≤ wt l
  | 0, _, _, _, x, h => by simp [evF] at h
  | f + 1, [], _, _, x, h => by simp [evF] at h
  | f + 1, (n, []) :: r, sp, fi, x, h => by
    rw [evF] at h
    have := ev_len f _ _ _ x h
    simp [wt]; omega
  | f + 1, (n, c :: s) :: r, sp, fi, x, h => by
    rw [evF] at h
    split at h
    · have := ev_len f _ _ _ x h
      simp [wt]; omega
    · split at h
      · split at h
        · simp at h; subst h; simp [er]
        · rename_i l hl
          have h1 := ev_len f _ _ _ x h
          have h2 := cl_wt hl
          simp [wt] at h2 ⊢; omega
      · split at h
        · have := ev_len f _ _ _ x h
          simp [wt] at this ⊢; omega
        · split at h
          · simp at h; subst h; simp [er]
          · rcases List.mem_cons.1 h with rfl | h
            · simp [wt]; omega
            · have := ev_len f _ _ _ x h
              simp [wt] at this ⊢; omega
theorem col_len : ∀ (e : List (T × Int)) (out : List T), out.length ≤ 20000 → (col out e).1.length ≤ 20000
  | [], out, h => h
  | (u, e) :: r, out, h => by
    rw [col]
    split
    · split
      · exact col_len r _ (by simp; omega)
      · simp
    · simp
theorem lex_short {l : List Ln} {t : T} (h : t ∈ (lex l).1) : t.s.length ≤ wt l := by
  rcases col_mem _ _ t h with h1 | h1
  · simp at h1
  · exact ev_len _ _ _ _ _ h1
theorem lex_len (l : List Ln) : (lex l).1.length ≤ 20000 := col_len _ _ (by simp)
end Go.Proofs.YtmpkgjonbjpohaaGreatDoor.Tk
namespace Go.Proofs.YtmpkgjonbjpohaaGreatDoor.Tk

theorem cl_app : ∀ {l l' : List Ln} (m : List Ln), cl l = some l' → cl (l ++ m) = some (l' ++ m)
  | (n, s) :: r, l', m, h => by
    rw [cl] at h
    rw [List.cons_append, cl]
    split at h
    · rename_i t ht
      cases h
      rfl
    · exact cl_app m h
theorem cl_ne : ∀ {l l' : List Ln}, cl l = some l' → l' ≠ []
  | (n, s) :: r, l', h => by
    rw [cl] at h
    split at h
    · cases h; simp
    · exact cl_ne h
/-- No error among events. -/
def fine (e : List (T × Int)) : Prop := ∀ x ∈ e, x.2 = 0
theorem er_not_fine (e n : Int) (he : e ≠ 0) : ¬ fine [er e n] := fun h => he (h _ (List.mem_singleton.2 rfl))
theorem evF_app : ∀ (f : Nat) (l m : List Ln) (sp fi : Bool), wt l ≤ f → fine (evF f l sp fi) → (l ≠ [] ∨ (sp = false ∧ fi = true)) → ev (l ++ m) sp fi = evF f l sp fi ++ ev m false true
  | 0, [], m, sp, fi, hf, hg, hl => by
    rcases hl with h | ⟨rfl, rfl⟩
    · exact absurd rfl h
    · simp [evF]
  | 0, (n, s) :: r, m, sp, fi, hf, hg, hl => by simp [wt] at hf
  | f + 1, [], m, sp, fi, hf, hg, hl => by
    rcases hl with h | ⟨rfl, rfl⟩
    · exact absurd rfl h
    · simp [evF]
  | f + 1, (n, []) :: r, m, sp, fi, hf, hg, hl => by
    rw [List.cons_append, ev_end, evF]
    rw [evF] at hg
    exact evF_app f r m false true (by simp [wt] at hf; omega) hg (.inr ⟨rfl, rfl⟩)
  | f + 1, (n, c :: s) :: r, m, sp, fi, hf, hg, hl => by
    rw [evF] at hg ⊢
    rw [List.cons_append]
    split at hg
    · rename_i h1
      rw [ev_line _ _ _ h1, if_pos h1]
      exact evF_app f r m false true (by simp [wt] at hf; omega) hg (.inr ⟨rfl, rfl⟩)
    · rename_i h1
      rw [if_neg h1]
      split at hg
      · rename_i h2
        rw [if_pos h2, ev_open _ _ _ h2]
        split at hg
        · exact absurd hg (er_not_fine _ _ (by decide))
        · rename_i l hl2
          have ha := cl_app m hl2
          have hw := cl_wt hl2
          simp only [List.drop_succ_cons] at ha ⊢
          rw [List.cons_append] at ha
          rw [evO, ha]
          exact evF_app f l m true fi (by simp [wt] at hw hf; omega) hg (.inl (cl_ne hl2))
      · rename_i h2
        rw [if_neg h2]
        split at hg
        · rename_i h3
          rw [if_pos h3, ev_blank _ _ _ h3]
          have := evF_app f ((n, s) :: r) m true fi (by simp [wt] at hf ⊢; omega) hg (.inl (by simp))
          rw [List.cons_append] at this
          exact this
        · rename_i h3
          rw [if_neg h3]
          have hT : isT (c :: s) = true := by rw [isT_iff]; simp [h1, h2, h3]
          split at hg
          · exact absurd hg (er_not_fine _ _ (by decide))
          · rename_i h4
            rw [if_neg h4, ev_tok _ _ _ hT h4, List.cons_append]
            congr 1
            have := evF_app f ((n, (c :: s).drop (ms (c :: s)).2) :: r) m false false (by simp [wt] at hf ⊢; omega) (fun x hx => hg x (List.mem_cons_of_mem _ hx)) (.inl (by simp))
            rw [List.cons_append] at this
            exact this
theorem ev_app {l : List Ln} (m : List Ln) (h : fine (ev l false true)) : ev (l ++ m) false true = ev l false true ++ ev m false true := evF_app _ l m false true (Nat.le_refl _) h (.inr ⟨rfl, rfl⟩)
theorem col_fine : ∀ (e : List (T × Int)) (out : List T), (col out e).2.1 = 0 → fine e ∧ (col out e).1 = out ++ e.map Prod.fst ∧ (e = [] ∨ (out.length + e.length ≤ 20000)) ∧ (col out e).2.2 = 0
  | [], out, h => ⟨fun x hx => (by simp at hx), by simp [col], .inl rfl, rfl⟩
  | (t, e) :: r, out, h => by
    rw [col] at h ⊢
    split at h
    · rename_i he
      rw [if_pos he]
      split at h
      · rename_i hl
        rw [if_pos hl]
        obtain ⟨h1, h2, h3, h4⟩ := col_fine r _ h
        refine ⟨fun x hx => ?_, ?_, ?_, h4⟩
        · rcases List.mem_cons.1 hx with rfl | hx
          · exact he
          · exact h1 x hx
        · rw [h2]; simp
        · right
          rcases h3 with rfl | h3
          · simp; omega
          · simp at h3 ⊢; omega
      · simp at h
    · rename_i he
      simp only at h
      exact absurd h he
theorem col_of_fine : ∀ (e : List (T × Int)) (out : List T), fine e → out.length + e.length ≤ 20000 → col out e = (out ++ e.map Prod.fst, 0, 0)
  | [], out, h, hl => by simp [col]
  | (t, e) :: r, out, h, hl => by
    have he : e = 0 := h (t, e) (List.mem_cons_self ..)
    simp at hl
    rw [col, if_pos he, if_pos (by omega), col_of_fine r _ (fun x hx => h x (List.mem_cons_of_mem _ hx)) (by simp; omega)]
    simp
/-- The tokens of both parts, one behind the other. -/
theorem lex_parts {l m : List Ln} (hl : (lex l).2.1 = 0) (hm : (lex m).2.1 = 0) (h : (lex l).1.length + (lex m).1.length ≤ 20000) : lex (l ++ m) = ((lex l).1 ++ (lex m).1, 0, 0) := by
  obtain ⟨a1, a2, _, _⟩ := col_fine _ _ hl
  obtain ⟨b1, b2, _, _⟩ := col_fine _ _ hm
  simp only [lex] at h ⊢
  rw [a2, b2] at h ⊢
  rw [ev_app m a1, col_of_fine _ _ (fun x hx => by
    rcases List.mem_append.1 hx with h | h
    · exact a1 x h
    · exact b1 x h) (by simp at h ⊢; omega)]
  simp
end Go.Proofs.YtmpkgjonbjpohaaGreatDoor.Tk
namespace Go.Proofs.YtmpkgjonbjpohaaGreatDoor.Tk

theorem fc_suf : ∀ {s t : List UInt8}, fc s = some t → t <:+ s
  | c :: r, t, h => by
    rw [fc] at h
    split at h
    · cases h
      exact (List.drop_suffix 1 r).trans (List.suffix_cons c r)
    · exact (fc_suf h).trans (List.suffix_cons c r)
theorem ev_infix (n : Int) : ∀ (f : Nat) (s : List UInt8) (sp fi : Bool) (x : T × Int), x ∈ evF f [(n, s)] sp fi → x.1.s <:+: s
  | 0, _, _, _, x, h => by simp [evF] at h
  | f + 1, [], sp, fi, x, h => by
    rw [evF] at h
    cases f <;> simp [evF] at h
  | f + 1, c :: s, sp, fi, x, h => by
    rw [evF] at h
    split at h
    · cases f <;> simp [evF] at h
    · split at h
      · split at h
        · simp at h; subst h; simp [er]
        · rename_i l hl
          rw [cl] at hl
          split at hl
          · rename_i t ht
            cases hl
            have := ev_infix n f t true fi x h
            exact this.trans (((fc_suf ht).trans ((List.drop_suffix 1 s).trans (List.suffix_cons c s))).isInfix)
          · simp [cl] at hl
      · split at h
        · exact (ev_infix n f s true fi x h).trans (List.suffix_cons c s).isInfix
        · split at h
          · simp at h; subst h; simp [er]
          · rcases List.mem_cons.1 h with rfl | h
            · exact (List.take_prefix _ _).isInfix
            · exact (ev_infix n f _ false false x h).trans (List.drop_suffix _ _).isInfix
theorem lex_infix {n : Int} {s : List UInt8} {t : T} (h : t ∈ (lex [(n, s)]).1) : t.s <:+: s := by
  rcases col_mem _ _ t h with h1 | h1
  · simp at h1
  · exact ev_infix n _ _ _ _ _ h1
theorem infix_eq {a b : List UInt8} (h : a <:+: b) (hl : a.length = b.length) : a = b := h.eq_of_length hl
theorem col_err : ∀ (e : List (T × Int)) (out : List T), (col out e).2.1 ≠ 0 → (col out e).1 = []
  | [], out, h => absurd rfl h
  | (t, e) :: r, out, h => by
    rw [col] at h ⊢
    split
    · rename_i he
      rw [if_pos he] at h
      split
      · rename_i hl
        rw [if_pos hl] at h
        exact col_err r _ h
      · rfl
    · rfl
theorem lex_err {l : List Ln} (h : (lex l).2.1 ≠ 0) : (lex l).1 = [] := col_err _ _ h
end Go.Proofs.YtmpkgjonbjpohaaGreatDoor.Tk
namespace Go.Proofs.YtmpkgjonbjpohaaGreatDoor.Tk
set_option linter.unusedSimpArgs false
set_option linter.unusedVariables false

/-- Nothing, or a blank. -/
def stop : List UInt8 → Bool
  | [] => true
  | c :: _ => c == 32
theorem stop_nm {v : List UInt8} (h : stop v = true) : nmL v = 0 := by
  cases v with
  | nil => rfl
  | cons c r => simp [stop] at h; subst h; rfl
theorem stop_nu {v : List UInt8} (h : stop v = true) (a : UInt8) : nuL a v = 0 := by
  cases v with
  | nil => rfl
  | cons c r => simp [stop] at h; subst h; rfl
theorem stop_dig {v : List UInt8} (h : stop v = true) : dig1 v = false := by
  cases v with
  | nil => rfl
  | cons c r => simp [stop] at h; subst h; rfl
theorem nmL_swap {v v' : List UInt8} (hv : stop v' = true) : ∀ (u : List UInt8), nmL (u ++ v) ≤ u.length → nmL (u ++ v') = nmL (u ++ v)
  | [], h => by
    simp at h
    simp [stop_nm hv, h]
  | c :: u, h => by
    simp only [List.cons_append, nmL] at h ⊢
    by_cases hc : nm c = true
    · simp only [hc, if_true, List.length_cons] at h ⊢
      rw [nmL_swap (v := v) hv u (by omega)]
    · simp only [hc, Bool.false_eq_true, if_false]
theorem nuL_swap {v v' : List UInt8} (hv : stop v' = true) : ∀ (a : UInt8) (u : List UInt8), nuL a (u ++ v) ≤ u.length → nuL a (u ++ v') = nuL a (u ++ v)
  | a, [], h => by
    simp at h
    simp [stop_nu hv, h]
  | a, c :: u, h => by
    simp only [List.cons_append, nuL] at h ⊢
    by_cases hc : nu a c = true
    · simp only [hc, if_true, List.length_cons] at h ⊢
      rw [nuL_swap (v := v) hv c u (by omega)]
    · simp only [hc, Bool.false_eq_true, if_false]
theorem quL_app (q : UInt8) : ∀ (e : Bool) (p z : List UInt8), 0 < quL q e p → quL q e (p ++ z) = quL q e p
  | true, [], z, h => by simp [quL] at h
  | false, [], z, h => by simp [quL] at h
  | true, c :: r, z, h => by
    rw [quL] at h
    rw [List.cons_append, quL, quL, quL_app q false r z (up_pos h).1]
  | false, c :: r, z, h => by
    rw [quL] at h
    rw [List.cons_append, quL, quL]
    split
    · rename_i hc
      rw [if_pos hc] at h
      rw [quL_app q true r z (up_pos h).1]
    · rename_i hc
      rw [if_neg hc] at h
      split
      · rfl
      · rename_i hq
        rw [if_neg hq] at h
        rw [quL_app q false r z (up_pos h).1]
theorem quL_swap {q : UInt8} {v v' : List UInt8} (u : List UInt8) (h0 : 0 < quL q false (u ++ v)) (h : quL q false (u ++ v) ≤ u.length) : quL q false (u ++ v') = quL q false (u ++ v) := by
  have h1 := quL_take q false (u ++ v) _ h0 h
  rw [List.take_left] at h1
  have h2 := quL_app q false u v' (by omega)
  omega
theorem sgL_max {s : List UInt8} {j : Nat} (h1 : 1 ≤ j) (h3 : j ≤ 3) (hl : j ≤ s.length) (hp : pn (s.take j) = true) : j ≤ sgL s := by
  unfold sgL
  obtain rfl | rfl | rfl : j = 1 ∨ j = 2 ∨ j = 3 := by omega
  · split
    · omega
    · split
      · omega
      · simp [hl, hp]
  · split
    · omega
    · simp [hl, hp]
  · simp [hl, hp]
theorem sgL_of {s : List UInt8} {k : Nat} (h3 : k ≤ 3) (hl : k ≤ s.length) (hp : k = 0 ∨ pn (s.take k) = true) (hm : ∀ j, k < j → j ≤ 3 → j ≤ s.length → pn (s.take j) = false) : sgL s = k := by
  have hle : sgL s ≤ k := by
    rcases Nat.lt_or_ge k (sgL s) with h | h
    · have h4 : sgL s ≤ 3 := by unfold sgL; split <;> (try split) <;> (try split) <;> omega
      have := hm (sgL s) h h4 (sgL_le s)
      have hps : pn (s.take (sgL s)) = true := by
        have hpos : 0 < sgL s := by omega
        clear hm this
        generalize hk : sgL s = m at *
        unfold sgL at hk
        split at hk
        · rename_i h5; subst hk; simp at h5; exact h5.2
        · split at hk
          · rename_i h5; subst hk; simp at h5; exact h5.2
          · split at hk
            · rename_i h5; subst hk; simp at h5; exact h5.2
            · omega
      rw [hps] at this; cases this
    · exact h
  rcases hp with rfl | hp
  · omega
  · rcases Nat.eq_zero_or_pos k with h0 | h0
    · omega
    · have := sgL_max h0 h3 hl hp
      omega
theorem sgL_top (s : List UInt8) : sgL s ≤ 3 ∧ (sgL s = 0 ∨ pn (s.take (sgL s)) = true) := by
  unfold sgL
  split
  · rename_i h; simp at h; exact ⟨by omega, .inr h.2⟩
  · split
    · rename_i h; simp at h; exact ⟨by omega, .inr h.2⟩
    · split
      · rename_i h; simp at h; exact ⟨by omega, .inr h.2⟩
      · exact ⟨by omega, .inl rfl⟩
theorem pn_blank {s : List UInt8} (h : 32 ∈ s) : pn s = false := by
  rw [pn, Bool.eq_false_iff]
  intro hp
  rw [List.contains_iff_mem] at hp
  have key : ∀ x ∈ signs, (x.contains 32) = false := by decide
  have := key _ hp
  rw [Bool.eq_false_iff] at this
  exact this (by simpa using h)
theorem sgL_swap {v v' : List UInt8} (hv : stop v' = true) (u : List UInt8) (h : sgL (u ++ v) ≤ u.length) : sgL (u ++ v') = sgL (u ++ v) := by
  obtain ⟨t1, t2⟩ := sgL_top (u ++ v)
  refine sgL_of t1 (by rw [List.length_append]; omega) ?_ (fun j hj j3 jl => ?_)
  · rcases t2 with t2 | t2
    · exact .inl t2
    · right
      rw [List.take_append_of_le_length h] at t2 ⊢
      exact t2
  · by_cases hju : j ≤ u.length
    · rw [List.take_append_of_le_length hju, Bool.eq_false_iff]
      intro hp
      have := sgL_max (s := u ++ v) (j := j) (by omega) j3 (by rw [List.length_append]; omega) (by rw [List.take_append_of_le_length hju]; exact hp)
      omega
    · cases v' with
      | nil => simp at jl; omega
      | cons c r =>
        simp [stop] at hv
        subst hv
        apply pn_blank
        rw [List.take_append]
        obtain ⟨m, hm⟩ : ∃ m, j - u.length = m + 1 := ⟨j - u.length - 1, by omega⟩
        rw [hm]
        simp
/-- The first token of a text hangs on nothing behind it but whether it goes on. -/
theorem ms_swap {v v' u : List UInt8} (hu : u ≠ []) (hv : stop v' = true) (h0 : (ms (u ++ v)).2 ≠ 0) (h : (ms (u ++ v)).2 ≤ u.length) : ms (u ++ v') = ms (u ++ v) := by
  cases u with
  | nil => exact absurd rfl hu
  | cons c r =>
    simp only [List.cons_append] at h0 h ⊢
    simp only [ms] at h0 h ⊢
    have hdig : (dg c || (c == 46 && dig1 (r ++ v'))) = (dg c || (c == 46 && dig1 (r ++ v))) := by
      cases r with
      | cons d r => rfl
      | nil =>
        simp only [List.nil_append]
        rw [stop_dig hv]
        cases hdc : dg c
        · simp only [Bool.false_or, Bool.and_false]
          symm
          rw [Bool.eq_false_iff]
          intro hh
          rw [hdc] at h
          simp only [Bool.false_or, List.nil_append, hh, if_true, List.length_cons, List.length_nil] at h
          simp only [Bool.and_eq_true, beq_iff_eq] at hh
          obtain ⟨rfl, hd⟩ := hh
          cases v with
          | nil => simp [dig1] at hd
          | cons d v =>
            simp only [dig1] at hd
            have hnu : nu 46 d = true := by
              have h1 : (d == 43 || d == 45) = false := by
                unfold dg at hd
                simp at hd
                have h2 := UInt8.le_iff_toNat_le.1 hd.1
                have e1 : d ≠ 43 := fun e => by subst e; revert h2; decide
                have e2 : d ≠ 45 := fun e => by subst e; revert h2; decide
                simp [e1, e2]
              unfold nu nm
              rw [h1, hd]; simp
            rw [nuL, if_pos hnu] at h
            omega
        · rfl
    rw [hdig]
    by_cases hnu : (dg c || (c == 46 && dig1 (r ++ v))) = true
    · simp only [hnu, if_true, List.length_cons] at h ⊢
      rw [nuL_swap (v := v) hv c r (by omega)]
    · simp only [hnu, Bool.false_eq_true, if_false] at h0 h ⊢
      by_cases hnm : nm c = true
      · simp only [hnm, if_true, List.length_cons] at h ⊢
        rw [nmL_swap (v := v) hv r (by omega)]
      · simp only [hnm, Bool.false_eq_true, if_false] at h0 h ⊢
        by_cases h39 : (c == 39) = true
        · simp only [h39, if_true, List.length_cons] at h0 h ⊢
          by_cases hq1 : quL 39 false (r ++ v) = 1
          · simp [hq1] at h0
          · simp only [hq1, Bool.false_eq_true, if_false] at h0 h
            obtain ⟨q2, q3⟩ := up_pos (m := quL 39 false (r ++ v)) (by omega)
            rw [quL_swap (v := v) r q2 (by omega)]
        · simp only [h39, Bool.false_eq_true, if_false] at h0 h ⊢
          by_cases h34 : (c == 34) = true
          · simp only [h34, if_true, List.length_cons] at h0 h ⊢
            obtain ⟨q2, q3⟩ := up_pos (m := quL 34 false (r ++ v)) (by omega)
            rw [quL_swap (v := v) r q2 (by omega)]
          · simp only [h34, Bool.false_eq_true, if_false] at h0 h ⊢
            have hsw : sgL (c :: (r ++ v')) = sgL (c :: (r ++ v)) := by
              refine sgL_swap (v := v) (u := c :: r) hv ?_
              by_cases hsg : 0 < sgL (c :: (r ++ v))
              · simp only [hsg, if_true] at h
                exact h
              · simp only [List.cons_append]
                omega
            rw [hsw]
theorem isT_swap {v v' u : List UInt8} (hu : u ≠ []) (hv : stop v' = true) (h : isT (u ++ v) = true) : isT (u ++ v') = true := by
  cases u with
  | nil => exact absurd rfl hu
  | cons c r =>
    simp only [List.cons_append] at h ⊢
    rw [isT_iff] at h ⊢
    cases r with
    | cons d r =>
      simp only [List.cons_append, pre_two] at h ⊢
      exact h
    | nil =>
      simp only [List.nil_append] at h ⊢
      simp only [Bool.and_eq_true, Bool.not_eq_true'] at h ⊢
      refine ⟨⟨?_, ?_⟩, h.2⟩
      all_goals
        cases v' with
        | nil => simp [pre, List.isPrefixOf]
        | cons d r =>
          simp [stop] at hv
          subst hv
          rw [pre_two]
          simp
end Go.Proofs.YtmpkgjonbjpohaaGreatDoor.Tk
namespace Go.Proofs.YtmpkgjonbjpohaaGreatDoor.Tk
set_option linter.unusedSimpArgs false
set_option linter.unusedVariables false

/-- Tokens that stand in a text one behind the other: each is its rest's first token; where there is no blank and no line end ahead of the next one, that stands right behind. -/
def Og : List UInt8 → List T → Prop
  | _, [] => True
  | s, t :: r => (isT s = true ∧ (ms s).2 ≠ 0 ∧ t.kind = (ms s).1 ∧ t.s = s.take (ms s).2) ∧
    (match r with
      | [] => True
      | t2 :: _ => (t2.sp = false → t2.fi = false → Og (s.drop (ms s).2) r) ∧ ∃ s2, Og s2 r)
/-- How tokens begin that were read with what has come since the last one. -/
def St (s : List UInt8) (sp fi : Bool) (a : List T) : Prop := match a with
  | [] => True
  | t :: _ => (∃ s2, Og s2 a) ∧ (sp = false → fi = false → t.sp = false → t.fi = false → Og s a)
theorem St.sp {s s' : List UInt8} {fi : Bool} {a : List T} (h : St s true fi a) (hh : ∀ t r, a = t :: r → t.sp = true ∨ t.fi = true) (sp' fi' : Bool) : St s' sp' fi' a := by
  cases a with
  | nil => trivial
  | cons t r =>
    refine ⟨h.1, fun _ _ h1 h2 => ?_⟩
    rcases hh t r rfl with h3 | h3
    · rw [h1] at h3; cases h3
    · rw [h2] at h3; cases h3
theorem ev_st : ∀ (f : Nat) (l : List Ln) (sp fi : Bool), fine (evF f l sp fi) →
    (∀ n s r, l = (n, s) :: r → St s sp fi ((evF f l sp fi).map Prod.fst)) ∧ ((evF f l sp fi).map Prod.fst = [] ∨ ∃ t r, (evF f l sp fi).map Prod.fst = t :: r ∧ (sp = true → t.sp = true ∨ t.fi = true) ∧ (fi = true → t.fi = true) ∧ ∃ s2, Og s2 (t :: r))
  | 0, l, sp, fi, hg => by simp [evF, St]
  | f + 1, [], sp, fi, hg => by simp [evF]
  | f + 1, (n, []) :: r, sp, fi, hg => by
    rw [evF] at hg ⊢
    obtain ⟨_, h2⟩ := ev_st f r false true hg
    rcases h2 with h2 | ⟨t, r', h2, h3, h4, h5⟩
    · rw [h2]
      exact ⟨fun _ _ _ _ => trivial, .inl rfl⟩
    · rw [h2]
      refine ⟨fun n s r0 e => ⟨h5, fun _ _ _ hf => ?_⟩, .inr ⟨t, r', rfl, fun _ => .inr (h4 rfl), fun _ => h4 rfl, h5⟩⟩
      rw [h4 rfl] at hf; cases hf
  | f + 1, (n, c :: s) :: r, sp, fi, hg => by
    rw [evF] at hg ⊢
    by_cases h1 : pre [47, 47] (c :: s) = true
    · rw [if_pos h1] at hg ⊢
      obtain ⟨_, h2⟩ := ev_st f r false true hg
      rcases h2 with h2 | ⟨t, r', h2, h3, h4, h5⟩
      · rw [h2]
        exact ⟨fun _ _ _ _ => trivial, .inl rfl⟩
      · rw [h2]
        refine ⟨fun n s r0 e => ⟨h5, fun _ _ _ hf => ?_⟩, .inr ⟨t, r', rfl, fun _ => .inr (h4 rfl), fun _ => h4 rfl, h5⟩⟩
        rw [h4 rfl] at hf; cases hf
    · rw [if_neg h1] at hg ⊢
      by_cases h2 : pre [47, 42] (c :: s) = true
      · rw [if_pos h2] at hg ⊢
        cases hcl : cl ((n, s.drop 1) :: r) with
        | none =>
          rw [hcl] at hg
          exact absurd hg (er_not_fine _ _ (by decide))
        | some l =>
          rw [hcl] at hg
          simp only at hg ⊢
          obtain ⟨_, h3⟩ := ev_st f l true fi hg
          rcases h3 with h3 | ⟨t, r', h3, h4, h5, h6⟩
          · rw [h3]
            exact ⟨fun _ _ _ _ => trivial, .inl rfl⟩
          · rw [h3]
            refine ⟨fun n s r0 e => ⟨h6, fun _ _ ha hb => ?_⟩, .inr ⟨t, r', rfl, fun _ => h4 rfl, h5, h6⟩⟩
            rcases h4 rfl with h | h
            · rw [ha] at h; cases h
            · rw [hb] at h; cases h
      · rw [if_neg h2] at hg ⊢
        by_cases h3 : bl c = true
        · rw [if_pos h3] at hg ⊢
          obtain ⟨_, h4⟩ := ev_st f ((n, s) :: r) true fi hg
          rcases h4 with h4 | ⟨t, r', h4, h5, h6, h7⟩
          · rw [h4]
            exact ⟨fun _ _ _ _ => trivial, .inl rfl⟩
          · rw [h4]
            refine ⟨fun n s r0 e => ⟨h7, fun _ _ ha hb => ?_⟩, .inr ⟨t, r', rfl, fun _ => h5 rfl, h6, h7⟩⟩
            rcases h5 rfl with h | h
            · rw [ha] at h; cases h
            · rw [hb] at h; cases h
        · rw [if_neg h3] at hg ⊢
          have hT : isT (c :: s) = true := by rw [isT_iff]; simp [h1, h2, h3]
          by_cases h4 : (ms (c :: s)).2 = 0
          · rw [if_pos h4] at hg
            exact absurd hg (er_not_fine _ _ (by decide))
          · rw [if_neg h4] at hg ⊢
            obtain ⟨h5, h6⟩ := ev_st f ((n, (c :: s).drop (ms (c :: s)).2) :: r) false false (fun x hx => hg x (List.mem_cons_of_mem _ hx))
            have h5' := h5 n _ r rfl
            have hO : Og (c :: s) (⟨(ms (c :: s)).1, (c :: s).take (ms (c :: s)).2, n, sp, fi⟩ :: (evF f ((n, (c :: s).drop (ms (c :: s)).2) :: r) false false).map Prod.fst) := by
              generalize (evF f ((n, (c :: s).drop (ms (c :: s)).2) :: r) false false).map Prod.fst = A at *
              cases A with
              | nil => exact ⟨⟨hT, h4, rfl, rfl⟩, trivial⟩
              | cons t2 r2 => exact ⟨⟨hT, h4, rfl, rfl⟩, fun ha hb => h5'.2 rfl rfl ha hb, h5'.1⟩
            simp only [List.map_cons]
            refine ⟨fun n' s' r' e => ?_, .inr ⟨_, _, rfl, fun h => .inl h, fun h => h, _, hO⟩⟩
            cases e
            exact ⟨⟨_, hO⟩, fun _ _ _ _ => hO⟩
/-- Tokens as far as they stand right behind each other. -/
def adj : List T → List UInt8
  | [] => []
  | t :: r => t.s ++ (match r with
    | [] => []
    | t2 :: _ => if t2.sp || t2.fi then [] else adj r)
/-- Tokens of one line laid out anew: 'sep' ahead of each that has blanks ahead of it, 'tl' behind the last one. -/
def tx (sep tl : List UInt8) : List T → List UInt8
  | [] => tl
  | t :: r => t.s ++ (match r with
    | [] => tl
    | t2 :: _ => if t2.sp then sep ++ tx sep tl r else tx sep tl r)
theorem adj_two (t t2 : T) (r : List T) : adj (t :: t2 :: r) = t.s ++ (if t2.sp || t2.fi then [] else adj (t2 :: r)) := rfl
theorem tx_two (sep tl : List UInt8) (t t2 : T) (r : List T) : tx sep tl (t :: t2 :: r) = t.s ++ (if t2.sp then sep ++ tx sep tl (t2 :: r) else tx sep tl (t2 :: r)) := rfl
def tlx (sep tl : List UInt8) : List T → List UInt8
  | [] => tl
  | t2 :: r2 => if t2.sp then sep ++ tx sep tl (t2 :: r2) else tx sep tl (t2 :: r2)
theorem tx_tlx (sep tl : List UInt8) (t : T) (r : List T) : tx sep tl (t :: r) = t.s ++ tlx sep tl r := by cases r <;> rfl
theorem adj_pre (t : T) (r : List T) : ∃ z, adj (t :: r) = t.s ++ z := ⟨_, rfl⟩
theorem Og_adj : ∀ (a : List T) (s : List UInt8), Og s a → ∃ v, s = adj a ++ v
  | [], s, _ => ⟨s, rfl⟩
  | t :: r, s, h => by
    obtain ⟨⟨h1, h2, h3, h4⟩, h5⟩ := h
    cases r with
    | nil => exact ⟨s.drop (ms s).2, by simp only [adj, List.append_nil, h4, List.take_append_drop]⟩
    | cons t2 r2 =>
      rw [adj_two]
      by_cases hb : (t2.sp || t2.fi) = true
      · rw [if_pos hb]
        exact ⟨s.drop (ms s).2, by rw [List.append_nil, h4, List.take_append_drop]⟩
      · rw [if_neg hb]
        simp only [Bool.or_eq_true, not_or, Bool.not_eq_true] at hb
        obtain ⟨v, hv⟩ := Og_adj (t2 :: r2) _ (h5.1 hb.1 hb.2)
        refine ⟨v, ?_⟩
        rw [List.append_assoc, ← hv, h4, List.take_append_drop]
/-- No First ones but the first. -/
def row : List T → Prop
  | [] => True
  | _ :: r => ∀ t ∈ r, t.fi = false
theorem row_tl {t : T} {r : List T} (h : row (t :: r)) : row r := by
  cases r with
  | nil => trivial
  | cons t2 r2 => exact fun x hx => h x (List.mem_cons_of_mem _ hx)
theorem tx_adj (sep tl : List UInt8) (hs : stop sep = true) (hsn : sep ≠ []) (ht : stop tl = true) : ∀ (a : List T), a ≠ [] → row a → ∃ v', tx sep tl a = adj a ++ v' ∧ stop v' = true
  | [], h, _ => absurd rfl h
  | t :: r, _, hr => by
    cases r with
    | nil => exact ⟨tl, by simp [tx, adj], ht⟩
    | cons t2 r2 =>
      have hf : t2.fi = false := hr t2 (by simp)
      rw [tx_two, adj_two, hf, Bool.or_false]
      by_cases hb : t2.sp = true
      · rw [if_pos hb, if_pos hb]
        refine ⟨sep ++ tx sep tl (t2 :: r2), by simp, ?_⟩
        cases sep with
        | nil => exact absurd rfl hsn
        | cons c q => exact hs
      · rw [if_neg hb, if_neg hb]
        obtain ⟨v', h1, h2⟩ := tx_adj sep tl hs hsn ht (t2 :: r2) (by simp) (row_tl hr)
        exact ⟨v', by rw [h1, List.append_assoc], h2⟩
/-- The tokens, read anew. -/
def nt (n : Int) (sp fi : Bool) : List T → List (T × Int)
  | [] => []
  | t :: r => (⟨t.kind, t.s, n, sp, fi⟩, 0) :: r.map fun t => (⟨t.kind, t.s, n, t.sp, false⟩, 0)
theorem nt_cons (n : Int) (sp fi : Bool) (t t2 : T) (r : List T) : nt n sp fi (t :: t2 :: r) = (⟨t.kind, t.s, n, sp, fi⟩, 0) :: nt n t2.sp false (t2 :: r) := rfl
theorem ev_tx (n : Int) (sep tl : List UInt8) (R : List Ln) (hs : stop sep = true) (hsn : sep ≠ []) (ht : stop tl = true)
    (hb : ∀ z sp fi, ev ((n, sep ++ z) :: R) sp fi = ev ((n, z) :: R) true fi) :
    ∀ (a : List T) (s : List UInt8) (sp fi : Bool), Og s a → a ≠ [] → row a → ev ((n, tx sep tl a) :: R) sp fi = nt n sp fi a ++ ev ((n, tl) :: R) false false
  | [], s, sp, fi, _, h, _ => absurd rfl h
  | t :: r, s, sp, fi, hO, _, hr => by
    obtain ⟨v, hv⟩ := Og_adj (t :: r) s hO
    obtain ⟨v', hv', hst⟩ := tx_adj sep tl hs hsn ht (t :: r) (by simp) hr
    obtain ⟨⟨h1, h2, h3, h4⟩, h5⟩ := hO
    have hlen : t.s.length = (ms s).2 := by rw [h4, List.length_take]; have := ms_le (isT_ne h1); omega
    have hadj : t.s.length ≤ (adj (t :: r)).length := by
      obtain ⟨z, hz⟩ := adj_pre t r
      rw [hz, List.length_append]
      omega
    have hne : adj (t :: r) ≠ [] := by
      intro e
      have := congrArg List.length e
      simp only [List.length_nil] at this
      omega
    have hms : ms (tx sep tl (t :: r)) = ms s := by
      rw [hv'] 
      have := ms_swap (v := v) (v' := v') (u := adj (t :: r)) hne hst (by rw [← hv]; exact h2) (by rw [← hv]; omega)
      rw [this, ← hv]
    have hT : isT (tx sep tl (t :: r)) = true := by
      rw [hv']
      exact isT_swap (v := v) hne hst (by rw [← hv]; exact h1)
    have htake : (tx sep tl (t :: r)).take (ms s).2 = t.s := by
      rw [← hlen, tx_tlx]
      exact List.take_left
    have hdrop : (tx sep tl (t :: r)).drop (ms s).2 = tlx sep tl r := by
      rw [← hlen, tx_tlx]
      exact List.drop_left
    rw [ev_tok R sp fi hT (by rw [hms]; exact h2), hms, htake, hdrop, ← h3]
    cases r with
    | nil => rfl
    | cons t2 r2 =>
      obtain ⟨h6, s2, h7⟩ := h5
      rw [tlx, nt_cons, List.cons_append]
      congr 1
      by_cases hsp : t2.sp = true
      · rw [if_pos hsp, hb, ev_tx n sep tl R hs hsn ht hb (t2 :: r2) s2 true false h7 (by simp) (row_tl hr), hsp]
      · rw [if_neg hsp, ev_tx n sep tl R hs hsn ht hb (t2 :: r2) s2 false false h7 (by simp) (row_tl hr)]
        simp only [Bool.not_eq_true] at hsp
        rw [hsp]
end Go.Proofs.YtmpkgjonbjpohaaGreatDoor.Tk
namespace Go.Proofs.YtmpkgjonbjpohaaGreatDoor.Tk
set_option linter.unusedSimpArgs false
set_option linter.unusedVariables false

/-- The four kinds of blanks. -/
def bks : List (List UInt8) := [[32], [9], [47, 42, 42, 47], [11, 12, 32, 47, 42, 32, 39, 32, 42, 47]]
theorem ev_bks {b : List UInt8} (hb : b ∈ bks) (n : Int) (z : List UInt8) (R : List Ln) (sp fi : Bool) : ev ((n, b ++ z) :: R) sp fi = ev ((n, z) :: R) true fi := by
  simp only [bks, List.mem_cons, List.mem_nil_iff, or_false] at hb
  rcases hb with rfl | rfl | rfl | rfl
  · exact ev_blank R sp fi (by decide)
  · exact ev_blank R sp fi (by decide)
  · have h1 : pre [47, 42] ([47, 42, 42, 47] ++ z) = true := by simp [pre, List.isPrefixOf]
    rw [ev_open R sp fi h1]
    have h2 : pre [42, 47] (([47, 42, 42, 47] ++ z).drop 2) = true := by simp [pre, List.isPrefixOf]
    rw [evO_yes R fi h2]
    rfl
  · simp only [List.cons_append, List.nil_append]
    rw [ev_blank R sp fi (by decide), ev_blank R _ fi (by decide), ev_blank R _ fi (by decide)]
    have h1 : pre [47, 42] (47 :: 42 :: 32 :: 39 :: 32 :: 42 :: 47 :: z) = true := by simp [pre, List.isPrefixOf]
    rw [ev_open R _ fi h1]
    simp only [List.drop_succ_cons, List.drop_zero]
    rw [evO_no R fi (by simp [pre, List.isPrefixOf]), evO_no R fi (by simp [pre, List.isPrefixOf]), evO_no R fi (by simp [pre, List.isPrefixOf])]
    have h2 : pre [42, 47] (42 :: 47 :: z) = true := by simp [pre, List.isPrefixOf]
    rw [evO_yes R fi h2]
    rfl
def tail6 : List UInt8 := [32, 47, 47, 32, 39, 32]
theorem ev_tail (n : Int) (sp fi : Bool) : ev [(n, tail6)] sp fi = [] := by
  unfold tail6
  rw [ev_blank [] sp fi (by decide), ev_line [] true fi (by decide)]
  rfl
/-- Tokens behind each other, 'sep' ahead of those that have blanks ahead (but the first one). -/
def tQ (sep : List UInt8) : Bool → List T → List UInt8
  | _, [] => []
  | f, t :: r => (if t.sp && !f then sep else []) ++ (t.s ++ tQ sep false r)
theorem tQ_tx (sep tl : List UInt8) : ∀ (r : List T) (t : T), tx sep tl (t :: r) = t.s ++ (tQ sep false r ++ tl)
  | [], t => by simp [tQ, tx]
  | t2 :: r, t => by
    rw [tx_two, tQ_tx sep tl r t2, tQ]
    by_cases h : t2.sp = true
    · simp [h]
    · simp [h]
theorem tQ_snoc (sep : List UInt8) : ∀ (l : List T) (f : Bool) (t : T), tQ sep f (l ++ [t]) = tQ sep f l ++ ((if t.sp && !(f && l.isEmpty) then sep else []) ++ t.s)
  | [], f, t => by simp [tQ]
  | x :: r, f, t => by
    rw [List.cons_append, tQ, tQ, tQ_snoc sep r false t]
    simp
/-- The tokens of one line: none but the first one is First. -/
theorem row_ev (n : Int) : ∀ (f : Nat) (s : List UInt8) (sp fi : Bool), row ((evF f [(n, s)] sp fi).map Prod.fst) := by
  have key : ∀ (f : Nat) (s : List UInt8) (sp : Bool) (x : T × Int), x ∈ evF f [(n, s)] sp false → x.1.fi = false := by
    intro f
    induction f with
    | zero => intro s sp x h; simp [evF] at h
    | succ f ih =>
      intro s sp x h
      cases s with
      | nil => rw [evF] at h; cases f <;> simp [evF] at h
      | cons c s =>
        rw [evF] at h
        split at h
        · cases f <;> simp [evF] at h
        · split at h
          · split at h
            · simp at h; subst h; rfl
            · rename_i l hl
              rw [cl] at hl
              split at hl
              · cases hl; exact ih _ _ _ h
              · simp [cl] at hl
          · split at h
            · exact ih _ _ _ h
            · split at h
              · simp at h; subst h; rfl
              · rcases List.mem_cons.1 h with rfl | h
                · rfl
                · exact ih _ _ _ h
  have key2 : ∀ (f : Nat) (s : List UInt8) (sp fi : Bool), row ((evF f [(n, s)] sp fi).map Prod.fst) := by
    intro f
    induction f with
    | zero => intro s sp fi; simp [evF, row]
    | succ f ih =>
      intro s sp fi
      cases s with
      | nil => rw [evF]; cases f <;> simp [evF, row]
      | cons c s =>
        rw [evF]
        split
        · cases f <;> simp [evF, row]
        · split
          · split
            · simp [row]
            · rename_i l hl
              rw [cl] at hl
              split at hl
              · cases hl; exact ih _ _ _
              · simp [cl] at hl
          · split
            · exact ih _ _ _
            · split
              · simp [row]
              · simp only [List.map_cons]
                intro t ht
                obtain ⟨x, hx, rfl⟩ := List.mem_map.1 ht
                exact key _ _ _ _ hx
  exact key2
/-- What a line with more blanks reads as. -/
theorem lex_blanks {n : Int} {s b : List UInt8} (hb : b ∈ bks) (hok : (lex [(n, s)]).2.1 = 0) :
    lex [(n, b ++ (tQ (32 :: b) true (lex [(n, s)]).1 ++ tail6))] = ((nt n true true (lex [(n, s)]).1).map Prod.fst, 0, 0) := by
  obtain ⟨h1, h2, h3, _⟩ := col_fine _ _ hok
  have hlen := lex_len [(n, s)]
  have hst := (ev_st _ _ _ _ h1)
  have h2' : (lex [(n, s)]).1 = (ev [(n, s)] false true).map Prod.fst := by
    show (col [] (ev [(n, s)] false true)).1 = _
    rw [h2, List.nil_append]
  have hrow : row ((ev [(n, s)] false true).map Prod.fst) ∧ True := ⟨?_, trivial⟩
  · rw [h2'] at hlen ⊢
    show col [] (ev [(n, b ++ (tQ (32 :: b) true ((ev [(n, s)] false true).map Prod.fst) ++ tail6))] false true) = _
    generalize hA : (ev [(n, s)] false true).map Prod.fst = A at *
    rw [ev_bks hb]
    obtain ⟨_, hO⟩ := hst
    have hA' : (evF (wt [(n, s)]) [(n, s)] false true).map Prod.fst = A := hA
    rw [hA'] at hO
    rcases hO with rfl | ⟨t, r, rfl, _, _, s2, hO⟩
    · simp only [tQ, List.nil_append]
      rw [ev_tail]
      rfl
    · have e : tQ (32 :: b) true (t :: r) ++ tail6 = tx (32 :: b) tail6 (t :: r) := by
        rw [tQ_tx, tQ]; simp
      rw [e, ev_tx n (32 :: b) tail6 [] rfl (by simp) rfl (fun z sp fi => by
        rw [List.cons_append, ev_blank [] sp fi (by decide), ev_bks hb]) (t :: r) s2 true true hO (by simp) hrow.1, ev_tail, List.append_nil, col_of_fine]
      · simp
      · intro x hx
        simp only [nt, List.mem_cons, List.mem_map] at hx
        rcases hx with rfl | ⟨y, _, rfl⟩ <;> rfl
      · simp [nt] at hlen ⊢
        omega
  · exact row_ev n _ _ _ _
/-- The first token of one line is First, no other one is. -/
theorem lex_first {n : Int} {s : List UInt8} (hok : (lex [(n, s)]).2.1 = 0) : (lex [(n, s)]).1 = [] ∨ ∃ t r, (lex [(n, s)]).1 = t :: r ∧ t.fi = true ∧ ∀ x ∈ r, x.fi = false := by
  obtain ⟨h1, h2, h3, _⟩ := col_fine _ _ hok
  have hst := (ev_st _ _ _ _ h1)
  have h2' : (lex [(n, s)]).1 = (ev [(n, s)] false true).map Prod.fst := by
    show (col [] (ev [(n, s)] false true)).1 = _
    rw [h2, List.nil_append]
  rw [h2']
  have hr : row ((ev [(n, s)] false true).map Prod.fst) := row_ev n _ _ _ _
  obtain ⟨_, hO⟩ := hst
  have e : (evF (wt [(n, s)]) [(n, s)] false true).map Prod.fst = (ev [(n, s)] false true).map Prod.fst := rfl
  rw [e] at hO
  rcases hO with hO | ⟨t, r, hO, _, h5, _⟩
  · exact .inl hO
  · rw [hO] at hr
    exact .inr ⟨t, r, hO, h5 rfl, hr⟩
end Go.Proofs.YtmpkgjonbjpohaaGreatDoor.Tk
namespace Go.Proofs.YtmpkgjonbjpohaaGreatDoor.Tk
set_option linter.unusedSimpArgs false
set_option linter.unusedVariables false

theorem Og_pre : ∀ (a b : List T) (s : List UInt8), Og s (a ++ b) → Og s a
  | [], b, s, _ => trivial
  | t :: a, b, s, h => by
    obtain ⟨h1, h2⟩ := h
    cases a with
    | nil => exact ⟨h1, trivial⟩
    | cons t2 a => exact ⟨h1, fun ha hb => Og_pre (t2 :: a) b _ (h2.1 ha hb), let ⟨s2, h3⟩ := h2.2; ⟨s2, Og_pre (t2 :: a) b s2 h3⟩⟩
theorem Og_drop : ∀ (a c : List T) (s : List UInt8), Og s (a ++ c) → c ≠ [] → ∃ s2, Og s2 c
  | [], c, s, h, _ => ⟨s, h⟩
  | t :: a, c, s, h, hc => by
    obtain ⟨h1, h2⟩ := h
    cases hac : a ++ c with
    | nil => simp at hac; exact absurd hac.2 hc
    | cons t2 r =>
      rw [show a.append c = t2 :: r from hac] at h2
      obtain ⟨s2, h3⟩ := h2.2
      rw [← hac] at h3
      exact Og_drop a c s2 h3 hc
/-- Tokens, parted ahead of First ones. -/
def hdf : List T → Bool
  | [] => true
  | t :: _ => t.fi
def push (t : T) (f : Bool) : List (List T) → List (List T)
  | [] => [[t]]
  | a :: b => if f then [t] :: a :: b else (t :: a) :: b
def rws : List T → List (List T)
  | [] => []
  | t :: r => push t (hdf r) (rws r)
theorem rws_flat : ∀ l, (rws l).flatten = l
  | [] => rfl
  | t :: r => by
    have ih := rws_flat r
    rw [rws]
    cases h : rws r with
    | nil => rw [h] at ih; simp at ih; subst ih; rfl
    | cons a b =>
      rw [h] at ih
      rw [push]
      split
      · simp only [List.flatten_cons, List.singleton_append]
        rw [← List.flatten_cons, ih]
      · simp only [List.flatten_cons, List.cons_append]
        rw [← List.flatten_cons, ih]
theorem rws_ne : ∀ l, ∀ a ∈ rws l, a ≠ []
  | [], a, h => by simp [rws] at h
  | t :: r, a, h => by
    rw [rws] at h
    cases hx : rws r with
    | nil => rw [hx] at h; simp [push] at h; subst h; simp
    | cons x b =>
      have ih := rws_ne r
      rw [hx] at ih h
      rw [push] at h
      split at h
      · rcases List.mem_cons.1 h with rfl | h
        · simp
        · exact ih a h
      · rcases List.mem_cons.1 h with rfl | h
        · simp
        · exact ih a (List.mem_cons_of_mem _ h)
/-- Each row begins with a First one (the first row: if the tokens do), and has no other. -/
theorem rws_row : ∀ l, (∀ a b, rws l = a :: b → (∀ x ∈ b, ∃ t r, x = t :: r ∧ t.fi = true) ∧ (∃ t r r2, a = t :: r ∧ l = t :: r2)) ∧ ∀ a ∈ rws l, row a
  | [] => ⟨fun a b h => by simp [rws] at h, fun a h => by simp [rws] at h⟩
  | t :: r => by
    obtain ⟨h1, h2⟩ := rws_row r
    have hfl := rws_flat r
    rw [rws]
    cases hx : rws r with
    | nil => exact ⟨fun a b h => by simp [push] at h; obtain ⟨rfl, rfl⟩ := h; exact ⟨fun x hx => by simp at hx, t, [], r, rfl, rfl⟩, fun a h => by simp [push] at h; subst h; intro x hx; simp at hx⟩
    | cons x y =>
      rw [push]
      obtain ⟨h3, t0, r0, r2, e1, e2⟩ := h1 x y hx
      subst e2
      rw [hx] at h2
      by_cases hf : hdf (t0 :: r2) = true
      · rw [if_pos hf]
        refine ⟨fun a b h => ?_, fun a h => ?_⟩
        · simp at h
          obtain ⟨rfl, rfl⟩ := h
          refine ⟨fun z hz => ?_, t, [], _, rfl, rfl⟩
          rcases List.mem_cons.1 hz with rfl | hz
          · exact ⟨t0, r0, e1, hf⟩
          · exact h3 z hz
        · rcases List.mem_cons.1 h with rfl | h
          · intro x hx; simp at hx
          · exact h2 a h
      · rw [if_neg hf]
        refine ⟨fun a b h => ?_, fun a h => ?_⟩
        · simp at h
          obtain ⟨rfl, rfl⟩ := h
          exact ⟨h3, t, x, _, rfl, rfl⟩
        · rcases List.mem_cons.1 h with rfl | h
          · intro z hz
            rw [e1] at hz
            have hrow := h2 x (by simp)
            rw [e1] at hrow
            rcases List.mem_cons.1 hz with e | hz
            · rw [e]
              have hf' : ¬ (t0.fi = true) := hf
              simpa using hf'
            · exact hrow z hz
          · exact h2 a (List.mem_cons_of_mem _ h)
/-- Bytes of tokens are bytes of lines. -/
theorem ev_bytes (p : UInt8 → Prop) : ∀ (f : Nat) (l : List Ln) (sp fi : Bool), (∀ x ∈ l, ∀ c ∈ x.2, p c) → ∀ e ∈ evF f l sp fi, ∀ c ∈ e.1.s, p c
  | 0, l, sp, fi, h, e, he => by simp [evF] at he
  | f + 1, [], sp, fi, h, e, he => by simp [evF] at he
  | f + 1, (n, []) :: r, sp, fi, h, e, he => by
    rw [evF] at he
    exact ev_bytes p f r _ _ (fun x hx => h x (List.mem_cons_of_mem _ hx)) e he
  | f + 1, (n, c :: s) :: r, sp, fi, h, e, he => by
    have h0 : ∀ x ∈ c :: s, p x := h (n, c :: s) (by simp)
    have hr : ∀ x ∈ r, ∀ c ∈ x.2, p c := fun x hx => h x (List.mem_cons_of_mem _ hx)
    rw [evF] at he
    split at he
    · exact ev_bytes p f r _ _ hr e he
    · split at he
      · split at he
        · simp at he; subst he; simp [er]
        · rename_i l hl
          have key : ∀ (l l' : List Ln), (∀ x ∈ l, ∀ c ∈ x.2, p c) → cl l = some l' → ∀ x ∈ l', ∀ c ∈ x.2, p c := by
            intro l
            induction l with
            | nil => intro l' _ h; simp [cl] at h
            | cons y l ih =>
              intro l' hy h
              obtain ⟨n, s⟩ := y
              rw [cl] at h
              split at h
              · rename_i t ht
                cases h
                intro x hx c hc
                rcases List.mem_cons.1 hx with rfl | hx
                · exact hy (n, s) (by simp) c ((fc_suf ht).subset hc)
                · exact hy x (List.mem_cons_of_mem _ hx) c hc
              · exact ih l' (fun x hx => hy x (List.mem_cons_of_mem _ hx)) h
          refine ev_bytes p f l _ _ (key _ _ (fun x hx => ?_) hl) e he
          rcases List.mem_cons.1 hx with rfl | hx
          · exact fun c hc => h0 c (List.mem_cons_of_mem _ (List.mem_of_mem_drop hc))
          · exact hr x hx
      · split at he
        · refine ev_bytes p f _ _ _ (fun x hx => ?_) e he
          rcases List.mem_cons.1 hx with rfl | hx
          · exact fun c hc => h0 c (List.mem_cons_of_mem _ hc)
          · exact hr x hx
        · split at he
          · simp at he; subst he; simp [er]
          · rcases List.mem_cons.1 he with rfl | he
            · exact fun c hc => h0 c (List.mem_of_mem_take hc)
            · refine ev_bytes p f _ _ _ (fun x hx => ?_) e he
              rcases List.mem_cons.1 hx with rfl | hx
              · exact fun c hc => h0 c (List.mem_of_mem_drop hc)
              · exact hr x hx
/-- How many bytes lines have. -/
def bsum : List Ln → Nat
  | [] => 0
  | (_, s) :: r => s.length + bsum r
def tsum : List (T × Int) → Nat
  | [] => 0
  | x :: r => x.1.s.length + tsum r
theorem cl_bsum : ∀ {l l' : List Ln}, cl l = some l' → bsum l' ≤ bsum l
  | (n, s) :: r, l', h => by
    rw [cl] at h
    split at h
    · rename_i t ht
      cases h
      have := fc_len ht
      simp [bsum]; omega
    · have := cl_bsum h
      simp [bsum]; omega
theorem ev_sum : ∀ (f : Nat) (l : List Ln) (sp fi : Bool), tsum (evF f l sp fi) ≤ bsum l
  | 0, l, sp, fi => by simp [evF, tsum]
  | f + 1, [], sp, fi => by simp [evF, tsum]
  | f + 1, (n, []) :: r, sp, fi => by
    rw [evF]
    have := ev_sum f r false true
    simp [bsum]; omega
  | f + 1, (n, c :: s) :: r, sp, fi => by
    rw [evF]
    split
    · have := ev_sum f r false true
      simp [bsum]; omega
    · split
      · split
        · simp [tsum, er]
        · rename_i l hl
          have h1 := ev_sum f l true fi
          have h2 := cl_bsum hl
          simp [bsum] at h2 ⊢; omega
      · split
        · have := ev_sum f ((n, s) :: r) true fi
          simp [bsum] at this ⊢; omega
        · split
          · simp [tsum, er]
          · have := ev_sum f ((n, (c :: s).drop (ms (c :: s)).2) :: r) false false
            simp only [tsum, bsum, List.length_take, List.length_drop] at this ⊢
            omega
/-- A token that ends in a backslash is just that. -/
theorem nmL_all : ∀ (s : List UInt8), ∀ c ∈ s.take (nmL s), nm c = true
  | [], c, h => by simp at h
  | d :: r, c, h => by
    rw [nmL] at h
    split at h
    · rename_i hd
      rw [List.take_succ_cons] at h
      rcases List.mem_cons.1 h with rfl | h
      · exact hd
      · exact nmL_all r c h
    · simp at h
theorem nuL_all : ∀ (a : UInt8) (s : List UInt8), ∀ c ∈ s.take (nuL a s), c ≠ 92
  | a, [], c, h => by simp at h
  | a, d :: r, c, h => by
    rw [nuL] at h
    split at h
    · rename_i hd
      rw [List.take_succ_cons] at h
      rcases List.mem_cons.1 h with rfl | h
      · rintro rfl
        revert hd
        unfold nu
        simp
        decide
      · exact nuL_all d r c h
    · simp at h
theorem quL_last (q : UInt8) : ∀ (e : Bool) (s : List UInt8), 0 < quL q e s → (s.take (quL q e s)).getLast? = some q
  | true, [], h => by simp [quL] at h
  | false, [], h => by simp [quL] at h
  | true, c :: r, h => by
    rw [quL] at h ⊢
    obtain ⟨h1, h2⟩ := up_pos h
    rw [h2, List.take_succ_cons, List.getLast?_cons, quL_last q false r h1]
    rfl
  | false, c :: r, h => by
    rw [quL] at h ⊢
    split
    · rename_i hc
      rw [if_pos hc] at h
      obtain ⟨h1, h2⟩ := up_pos h
      rw [h2, List.take_succ_cons, List.getLast?_cons, quL_last q true r h1]
      rfl
    · rename_i hc
      rw [if_neg hc] at h
      split
      · rename_i hq
        simp at hq
        subst hq
        rfl
      · rename_i hq
        rw [if_neg hq] at h
        obtain ⟨h1, h2⟩ := up_pos h
        rw [h2, List.take_succ_cons, List.getLast?_cons, quL_last q false r h1]
        rfl
theorem ms_last {s : List UInt8} (hs : s ≠ []) (h0 : (ms s).2 ≠ 0) (hl : (s.take (ms s).2).getLast? = some 92) : s.take (ms s).2 = [92] := by
  cases s with
  | nil => exact absurd rfl hs
  | cons c r =>
    have hms : ms (c :: r) = ms (c :: r) := rfl
    conv at hms => rhs; rw [ms]
    rw [hms] at h0 hl ⊢
    split at hl
    · rename_i hnu
      rw [if_pos hnu] at h0 ⊢
      exfalso
      simp only [List.take_succ_cons] at hl
      have hm := List.mem_of_getLast? hl
      rcases List.mem_cons.1 hm with h | h
      · subst h; revert hnu; simp; decide
      · exact nuL_all _ _ _ h rfl
    · rename_i hnu
      rw [if_neg hnu] at h0 ⊢
      split at hl
      · rename_i hnm
        rw [if_pos hnm] at h0 ⊢
        exfalso
        simp only [List.take_succ_cons] at hl
        have hm := List.mem_of_getLast? hl
        rcases List.mem_cons.1 hm with h | h
        · subst h; revert hnm; decide
        · have := nmL_all _ _ h
          revert this; decide
      · rename_i hnm
        rw [if_neg hnm] at h0 ⊢
        split at hl
        · rename_i h39
          rw [if_pos h39] at h0 ⊢
          exfalso
          by_cases hq1 : quL 39 false r = 1
          · simp [hq1] at h0
          · simp only [hq1, if_false] at h0 hl
            obtain ⟨q2, q3⟩ := up_pos (m := quL 39 false r) (by omega)
            rw [q3, List.take_succ_cons, List.getLast?_cons, quL_last 39 false r q2] at hl
            simp at hl
        · rename_i h39
          rw [if_neg h39] at h0 ⊢
          split at hl
          · rename_i h34
            rw [if_pos h34] at h0 ⊢
            exfalso
            simp only at h0 hl
            obtain ⟨q2, q3⟩ := up_pos (m := quL 34 false r) (by omega)
            rw [q3, List.take_succ_cons, List.getLast?_cons, quL_last 34 false r q2] at hl
            simp at hl
          · rename_i h34
            rw [if_neg h34] at h0 ⊢
            split at hl
            · rename_i hsg
              rw [if_pos hsg] at h0 ⊢
              exfalso
              obtain ⟨t1, t2⟩ := sgL_top (c :: r)
              rcases t2 with t2 | t2
              · omega
              · simp only at hl
                have key : ∀ x ∈ signs, (x.contains 92) = false := by decide
                rw [pn, List.contains_iff_mem] at t2
                have h1 := key _ t2
                have h2 := List.mem_of_getLast? hl
                rw [Bool.eq_false_iff] at h1
                exact h1 (by simpa using h2)
            · rename_i hsg
              rw [if_neg hsg] at h0 ⊢
              simp only [List.take_succ_cons, List.take_zero] at hl ⊢
              simp at hl
              rw [hl]
theorem Og_tok : ∀ (a : List T) (s : List UInt8), Og s a → ∀ t ∈ a, t.s ≠ [] ∧ (t.s.getLast? = some 92 → t.s = [92])
  | [], s, _, t, h => by simp at h
  | x :: r, s, hO, t, h => by
    rcases List.mem_cons.1 h with rfl | h
    · obtain ⟨⟨h1, h2, h3, h4⟩, _⟩ := hO
      refine ⟨?_, fun h5 => ?_⟩
      · rw [h4]
        intro e
        have hne := isT_ne h1
        have := congrArg List.length e
        simp at this
        rcases this with h | h
        · exact h2 h
        · exact hne h
      · rw [h4] at h5 ⊢
        exact ms_last (isT_ne h1) h2 h5
    · cases r with
      | nil => simp at h
      | cons t2 r2 =>
        obtain ⟨s2, h3⟩ := hO.2.2
        exact Og_tok (t2 :: r2) s2 h3 t h
end Go.Proofs.YtmpkgjonbjpohaaGreatDoor.Tk
