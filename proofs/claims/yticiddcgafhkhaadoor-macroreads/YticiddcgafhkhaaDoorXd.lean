/-
  Plain lists: over tokens of a line the reference's Parse and the program's are one; the reference's Parse of a line's tokens.
-/
import Derived.Test.YticiddcgafhkhaaDoorXc
import Derived.Test.YticiddcgafhkhaaDoorV7
namespace Go.Proofs.YticiddcgafhkhaaDoor
open Go Go.RowKit
set_option linter.unusedVariables false
set_option linter.unusedSimpArgs false

/-- A token whose kind is that of its text. -/
def KdOk (t : Gt) : Prop := Tk.pn t.s = decide (t.kind = 5)
theorem sg_lx {t : Gt} (h : KdOk t) {s : List UInt8} (hs : Tk.pn s = true) : sg t s = decide (t.s = s) := by
  unfold sg
  by_cases e : t.s = s
  · have : decide (t.kind = 5) = true := by rw [← h, e]; exact hs
    rw [this, decide_eq_true e]; rfl
  · rw [decide_eq_false e]; simp
theorem lx_lex {n : Int} {s : List UInt8} {t : Gt} (h : t ∈ (Tk.lex [(n, s)]).1.map Tk.T.g) : KdOk t := by
  obtain ⟨x, hx, rfl⟩ := List.mem_map.1 h
  have := (Tk.lex_alone hx).2.1
  show Tk.pn x.s = decide (((x.kind : Nat) : Int) = 5)
  rw [this, Bool.eq_iff_iff]
  simp only [decide_eq_true_eq]
  omega
theorem goP_same : ∀ (r : List (Gt × Gt)) (acc : List (List UInt8)) (k : Nat), (∀ x ∈ r, KdOk x.1 ∧ KdOk x.2) → rgoP acc k r = goP acc k r
  | [], _, _, _ => rfl
  | (a, b) :: r, acc, k, h => by
    obtain ⟨ha, hb⟩ := h (a, b) (by simp)
    have ih := goP_same r (acc ++ [a.s]) (k + 2) (fun x hx => h x (by simp [hx]))
    rw [rgoP, goP, sg_lx hb (by decide), sg_lx hb (by decide), sg_lx ha (by decide)]
    by_cases hk : a.kind = 1
    · have hd : ¬ a.s = [46, 46, 46] := by
        intro e
        have h1 := ha
        unfold KdOk at h1
        rw [e, hk] at h1
        exact absurd h1 (by decide)
      rw [if_neg (fun hh => hd hh.1), if_pos hk, if_pos hk, ih]
      by_cases h1 : b.s = [41]
      · rw [if_pos h1, decide_eq_true h1]; rfl
      · rw [if_neg h1, decide_eq_false h1]
        by_cases h2 : b.s = [44]
        · rw [if_pos h2, decide_eq_true h2]; rfl
        · rw [if_neg h2, decide_eq_false h2]; rfl
    · rw [if_neg hk, if_neg hk]
      by_cases h1 : a.s = [46, 46, 46]
      · by_cases h2 : b.s = [41]
        · rw [if_pos ⟨h1, h2⟩, decide_eq_true h1, decide_eq_true h2]; rfl
        · rw [if_neg (fun hh => h2 hh.2), decide_eq_true h1, decide_eq_false h2]; rfl
      · rw [if_neg (fun hh => h1 hh.1), decide_eq_false h1]; rfl
theorem parP_same (l : List Gt) (h : ∀ t ∈ l, KdOk t) : rparP l = parP l := by
  match l, h with
  | [], _ => rfl
  | t :: r, h =>
    rw [rparP, parP, sg_lx (h t (by simp)) (by decide), goP_same _ _ _ (fun x hx => by have := prs_mem _ x hx; exact ⟨h _ this.1, h _ this.2⟩)]
    by_cases h1 : t.s = [41]
    · rw [if_pos h1, decide_eq_true h1]; rfl
    · rw [if_neg h1, decide_eq_false h1]; rfl
theorem headP_same (l : List Gt) (h : ∀ t ∈ l, KdOk t) : rheadP l = headP l := by
  match l, h with
  | [], _ => rfl
  | t :: r, h =>
    rw [rheadP, headP]
    have : rheadQ t.s r = headQ t.s r := by
      match r, h with
      | [], _ => rfl
      | b :: r, h =>
        rw [rheadQ, headQ, sg_lx (h b (by simp)) (by decide), parP_same r (fun x hx => h x (by simp [hx]))]
        cases hsp : b.sp
        · by_cases h1 : b.s = [40]
          · simp [h1]
          · simp [h1]
        · simp
    rw [this]
theorem parse_same (l : List Gt) (h : ∀ t ∈ l, KdOk t) : rparseM l = parseM l := by
  unfold rparseM parseM
  rw [headP_same l h]
  cases headP l with
  | none => rfl
  | some x =>
    obtain ⟨nm, fn, ps, more, body⟩ := x
    simp only [right_same]
/-- The reference's Parse of the tokens of a line. -/
theorem rParseLex_any (n : Int) (s : List UInt8) (v : Value) (base : Nat) (w : World) (hs : s.length ≤ 140737488351232) (hrow : w.ownsRow base 49 6 v (Tk.lex [(n, s)]).1.length (tokCells (Tk.lex [(n, s)]).1)) :
    Calls Tryd.prog 18 #[v] w fun e w' => ParseP w (parseM ((Tk.lex [(n, s)]).1.map Tk.T.g)) e w' := by
  have hroom := ownsRow_room hrow
  have htk := TkG.ofLex hrow
  obtain ⟨p, cap, rfl⟩ := ownsRow_slice hrow
  have hlen := Tk.lex_len [(n, s)]
  have hlx : ∀ t ∈ (Tk.lex [(n, s)]).1.map Tk.T.g, KdOk t := fun t ht => lx_lex ht
  have := rParse_any p cap ((Tk.lex [(n, s)]).1.map Tk.T.g) w (by simp; omega) (by simpa using hroom _ _ _ rfl) (by simpa using htk) (fun nm fn ps more body h => by rw [headP_same _ hlx] at h; exact fit_lexed n s hs h)
  rw [parse_same _ hlx] at this
  simpa using this
end Go.Proofs.YticiddcgafhkhaaDoor
