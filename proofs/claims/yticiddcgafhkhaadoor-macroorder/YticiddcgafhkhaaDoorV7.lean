/-
  Package macro: Parse of the tokens of a line.
-/
import Derived.Test.YticiddcgafhkhaaDoorV6
import Derived.Test.YticiddcgafhkhaaDoorLa
import Derived.Test.YticiddcgafhkhaaDoorC2
namespace Go.Proofs.YticiddcgafhkhaaDoor
open Go Go.RowKit
set_option linter.unusedVariables false
set_option linter.unusedSimpArgs false

theorem prs_mem : ∀ (l : List Gt) (x : Gt × Gt), x ∈ prs l → x.1 ∈ l ∧ x.2 ∈ l
  | [], x, h => by simp [prs] at h
  | [_], x, h => by simp [prs] at h
  | a :: b :: r, x, h => by
    simp only [prs, List.mem_cons] at h
    rcases h with rfl | h
    · simp
    · have := prs_mem r x h
      simp [this]
theorem goP_mem : ∀ (r : List (Gt × Gt)) (acc : List (List UInt8)) (k : Nat) (x : List (List UInt8) × Bool × Nat), goP acc k r = some x → (∀ p ∈ x.1, p ∈ acc ∨ ∃ y ∈ r, p = y.1.s) ∧ x.1.length ≤ acc.length + r.length
  | [], _, _, _, h => by simp [goP] at h
  | (a, b) :: r, acc, k, x, h => by
    unfold goP at h
    split at h
    · split at h
      · cases h
        refine ⟨fun p hp => ?_, by simp⟩
        simp at hp
        rcases hp with hp | rfl
        · exact .inl hp
        · exact .inr ⟨(a, b), by simp, rfl⟩
      · split at h
        · obtain ⟨h1, h2⟩ := goP_mem r _ _ x h
          refine ⟨fun p hp => ?_, by simp at h2 ⊢; omega⟩
          rcases h1 p hp with hp | ⟨y, hy, rfl⟩
          · simp at hp
            rcases hp with hp | rfl
            · exact .inl hp
            · exact .inr ⟨(a, b), by simp, rfl⟩
          · exact .inr ⟨y, by simp [hy], rfl⟩
        · cases h
    · split at h
      · split at h
        · cases h
          exact ⟨fun p hp => .inl hp, by simp⟩
        · cases h
      · cases h
theorem parP_mem (l : List Gt) (x : List (List UInt8) × Bool × Nat) (h : parP l = some x) : (∀ p ∈ x.1, ∃ t ∈ l, p = t.s) ∧ x.1.length ≤ l.length := by
  unfold parP at h
  split at h
  · cases h
  · rename_i t r
    split at h
    · cases h; simp
    · obtain ⟨h1, h2⟩ := goP_mem _ _ _ x h
      have h3 := prs_length (t :: r)
      refine ⟨fun p hp => ?_, by simp at h2 h3 ⊢; omega⟩
      rcases h1 p hp with hp | ⟨y, hy, rfl⟩
      · cases hp
      · exact ⟨y.1, (prs_mem _ y hy).1, rfl⟩
theorem headP_mem {l : List Gt} {nm : List UInt8} {fn more : Bool} {ps : List (List UInt8)} {body : List Gt} (h : headP l = some (nm, fn, ps, more, body)) :
    (∃ t ∈ l, nm = t.s) ∧ (∀ p ∈ ps, ∃ t ∈ l, p = t.s) ∧ ps.length ≤ l.length ∧ body <:+ l := by
  unfold headP at h
  split at h
  · cases h
  · rename_i t r
    split at h
    · unfold headQ at h
      split at h
      · cases h
        exact ⟨⟨t, by simp, rfl⟩, by simp, by simp, ⟨[t], by simp⟩⟩
      · rename_i b r'
        split at h
        · cases h
          exact ⟨⟨t, by simp, rfl⟩, by simp, by simp, ⟨[t], by simp⟩⟩
        · split at h
          · cases hp : parP r' with
            | none => rw [hp] at h; cases h
            | some x =>
              rw [hp] at h
              obtain ⟨h1, h2⟩ := parP_mem _ x hp
              simp only [Option.map_some, Option.some.injEq, Prod.mk.injEq] at h
              obtain ⟨rfl, rfl, rfl, rfl, rfl⟩ := h
              refine ⟨⟨t, by simp, rfl⟩, fun p hp' => ?_, by simp; omega, ?_⟩
              · obtain ⟨y, hy, rfl⟩ := h1 p hp'
                exact ⟨y, by simp [hy], rfl⟩
              · refine List.IsSuffix.trans (List.drop_suffix _ _) ⟨[t, b], by simp⟩
          · cases h
    · cases h
theorem gBulk_eq {A B : List Gt} (h : A.map (fun t => t.s.length) = B.map (fun t => t.s.length)) : gBulk A = gBulk B := by
  induction A generalizing B with
  | nil => cases B with
    | nil => rfl
    | cons => simp at h
  | cons a A ih => cases B with
    | nil => simp at h
    | cons b B =>
      simp at h
      simp only [gBulk]
      rw [h.1, ih h.2]
theorem gBulk_bare (l : List Gt) : gBulk (bareG l) = gBulk l := by
  refine gBulk_eq (List.ext_getElem (by simp [bareG]) fun i h1 h2 => ?_)
  simp [bareG, bare1]
theorem gBulk_suf {A B : List Gt} (h : A <:+ B) : gBulk A + B.length ≤ gBulk B + A.length := by
  obtain ⟨p, rfl⟩ := h
  have := gBulk_len p
  rw [gBulk_app, List.length_append]; omega
theorem gBulk_tok (E : List (Tk.T × Int)) : gBulk ((E.map Prod.fst).map Tk.T.g) = Tk.tsum E + E.length := by
  induction E with
  | nil => rfl
  | cons x r ih => simp only [List.map_cons, gBulk, Tk.tsum, Tk.T.g, ih, List.length_cons]; omega
theorem lex_bulk (n : Int) (s : List UInt8) : gBulk ((Tk.lex [(n, s)]).1.map Tk.T.g) ≤ s.length + (Tk.lex [(n, s)]).1.length := by
  by_cases h : (Tk.lex [(n, s)]).2.1 = 0
  · obtain ⟨h1, h2, _⟩ := Tk.col_fine _ _ h
    have h3 : (Tk.lex [(n, s)]).1 = (Tk.ev [(n, s)] false true).map Prod.fst := by
      have : (Tk.lex [(n, s)]).1 = [] ++ (Tk.ev [(n, s)] false true).map Prod.fst := h2
      simpa using this
    rw [h3, gBulk_tok]
    have := Tk.ev_sum (Tk.wt [(n, s)]) [(n, s)] false true
    simp [Tk.bsum] at this ⊢
    exact this
  · rw [Tk.lex_err h]; simp [gBulk]
theorem fit_lexed (n : Int) (s : List UInt8) (hs : s.length ≤ 140737488351232) {nm : List UInt8} {fn more : Bool} {ps : List (List UInt8)} {body : List Gt}
    (h : headP ((Tk.lex [(n, s)]).1.map Tk.T.g) = some (nm, fn, ps, more, body)) : McFits ⟨nm, fn, ps, more, bareG body⟩ ∧ body.length ≤ ((Tk.lex [(n, s)]).1.map Tk.T.g).length := by
  obtain ⟨⟨t, ht, rfl⟩, h2, h3, h4⟩ := headP_mem h
  have hlen := Tk.lex_len [(n, s)]
  have hT : ∀ g ∈ (Tk.lex [(n, s)]).1.map Tk.T.g, g.s.length ≤ s.length + 1 := fun g hg => by
    obtain ⟨x, hx, rfl⟩ := List.mem_map.1 hg
    have := Tk.lex_short hx
    simpa [Tk.wt, Tk.T.g] using this
  have hb := h4.length_le
  refine ⟨⟨?_, ?_, fun p hp => ?_, ?_, fun h5 => ?_⟩, hb⟩
  · have := hT t ht; simp; omega
  · simp at h3 ⊢; omega
  · obtain ⟨g, hg, rfl⟩ := h2 p hp
    have := hT g hg; omega
  · simp [bareG] at hb ⊢; omega
  · have h6 := spG_bulk (bareG body)
    rw [gBulk_bare] at h6
    have h7 := gBulk_suf h4
    have h8 := lex_bulk n s
    simp [bareG] at hb h5 h6 h7 ⊢
    omega
theorem tokC_gL (t : Tk.T) : tokC t = gL t.g := rfl
theorem tokCells_g (l : List Tk.T) : tokCells l = gCells (l.map Tk.T.g) := by
  induction l with
  | nil => rfl
  | cons t r ih => simp only [tokCells, gCells, List.flatMap_cons, List.map_cons] at ih ⊢; rw [ih]; rfl
theorem TkG.ofLex {W : World} {base : Nat} {v : Value} {l : List Tk.T} (h : W.ownsRow base 49 6 v l.length (tokCells l)) : TkG W.heap.size W v (l.map Tk.T.g) := (TkS.of h rfl).toG

/-- Parse of the tokens of a line. -/
theorem ParseLex_any (n : Int) (s : List UInt8) (v : Value) (base : Nat) (w : World) (hs : s.length ≤ 140737488351232) (hrow : w.ownsRow base 49 6 v (Tk.lex [(n, s)]).1.length (tokCells (Tk.lex [(n, s)]).1)) (hw0 : 1 < w.heap.size) (hsg : Sg w) :
    Calls Tryd.prog 17 #[v] w fun e w' => ParseP w (parseM ((Tk.lex [(n, s)]).1.map Tk.T.g)) e w' := by
  have hroom := ownsRow_room hrow
  have htk := TkG.ofLex hrow
  obtain ⟨p, cap, rfl⟩ := ownsRow_slice hrow
  have hlen := Tk.lex_len [(n, s)]
  have := Parse_any p cap ((Tk.lex [(n, s)]).1.map Tk.T.g) w (by simp; omega) (by simpa using hroom _ _ _ rfl) (by simpa using htk) (fun nm fn ps more body h => fit_lexed n s hs h) hw0 hsg
  simpa using this
end Go.Proofs.YticiddcgafhkhaaDoor
