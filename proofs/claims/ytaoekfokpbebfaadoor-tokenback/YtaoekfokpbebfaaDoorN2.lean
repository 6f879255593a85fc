/-
  Plain lists: tokens of a text, spelt, and read once more, are the same but for their lines, and for the Space of First ones.
-/
import Derived.Test.YtaoekfokpbebfaaDoorN1
namespace Go.Proofs.YtaoekfokpbebfaaDoor
set_option linter.unusedSimpArgs false
set_option linter.unusedVariables false
open Tk

def okB (c : UInt8) : Prop := c ≠ 13 ∧ c ≠ 10
theorem plF_good : ∀ (f : Nat) (cur r : List UInt8), (∀ c ∈ cur, okB c) → ∀ x ∈ Sx.Tx.plF f cur r, ∀ c ∈ x, okB c := by
  intro f
  induction f with
  | zero =>
    intro cur r h x hx
    rw [Sx.Tx.plF] at hx
    split at hx
    · simp at hx
    · simp at hx; subst hx; exact h
  | succ f ih =>
    intro cur r h x hx
    rw [Sx.Tx.plF] at hx
    split at hx
    · split at hx
      · simp at hx
      · simp at hx; subst hx; exact h
    · split at hx
      · rename_i hr hl
        refine ih _ _ (fun c hc => ?_) x hx
        rcases List.mem_append.1 hc with hc | hc
        · exact h c hc
        · cases r with
          | nil => simp at hc
          | cons d r =>
            simp at hc
            subst hc
            rw [Sx.Tx.ler_cons] at hl
            refine ⟨fun e => ?_, fun e => ?_⟩
            · subst e; simp at hl; split at hl <;> omega
            · subst e; simp at hl
      · rcases List.mem_cons.1 hx with rfl | hx
        · exact h
        · exact ih _ _ (fun c hc => by simp at hc) x hx
theorem lg_good : ∀ (L : List (List UInt8)) (n f : Nat) (w : List UInt8), (∀ c ∈ w, okB c) → (∀ x ∈ L, ∀ c ∈ x, okB c) → ∀ y ∈ Sx.Tx.lg n f w L, ∀ c ∈ y.2, okB c
  | [], n, f, w, hw, hL, y, hy => by simp [Sx.Tx.lg] at hy
  | x :: r, n, f, w, hw, hL, y, hy => by
    rw [Sx.Tx.lg] at hy
    split at hy
    · refine lg_good r _ _ _ (fun c hc => ?_) (fun z hz => hL z (List.mem_cons_of_mem _ hz)) y hy
      rcases List.mem_append.1 hc with hc | hc
      · exact hw c hc
      · exact hL x (by simp) c (List.mem_of_mem_take hc)
    · rcases List.mem_cons.1 hy with rfl | hy
      · intro c hc
        rcases List.mem_append.1 hc with hc | hc
        · exact hw c hc
        · exact hL x (by simp) c hc
      · exact lg_good r _ _ _ (fun c hc => by simp at hc) (fun z hz => hL z (List.mem_cons_of_mem _ hz)) y hy
theorem lines_good (d : List UInt8) : ∀ y ∈ Sx.Tx.lines d, ∀ c ∈ y.2, okB c := by
  rw [Sx.Tx.lines_lg]
  exact lg_good _ _ _ _ (fun c hc => by simp at hc) (plF_good _ _ _ (fun c hc => by simp at hc))
def lsum : List (List UInt8) → Nat
  | [] => 0
  | x :: r => x.length + lsum r
def nsum : List (Nat × List UInt8) → Nat
  | [] => 0
  | x :: r => x.2.length + nsum r
theorem plF_sum : ∀ (f : Nat) (cur r : List UInt8), lsum (Sx.Tx.plF f cur r) ≤ cur.length + r.length := by
  intro f
  induction f with
  | zero =>
    intro cur r
    rw [Sx.Tx.plF]
    split <;> simp [lsum]
  | succ f ih =>
    intro cur r
    rw [Sx.Tx.plF]
    split
    · split <;> simp [lsum]
    · split
      · have := ih (cur ++ r.take 1) (r.drop 1)
        rw [List.length_append, List.length_take, List.length_drop] at this
        omega
      · have := ih [] (r.drop (Sx.Tx.ler r))
        rw [List.length_drop] at this
        simp [lsum] at this ⊢
        omega
theorem lg_sum : ∀ (L : List (List UInt8)) (n f : Nat) (w : List UInt8), nsum (Sx.Tx.lg n f w L) ≤ w.length + lsum L
  | [], n, f, w => by simp [Sx.Tx.lg, nsum]
  | x :: r, n, f, w => by
    rw [Sx.Tx.lg]
    split
    · have := lg_sum r (n + 1) f (w ++ Sx.Tx.cutB x)
      simp [lsum, Sx.Tx.cutB] at this ⊢
      omega
    · have := lg_sum r (n + 1) (n + 1 + 1) []
      simp [lsum, nsum] at this ⊢
      omega
theorem lines_sum (d : List UInt8) : nsum (Sx.Tx.lines d) ≤ d.length := by
  rw [Sx.Tx.lines_lg]
  have h1 := lg_sum (Sx.Tx.pl [] d) 0 1 []
  have h2 := plF_sum d.length [] d
  unfold Sx.Tx.pl at h1 ⊢
  simp at h1 h2
  omega
theorem asL_lnOf (d : List UInt8) : asL (lnOf d) = (Sx.Tx.lines d).map fun x => ((x.1 : Int), x.2) := by
  unfold asL lnOf
  rw [List.map_map]
  rfl
theorem bsum_lnOf (d : List UInt8) : bsum (asL (lnOf d)) ≤ d.length := by
  rw [asL_lnOf]
  have := lines_sum d
  have key : ∀ l : List (Nat × List UInt8), bsum (l.map fun x => ((x.1 : Int), x.2)) = nsum l := by
    intro l
    induction l with
    | nil => rfl
    | cons x l ih => simp [bsum, nsum] at ih ⊢; omega
  rw [key]
  exact this
theorem gBulk_tsum : ∀ (E : List (T × Int)), (∀ x ∈ E, x.1.s ≠ []) → gBulk ((E.map Prod.fst).map T.g) ≤ 2 * tsum E
  | [], _ => by simp [gBulk]
  | x :: r, h => by
    have ih := gBulk_tsum r (fun y hy => h y (List.mem_cons_of_mem _ hy))
    have h1 := List.length_pos_iff.2 (h x (by simp))
    simp only [List.map_cons, gBulk, tsum, T.g] at ih ⊢
    omega

theorem back_list (d : List UInt8) (hd : d.length ≤ 20000) (hok : (lex (asL (lnOf d))).2.1 = 0) (hno : ∀ t ∈ (lex (asL (lnOf d))).1, t.s ≠ [92]) :
    (spG ((lex (asL (lnOf d))).1.map T.g)).length ≤ 65536 ∧ ∃ B, lex (asL (lnOf (spG ((lex (asL (lnOf d))).1.map T.g)))) = (B, 0, 0) ∧ Alk ((lex (asL (lnOf d))).1.map T.g) (B.map T.g) := by
  obtain ⟨h1, h2, _, _⟩ := col_fine _ _ hok
  have hlen := lex_len (asL (lnOf d))
  have h2' : (lex (asL (lnOf d))).1 = (ev (asL (lnOf d)) false true).map Prod.fst := by
    show (col [] (ev (asL (lnOf d)) false true)).1 = _
    rw [h2, List.nil_append]
  have hst := (ev_st _ _ _ _ h1).2
  have hby : ∀ t ∈ (lex (asL (lnOf d))).1, ∀ c ∈ t.s, okB c := by
    rw [h2']
    intro t ht
    obtain ⟨x, hx, rfl⟩ := List.mem_map.1 ht
    refine ev_bytes okB _ _ _ _ (fun y hy => ?_) x hx
    rw [asL_lnOf] at hy
    obtain ⟨z, hz, rfl⟩ := List.mem_map.1 hy
    exact lines_good d z hz
  have hsum := ev_sum (wt (asL (lnOf d))) (asL (lnOf d)) false true
  have hbs := bsum_lnOf d
  have e : evF (wt (asL (lnOf d))) (asL (lnOf d)) false true = ev (asL (lnOf d)) false true := rfl
  rw [e] at hst hsum
  rw [← h2'] at hst
  generalize hL : (lex (asL (lnOf d))).1 = L at *
  generalize hE : ev (asL (lnOf d)) false true = E at *
  clear e hE hL h2 h1 hok
  rcases hst with rfl | ⟨t, r, rfl, _, hfi, s2, hO⟩
  · refine ⟨by simp [spG, spP], [], ?_, rfl, fun i h => by simp at h⟩
    rfl
  · have hfi' := hfi rfl
    have htok := Og_tok _ _ hO
    have hbulk : (spG ((t :: r).map T.g)).length ≤ 65536 := by
      have a1 := spG_bulk ((t :: r).map T.g)
      have a2 := gBulk_tsum E (fun x hx => by
        have : x.1 ∈ t :: r := by rw [h2']; exact List.mem_map.2 ⟨x, hx, rfl⟩
        exact (htok _ this).1)
      rw [← h2'] at a2
      omega
    refine ⟨hbulk, ?_⟩
    rw [sQ_spG, sQ_rws]
    have hflat := rws_flat (t :: r)
    obtain ⟨hr1, hr2⟩ := rws_row (t :: r)
    have hrn := rws_ne (t :: r)
    have hrows : ∀ a ∈ rws (t :: r), a ≠ [] ∧ row a ∧ ∃ s, Og s a := by
      intro a ha
      refine ⟨hrn a ha, hr2 a ha, ?_⟩
      obtain ⟨xs, ys, hxy⟩ := List.append_of_mem ha
      have hf : t :: r = xs.flatten ++ (a ++ ys.flatten) := by rw [← hflat, hxy]; simp
      rw [hf] at hO
      obtain ⟨s3, h3⟩ := Og_drop _ _ _ hO (by
        have := hrn a ha
        simp [this])
      exact ⟨s3, Og_pre _ _ _ h3⟩
    have hmem : ∀ a ∈ rws (t :: r), ∀ u ∈ a, u ∈ t :: r := fun a ha u hu => by rw [← hflat]; exact List.mem_flatten.2 ⟨a, ha, hu⟩
    have hheads : ∀ a ∈ rws (t :: r), ∃ t0 r0, a = t0 :: r0 ∧ t0.fi = true ∧ ∀ x ∈ r0, x.fi = false := by
      intro a ha
      cases hx : rws (t :: r) with
      | nil => rw [hx] at ha; simp at ha
      | cons x y =>
        obtain ⟨q1, t0, r0, r2, q2, q3⟩ := hr1 x y hx
        have hra := hr2 a ha
        rw [hx] at ha
        rcases List.mem_cons.1 ha with rfl | ha
        · simp only [List.cons.injEq] at q3
          obtain ⟨rfl, _⟩ := q3
          subst q2
          exact ⟨t, r0, rfl, hfi', hra⟩
        · obtain ⟨t1, r1, rfl, q4⟩ := q1 a ha
          exact ⟨t1, r1, rfl, q4, hra⟩
    have hok : ∀ a ∈ rws (t :: r), (∀ c ∈ tx [32] [] a, c ≠ 13 ∧ c ≠ 10) ∧ Sx.Tx.bsB (tx [32] [] a) = false ∧ tx [32] [] a ≠ [] := by
      intro a ha
      have hne : ∀ u ∈ a, u.s ≠ [] := fun u hu => (htok u (hmem a ha u hu)).1
      refine ⟨tx_bytes okB (by constructor <;> decide) a (fun u hu => hby u (hmem a ha u hu)), ?_, ?_⟩
      · rw [Bool.eq_false_iff]
        intro hb
        rw [Sx.Tx.bsB_last] at hb
        obtain ⟨u, hu, e⟩ := tx_last a (hrn a ha) hne
        rw [hb] at e
        exact hno u (hmem a ha u hu) ((htok u (hmem a ha u hu)).2 e.symm)
      · obtain ⟨t0, r0, rfl, _, _⟩ := hheads a ha
        rw [tx_tlx]
        have := hne t0 (by simp)
        simp [this]
    have hnum : asL (lnOf (jr (rws (t :: r)))) = numL 0 (rws (t :: r)) := by
      rw [asL_lnOf, lines_jr _ hok]
      rfl
    refine ⟨(ntr 0 (rws (t :: r))).map Prod.fst, ?_, ?_⟩
    · rw [hnum, lex, ev_num _ 0 hrows, col_of_fine _ _ (ntr_fine _ _) (by rw [ntr_length, hflat]; simpa using hlen)]
      simp
    · have := alk_ntr (rws (t :: r)) 0 hheads
      rw [hflat] at this
      exact this
end Go.Proofs.YtaoekfokpbebfaaDoor
