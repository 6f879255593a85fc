/-
  Plain lists: the number of a line makes no difference to its tokens but for their lines; which macros are right by both readings.
-/
import Derived.Test.YticiddcgafhkhaaGreatDoorX2
namespace Go.Proofs.YticiddcgafhkhaaGreatDoor
set_option linter.unusedVariables false
set_option linter.unusedSimpArgs false
namespace Tk
def rT (n : Int) (t : T) : T := ⟨t.kind, t.s, n, t.sp, t.fi⟩
def rE (n : Int) (x : T × Int) : T × Int := (rT n x.1, x.2)
theorem evF_line (n m : Int) : ∀ (f : Nat) (s : List UInt8) (sp fi : Bool), evF f [(n, s)] sp fi = (evF f [(m, s)] sp fi).map (rE n)
  | 0, _, _, _ => rfl
  | f + 1, [], sp, fi => by
    rw [evF, evF]
    cases f <;> rfl
  | f + 1, c :: s, sp, fi => by
    rw [evF, evF]
    split
    · cases f <;> rfl
    · split
      · have hcl : ∀ k : Int, cl [(k, s.drop 1)] = (fc (s.drop 1)).map (fun t => [(k, t)]) := fun k => by rw [cl]; cases fc (s.drop 1) <;> rfl
        rw [hcl, hcl]
        cases ht : fc (s.drop 1) with
        | none => rfl
        | some t => exact evF_line n m f t true fi
      · split
        · exact evF_line n m f s true fi
        · split
          · simp [er, rE, rT]
          · rw [List.map_cons, evF_line n m f _ false false]
            simp [rE, rT]
theorem col_line (n : Int) : ∀ (e : List (T × Int)) (out : List T), (col (out.map (rT n)) (e.map (rE n))).1 = (col out e).1.map (rT n) ∧ (col (out.map (rT n)) (e.map (rE n))).2.1 = (col out e).2.1
  | [], out => by simp [col]
  | (t, er) :: r, out => by
    simp only [List.map_cons, rE]
    rw [col, col]
    split
    · rw [List.length_map]
      split
      · have := col_line n r (out ++ [t])
        simpa using this
      · simp
    · simp
theorem lex_line (n m : Int) (s : List UInt8) : (lex [(n, s)]).1 = (lex [(m, s)]).1.map (rT n) ∧ (lex [(n, s)]).2.1 = (lex [(m, s)]).2.1 := by
  have h1 : ev [(n, s)] false true = (ev [(m, s)] false true).map (rE n) := evF_line n m _ s false true
  have h2 := col_line n (ev [(m, s)] false true) []
  unfold lex
  rw [h1]
  simpa using h2
end Tk
theorem bareG_rT (n : Int) (l : List Tk.T) : bareG ((l.map (Tk.rT n)).map Tk.T.g) = bareG (l.map Tk.T.g) := by
  refine List.ext_getElem (by simp [bareG]) fun i h1 h2 => ?_
  simp [bareG, bare1, Tk.T.g, Tk.rT]
theorem bareG_idem (l : List Gt) : bareG (bareG l) = bareG l := by
  refine List.ext_getElem (by simp [bareG]) fun i h1 h2 => ?_
  simp [bareG, bare1]
theorem bare_lex (n m : Int) (s : List UInt8) : bareG ((Tk.lex [(n, s)]).1.map Tk.T.g) = bareG ((Tk.lex [(m, s)]).1.map Tk.T.g) := by
  rw [(Tk.lex_line n m s).1, bareG_rT]
theorem spelt_same (l : List Gt) : rspeltB l = speltB l := by
  unfold rspeltB speltB
  rw [bare_lex 0 1]
  rw [Bool.eq_iff_iff]
  simp only [Bool.and_eq_true, decide_eq_true_eq, beq_iff_eq]
  constructor
  · rintro ⟨_, _, h⟩; exact h.symm
  · intro h
    refine ⟨?_, ?_, h.symm⟩
    · rw [← h, bareG_idem]
    · by_cases he : (Tk.lex [(1, spG l)]).2.1 = 0
      · exact he
      · rw [Tk.lex_err he] at h
        simp [bareG] at h
        subst h
        exact absurd rfl he
/-- A token of a line that is spelt as a name is one. -/
theorem spelt_kind {l : List Gt} (h : speltB l = true) {t : Gt} (ht : t ∈ l) : nmB ⟨t.s.toArray⟩ = decide (t.kind = 1) := by
  unfold speltB at h
  have h' := of_decide_eq_true h
  obtain ⟨i, hi, rfl⟩ := List.mem_iff_getElem.1 ht
  have hi2 : i < (bareG ((Tk.lex [(0, spG l)]).1.map Tk.T.g)).length := by rw [h']; exact hi
  have e : l[i] = (bareG ((Tk.lex [(0, spG l)]).1.map Tk.T.g))[i] := by simp only [h']
  rw [bareG_at] at e
  have hi3 : i < (Tk.lex [(0, spG l)]).1.length := by simpa [bareG] using hi2
  have hm : (Tk.lex [(0, spG l)]).1[i] ∈ (Tk.lex [(0, spG l)]).1 := List.getElem_mem _
  obtain ⟨h1, _, _⟩ := Tk.lex_alone hm
  rw [e]
  simp only [bare1, List.getElem_map, Tk.T.g]
  unfold nmB lex1
  simp only [List.toList_toArray]
  rw [h1]
  simp
theorem okB_same {fn more : Bool} {ps : List (List UInt8)} {l : List Gt} (hsp : speltB l = true) (hp : rpB ps = true) {i : Nat} (hi : i < l.length) : rokB fn more ps l i = okB fn more ps l i := by
  have hps : ∀ p ∈ ps, nmB ⟨p.toArray⟩ = true := by
    intro p hp'
    obtain ⟨j, hj, rfl⟩ := List.mem_iff_getElem.1 hp'
    unfold rpB at hp
    simp only [Bool.and_eq_true, List.all_eq_true] at hp
    have := hp.2 j (List.mem_range.2 hj)
    rw [okP_at hj] at this
    simp only [Bool.and_eq_true] at this
    exact this.1.1
  have hva : nmB ⟨vaS.toArray⟩ = true := by kernel_rfl
  have hno : nmB ⟨([] : List UInt8).toArray⟩ = false := by kernel_rfl
  have key : takesB more ps (nearS l ((i : Int) + 1)) = rnx more ps l[i + 1]? := by
    have hn : nearS l ((i : Int) + 1) = match l[i + 1]? with | some t => t.s | none => [] := by
      unfold nearS
      rw [if_neg (by omega), show ((i : Int) + 1).toNat = i + 1 by omega]
      cases l[i + 1]? <;> rfl
    rw [hn]
    cases he : l[i + 1]? with
    | none =>
      simp only [rnx, takesB]
      have h1 : ([] : List UInt8) ∉ ps := fun h => by have := hps _ h; rw [hno] at this; cases this
      have h2 : ¬ (([] : List UInt8) = vaS) := by decide
      simp [h1, h2]
    | some t =>
      have ht : t ∈ l := List.mem_of_getElem? he
      have hk := spelt_kind hsp ht
      simp only [rnx, takesB, rparB]
      by_cases h1 : t.s ∈ ps
      · have h3 := hps _ h1
        rw [hk] at h3
        rw [h3, decide_eq_true h1]; simp
      · rw [decide_eq_false h1]
        by_cases h2 : t.s = vaS
        · have h3 : nmB ⟨t.s.toArray⟩ = true := by rw [h2]; exact hva
          rw [hk] at h3
          rw [h3, decide_eq_true h2]; simp
        · rw [decide_eq_false h2]; simp
  unfold rokB okB
  rw [key]
  by_cases h1 : nearS l i = vaS
  · have h2 : nearS l i ≠ [35] := by rw [h1]; decide
    rw [decide_eq_true h1, decide_eq_false h2, if_pos h1]
    cases more <;> cases fn <;> simp
  · by_cases h2 : nearS l i = [35]
    · simp only [h2]
      have h3 : ¬ (([35] : List UInt8) = vaS) := by decide
      simp [h3]
    · simp [h1, h2]
theorem body_same {fn more : Bool} {ps : List (List UInt8)} {l : List Gt} (hp : rpB ps = true) : rbodyB fn more ps l = rbB fn more ps l := by
  unfold rbodyB rbB
  rw [spelt_same]
  cases hs : speltB l with
  | false => simp
  | true =>
    have : (List.range l.length).all (rokB fn more ps l) = (List.range l.length).all (okB fn more ps l) := by
      rw [Bool.eq_iff_iff, List.all_eq_true, List.all_eq_true]
      constructor
      · intro h x hx; rw [← okB_same hs hp (List.mem_range.1 hx)]; exact h x hx
      · intro h x hx; rw [okB_same hs hp (List.mem_range.1 hx)]; exact h x hx
    rw [this]
theorem right_same (m : Mc) : rrightM m = rightM m := by
  unfold rrightM rightM
  cases hp : rpB m.ps with
  | false => simp
  | true => rw [body_same hp]
end Go.Proofs.YticiddcgafhkhaaGreatDoor
