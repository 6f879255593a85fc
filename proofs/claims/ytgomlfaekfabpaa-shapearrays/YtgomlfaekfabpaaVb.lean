/-
  ShapeLies: the numbers.
-/
import Derived.Test.YtgomlfaekfabpaaVa
namespace Go.Proofs.Ytgomlfaekfabpaa
open Go Go.RowKit Go.Shelf
set_option linter.unusedVariables false

theorem ml_congr {f g : ShT → Int × Int} (pk st : Bool) : ∀ (l : List (FdOf ShT)) (en : Int), (∀ x ∈ l, f x.t = g x.t) → mlM f pk st en l = mlM g pk st en l
  | [], _, _ => rfl
  | x :: r, en, h => by
    rw [mlM, mlM, h x (by simp), ml_congr pk st r _ (fun y hy => h y (by simp [hy]))]
theorem rig_up : ∀ (d : Nat) (t : ShT), rigM d t = true → rigM (d + 1) t = true ∧ meaM (d + 1) t = meaM d t
  | 0, _, h => by cases h
  | d + 1, t, h => by
    obtain ⟨hf, hp⟩ := rig_form h
    refine ⟨?_, ?_⟩
    · rw [rigM, hf, Bool.true_and]
      exact List.all_eq_true.2 (fun x hx => (rig_up d x (hp x hx)).1)
    · rw [meaM, meaM]
      split
      · rfl
      · split
        · rfl
        · split
          · cases hof : t.of with
            | nil => rfl
            | cons x r =>
              have hx := hp x (by unfold ShT.parts; rw [hof]; simp)
              simp only [(rig_up d x hx).2]
          · unfold ShT.ml
            rw [ml_congr _ _ _ _ (fun f hfm => (rig_up d f.t (hp _ (fs_part hfm))).2)]
theorem ml_mem (meas : ShT → Int × Int) (pk st : Bool) : ∀ (l : List (FdOf ShT)) (en : Int), 0 ≤ en → (∀ f ∈ l, FOk f (meas f.t)) → ∀ x ∈ mlM meas pk st en l, x.1 ∈ l ∧ ∃ en', 0 ≤ en' ∧ (st = false → en' = en) ∧ x.2 = layM (meas x.1.t) x.1 en' pk
  | [], _, _, _, x, hx => by cases hx
  | f :: r, en, h0, hok, x, hx => by
    rw [mlM] at hx
    obtain ⟨b1, b2, b3, b4, _, _⟩ := lay_bound (hok f (by simp)) h0 pk
    rcases List.mem_cons.1 hx with rfl | hx
    · exact ⟨by simp, en, h0, fun _ => rfl, rfl⟩
    · obtain ⟨h1, en', h2, h3, h4⟩ := ml_mem meas pk st r _ (by split <;> omega) (fun g hg => hok g (by simp [hg])) x hx
      refine ⟨by simp [h1], en', h2, fun hs => ?_, h4⟩
      rw [h3 hs, hs]
      rfl
/-- In a struct they rise. -/
theorem ml_rise (meas : ShT → Int × Int) (pk : Bool) : ∀ (l : List (FdOf ShT)) (en : Int), 0 ≤ en → (∀ f ∈ l, FOk f (meas f.t)) → ∀ (i : Nat) (h : i < (mlM meas pk true en l).length),
    (if h0 : i = 0 then en else ((mlM meas pk true en l)[i - 1]'(by omega)).2.bit + ((mlM meas pk true en l)[i - 1]'(by omega)).2.bits) ≤ (mlM meas pk true en l)[i].2.bit
  | [], _, _, _, i, h => by simp [mlM] at h
  | f :: r, en, h0, hok, i, h => by
    obtain ⟨b1, b2, b3, b4, _, _⟩ := lay_bound (hok f (by simp)) h0 pk
    cases i with
    | zero => simp only [mlM, dif_pos, List.getElem_cons_zero]; exact b1
    | succ i =>
      have ih := ml_rise meas pk r ((layM (meas f.t) f en pk).bit + (layM (meas f.t) f en pk).bits) (by omega) (fun g hg => hok g (by simp [hg])) i (by simpa [mlM] using h)
      simp only [mlM, if_true, List.getElem_cons_succ]
      cases i with
      | zero => simpa using ih
      | succ i => simpa using ih
theorem enF_mem : ∀ (l : List (FdOf ShT × Mb)) (x : FdOf ShT × Mb), x ∈ l → x.2.bit + x.2.bits ≤ enF l := by
  intro l x hx
  unfold enF
  have mono : ∀ (l : List (FdOf ShT × Mb)) (a : Int), a ≤ l.foldl (fun a x => max a (x.2.bit + x.2.bits)) a := by
    intro l
    induction l with
    | nil => intro a; exact Int.le_refl _
    | cons y r ih => intro a; exact Int.le_trans (by omega) (ih (max a (y.2.bit + y.2.bits)))
  suffices ∀ a, x.2.bit + x.2.bits ≤ l.foldl (fun a x => max a (x.2.bit + x.2.bits)) a from this 0
  induction l with
  | nil => cases hx
  | cons y r ih =>
    intro a
    rcases List.mem_cons.1 hx with rfl | hx
    · exact Int.le_trans (by omega) (mono r (max a (x.2.bit + x.2.bits)))
    · exact ih hx _
theorem alF_le (a0 : Int) : ∀ (l : List (FdOf ShT × Mb)), a0 ≤ alF a0 l := by
  intro l
  unfold alF
  have mono : ∀ (l : List (FdOf ShT × Mb)) (a : Int), a ≤ l.foldl (fun a x => max a x.2.al) a := by
    intro l
    induction l with
    | nil => intro a; exact Int.le_refl _
    | cons y r ih => intro a; exact Int.le_trans (by omega) (ih (max a y.2.al))
  exact Int.le_trans (by omega) (mono l (max 1 a0))
theorem upM_mul (n u : Int) : upM n u % u = 0 := by unfold upM; exact Int.mul_emod_left _ _
theorem good_of {f : FdOf ShT} {e : Int × Int} {en : Int} (h0 : 0 ≤ en) (hok : FOk f e) (hk : 0 ≤ f.bits → e.1 = sizM f.t.k) : Good f (layM e f en false) e.1 e.2 := by
  obtain ⟨o1, o2, o3, o4, o5⟩ := hok
  refine ⟨fun hb => ?_, fun hb => ?_, fun hb => ?_⟩
  · unfold layM
    rw [if_neg (by omega)]
    simp only [Bool.false_eq_true, if_false]
    exact ⟨upM_mul _ _, trivial⟩
  · unfold layM layB
    rw [if_pos (by omega), hb, ← hk (by omega)]
    simp only [beq_self_eq_true, Bool.true_or, if_true]
    exact upM_mul _ _
  · obtain ⟨q1, q2, q3⟩ := o5 (by omega)
    have hz := hk (by omega)
    have hc := siz_cases f.t.k
    unfold layM layB
    rw [if_pos (by omega), ← hz]
    simp only [Bool.not_false, Bool.and_true]
    have hn0 : (f.bits == 0) = false := by simp; omega
    rw [hn0, Bool.false_or]
    have htd : (en + f.bits - 1).tdiv (8 * e.1) = (en + f.bits - 1) / (8 * e.1) := Int.tdiv_eq_ediv_of_nonneg (by omega)
    rw [htd]
    have hm := upM_mul en (8 * e.1)
    have hu := upM_le (n := en) (m := 8 * e.1) h0 (by omega)
    generalize upM en (8 * e.1) = U at *
    have he : e.1 = 1 ∨ e.1 = 2 ∨ e.1 = 4 ∨ e.1 = 8 := by omega
    split
    · rcases he with he | he | he | he <;> rw [he] at hm hu q3 ⊢ <;> omega
    · rename_i hcr
      simpa using hcr
end Go.Proofs.Ytgomlfaekfabpaa
