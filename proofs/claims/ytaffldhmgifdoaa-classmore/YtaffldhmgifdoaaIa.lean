/-
  Package class: the numbers. Where a number within a type lies; what a type is aligned to.
-/
import Derived.Test.YtaffldhmgifdoaaZ12
namespace Go.Proofs.Ytaffldhmgifdoaa
open Go Go.RowKit Go.Shelf
set_option linter.unusedVariables false
set_option linter.unusedSimpArgs false

/-- What is known of a number within a type of so many bits. -/
def LfOk (fr z : Int) (m : Mb) : Prop := fr ≤ m.bit ∧ m.bit + m.bits ≤ fr + z ∧ 0 < m.bits ∧ m.bits ≤ 64 ∧ 0 < sizM m.k ∧ m.bits ≤ 8 * sizM m.k
theorem lea_in : ∀ (d : Nat) (t : ShT) (fr : Int), rigM d t = true → (meaM d t).1 ≤ 65536 → ∀ m ∈ leaM d t fr, LfOk fr (8 * (meaM d t).1) m
  | 0, _, _, h, _ => by cases h
  | d + 1, t, fr, h, hsm => by
    obtain ⟨hfo, hpt⟩ := rig_form h
    intro m hm
    rw [meaM] at hsm ⊢
    rw [leaM] at hm
    unfold LfOk
    cases h1 : t.sh == 1
    · cases h2 : t.sh == 2
      · cases h3 : t.sh == 3
        · simp only [h1, h2, h3, Bool.false_eq_true, if_false] at hm hsm ⊢
          obtain ⟨_, _, _, _, ha, hs⟩ := form_struct hfo h1 h2 h3
          obtain ⟨f1, f2, f3, _⟩ := ffs_all hs
          have hok : ∀ f ∈ t.fs, FOk f (meaM d f.t) := fun f hfm => fok_of (mea_ok d) (f3 f hfm) (hpt _ (fs_part hfm))
          obtain ⟨x, hx, hmx⟩ := List.mem_flatMap.1 hm
          have hmo := ml_ok (meaM d) t.pk (t.sh == 4) t.fs 0 0 hok (by omega) (by omega) (by omega)
          obtain ⟨m1, m2, m3, _, _⟩ := hmo x hx
          have hen := enF_ok _ hmo
          have hao := alF_ok t.al (ali_le ha).2 _ hmo
          have hle : x.2.bit + x.2.bits ≤ enF (mlM (meaM d) t.pk (t.sh == 4) 0 t.fs) := enF_mem _ x hx
          obtain ⟨hxm, en, h0, _, he⟩ := ml_mem (meaM d) t.pk (t.sh == 4) t.fs 0 (by omega) hok x hx
          have hff := f3 x.1 hxm
          have hrx := hpt _ (fs_part hxm)
          have hbig : x.2.bit + x.2.bits ≤ 8 * (memM t (t.ml (meaM d))).1 := by
            unfold memM at hsm ⊢
            simp only at hsm ⊢
            unfold ShT.ml at hsm ⊢
            obtain ⟨p1, p2, p3⟩ := upM_le (n := enF (mlM (meaM d) t.pk (t.sh == 4) 0 t.fs)) (m := 8) hen.1 (by omega)
            obtain ⟨p4, p5, _⟩ := upM_le (n := upM (enF (mlM (meaM d) t.pk (t.sh == 4) 0 t.fs)) 8 / 8) (m := alF t.al (mlM (meaM d) t.pk (t.sh == 4) 0 t.fs)) (by omega) hao.1
            omega
          split at hmx
          · cases hmx
          · rename_i hb0
            split at hmx
            · rename_i hbp
              simp only [List.mem_singleton] at hmx
              subst hmx
              simp only
              unfold ffM at hff
              rw [if_neg (by omega)] at hff
              split at hff
              · cases hff
              · simp only [Bool.and_eq_true, decide_eq_true_eq] at hff
                have hbits : x.2.bits = x.1.bits := by rw [he]; unfold layM; rw [if_pos (by omega)]; rfl
                have hk : x.2.k = x.1.t.k := by rw [he]; unfold layM; rw [if_pos (by omega)]; rfl
                rw [hk]
                have hsz : 0 < sizM x.1.t.k := by
                  cases d with
                  | zero => cases hrx
                  | succ d => exact (form_int (rig_form hrx).1 hff.1).1
                have hc := siz_cases x.1.t.k
                omega
            · rename_i hbn
              have hsx : (meaM d x.1.t).1 ≤ 65536 := by
                apply Classical.byContradiction
                intro hc
                have := big_mem hok f1 (ali_le ha).2 hxm (by omega)
                omega
              have hb0' : ¬ x.1.bits = 0 := by simpa using hb0
              have hbits : x.2.bits = 8 * (meaM d x.1.t).1 := by rw [he]; unfold layM; rw [if_neg (by omega)]
              obtain ⟨q1, q2, q3, q4, q5, q6⟩ := lea_in d x.1.t _ hrx hsx m hmx
              refine ⟨by omega, by omega, q3, q4, q5, q6⟩
        · simp only [h1, h2, h3, Bool.false_eq_true, if_false, if_true] at hm hsm ⊢
          obtain ⟨_, q1, q2, _⟩ := form_arr hfo h3
          obtain ⟨x, hof⟩ := List.length_eq_one_iff.1 q2
          rw [hof] at hm hsm ⊢
          simp only at hm hsm ⊢
          have hx : rigM d x = true := hpt x (by unfold ShT.parts; rw [hof]; simp)
          have hz := mea_pos d x hx
          obtain ⟨a1, a2, a3⟩ := arr_small q1 hz hsm
          obtain ⟨i, hi, hmi⟩ := List.mem_flatMap.1 hm
          have hin : (i : Int) < t.n := by have := List.mem_range.1 hi; omega
          have hi3 : 0 ≤ (i : Int) * (8 * (meaM d x).1) := Int.mul_nonneg (by omega) (by omega)
          obtain ⟨q1, q2, q3, q4, q5, q6⟩ := lea_in d x _ hx a2 m hmi
          refine ⟨by omega, ?_, q3, q4, q5, q6⟩
          have e1 : min t.n 65537 = t.n := by omega
          rw [e1] at hsm ⊢
          have e2 : min (t.n * (meaM d x).1) 65537 = t.n * (meaM d x).1 := by omega
          rw [e2]
          have e3 : ((i : Int) + 1) * (8 * (meaM d x).1) ≤ t.n * (8 * (meaM d x).1) := Int.mul_le_mul_of_nonneg_right (by omega) (by omega)
          have e4 : t.n * (8 * (meaM d x).1) = 8 * (t.n * (meaM d x).1) := by rw [Int.mul_left_comm]
          rw [Int.add_mul] at e3
          omega
      · simp only [h1, h2, Bool.false_eq_true, if_false, if_true, List.mem_singleton] at hm ⊢
        subst hm
        simp only
        have : sizM 8 = 8 := rfl
        omega
    · simp only [h1, if_true, List.mem_singleton] at hm ⊢
      subst hm
      have := (form_int hfo h1).1
      have hc := siz_cases t.k
      simp only
      omega
/-- What a type may be aligned to. -/
def AlOk (a : Int) : Prop := a = 1 ∨ a = 2 ∨ a = 4 ∨ a = 8 ∨ a = 16 ∨ a = 32 ∨ a = 64
theorem max_al {a b : Int} (ha : AlOk a) (hb : AlOk b) : AlOk (max a b) := by
  rcases Int.le_total a b with h | h
  · rw [Int.max_eq_right h]; exact hb
  · rw [Int.max_eq_left h]; exact ha
theorem alF_al (a0 : Int) (h0 : AlOk (max 1 a0)) : ∀ (l : List (FdOf ShT × Mb)), (∀ x ∈ l, AlOk x.2.al) → AlOk (alF a0 l) := by
  intro l
  unfold alF
  suffices ∀ a, AlOk a → (∀ x ∈ l, AlOk x.2.al) → AlOk (l.foldl (fun a x => max a x.2.al) a) from this _ h0
  induction l with
  | nil => intro a h1 _; exact h1
  | cons x r ih => exact fun a h1 h => ih _ (max_al h1 (h x (by simp))) (fun y hy => h y (by simp [hy]))
theorem mea_al : ∀ (d : Nat) (t : ShT), rigM d t = true → AlOk (meaM d t).2
  | 0, _, h => by cases h
  | d + 1, t, h => by
    obtain ⟨hf, hp⟩ := rig_form h
    rw [meaM]
    split
    · rename_i h1
      have := (form_int hf h1).1
      have hc := siz_cases t.k
      unfold AlOk; simp only; omega
    · split
      · unfold AlOk; simp
      · rename_i h1 h2
        split
        · rename_i h3
          obtain ⟨_, q1, q2, _⟩ := form_arr hf h3
          match hof : t.of, q2 with
          | [x], _ =>
            simp only
            exact mea_al d x (hp x (by unfold ShT.parts; rw [hof]; simp))
        · rename_i h3
          obtain ⟨_, _, _, _, ha, hs⟩ := form_struct hf (by simpa using h1) (by simpa using h2) (by simpa using h3)
          obtain ⟨f1, f2, f3, _⟩ := ffs_all hs
          have hok : ∀ f ∈ t.fs, FOk f (meaM d f.t) := fun f hfm => fok_of (mea_ok d) (f3 f hfm) (hp _ (fs_part hfm))
          unfold memM
          simp only
          refine alF_al _ ?_ _ (fun x hx => ?_)
          · unfold aliM at ha
            simp only [Bool.or_eq_true, beq_iff_eq] at ha
            unfold AlOk
            omega
          · obtain ⟨hxm, en, h0, _, he⟩ := ml_mem (meaM d) t.pk (t.sh == 4) t.fs 0 (by omega) hok x hx
            have hff := f3 x.1 hxm
            have hrx := hp _ (fs_part hxm)
            have hal := mea_al d x.1.t hrx
            rw [he]
            unfold layM
            split
            · rename_i hb
              unfold layB
              simp only
              have hmb := mea_bit hff hrx hb
              split
              · rw [hmb, Int.mul_ediv_cancel_left _ (by omega)]; exact hal
              · exact .inl rfl
            · simp only
              split
              · exact .inl rfl
              · exact hal
end Go.Proofs.Ytaffldhmgifdoaa
