/-
  ShapeLies: what is asked of each member.
-/
import Derived.Test.YtgomlfaekfabpaaVb
namespace Go.Proofs.Ytgomlfaekfabpaa
open Go Go.RowKit Go.Shelf
set_option linter.unusedVariables false

theorem ml_fst (meas : ShT → Int × Int) (pk st : Bool) : ∀ (l : List (FdOf ShT)) (en : Int), (mlM meas pk st en l).map Prod.fst = l
  | [], _ => rfl
  | f :: r, en => by rw [mlM, List.map_cons, ml_fst meas pk st r]
/-- What the law asks of the member at i. -/
structure LiF (t : ShT) (n : Int) (f : FdOf ShT) (m : Mb) (at0 : Int) : Prop where
  b0 : 0 ≤ m.bit
  b1 : m.bit ≤ 20992320
  s0 : 0 ≤ m.bits
  s1 : m.bits ≤ 524296
  le : m.bit + m.bits ≤ 8 * n
  st : t.sh = 4 → at0 ≤ m.bit
  un : t.sh = 5 → m.bit = 0
  chk : chkM f.t = (meaM 5 f.t, 0)
  e : EOk (meaM 5 f.t)
  bi : 0 ≤ f.bits → m.bits = f.bits ∧ 1 ≤ sizM f.t.k
  good : t.pk = false → Good f m (meaM 5 f.t).1 (meaM 5 f.t).2
def atM (l : List (FdOf ShT × Mb)) (i : Nat) : Int := if h : 0 < i ∧ i - 1 < l.length then (l[i - 1]'h.2).2.bit + (l[i - 1]'h.2).2.bits else 0
theorem lies_facts (t : ShT) (hrg : rigM 6 t = true) (hs : t.sh = 4 ∨ t.sh = 5) (n a : Int) (hc : chkM t = ((n, a), 0)) :
    n % a = 0 ∧ t.al ≤ a ∧ 1 ≤ a ∧ a ≤ 64 ∧ 0 ≤ n ∧ n ≤ 65536 ∧ t.fs.length ≤ 40 ∧ (t.ml (meaM 5)).length = t.fs.length ∧
    ∀ (i : Nat) (h : i < t.fs.length) (h' : i < (t.ml (meaM 5)).length), ((t.ml (meaM 5))[i]).1 = t.fs[i] ∧ LiF t n t.fs[i] ((t.ml (meaM 5))[i]).2 (atM (t.ml (meaM 5)) i) := by
  obtain ⟨hf, hp⟩ := rig_form hrg
  have h1 : (t.sh == 1) = false := by simp; omega
  have h2 : (t.sh == 2) = false := by simp; omega
  have h3 : (t.sh == 3) = false := by simp; omega
  obtain ⟨_, _, _, _, ha, hfs⟩ := form_struct hf h1 h2 h3
  obtain ⟨f1, f2, f3, _⟩ := ffs_all hfs
  have hok : ∀ f ∈ t.fs, FOk f (meaM 5 f.t) := fun f hfm => fok_of (mea_ok 5) (f3 f hfm) (hp _ (fs_part hfm))
  have hmo : ∀ x ∈ t.ml (meaM 5), MOk x.2 := ml_ok (meaM 5) t.pk (t.sh == 4) t.fs 0 0 hok (by omega) (by omega) (by omega)
  have hen := enF_ok _ hmo
  have hao := alF_ok t.al (ali_le ha).2 _ hmo
  have hm6 : meaM 6 t = memM t (t.ml (meaM 5)) := by
    rw [meaM, h1, h2, h3]
    rfl
  unfold chkM at hc
  rw [hrg, if_pos rfl, hm6] at hc
  unfold memM at hc
  obtain ⟨p1, p2, _⟩ := upM_le (n := enF (t.ml (meaM 5))) (m := 8) hen.1 (by omega)
  have p0 := upM_mul (enF (t.ml (meaM 5))) 8
  obtain ⟨p3, p4, p5⟩ := upM_le (n := upM (enF (t.ml (meaM 5))) 8 / 8) (m := alF t.al (t.ml (meaM 5))) (by omega) hao.1
  split at hc
  · simp at hc
  · rename_i hle
    simp only at hle
    simp only [Prod.mk.injEq, and_true] at hc
    obtain ⟨hn, hal⟩ := hc
    have hmin : min (upM (upM (enF (t.ml (meaM 5))) 8 / 8) (alF t.al (t.ml (meaM 5)))) 65537 = upM (upM (enF (t.ml (meaM 5))) 8 / 8) (alF t.al (t.ml (meaM 5))) := by omega
    rw [hmin] at hn
    have hall := alF_le t.al (t.ml (meaM 5))
    have h8n : enF (t.ml (meaM 5)) ≤ 8 * n := by omega
    refine ⟨by rw [← hn, ← hal]; exact p5, by omega, by omega, by omega, by omega, by omega, f1, ml_len _ _ _ _ _, fun i h h' => ?_⟩
    have hx : (t.ml (meaM 5))[i] ∈ t.ml (meaM 5) := List.getElem_mem _
    have hfst : ((t.ml (meaM 5))[i]).1 = t.fs[i] := by
      have e1 : (t.ml (meaM 5)).map Prod.fst = t.fs := ml_fst _ _ _ _ _
      have e2 : ((t.ml (meaM 5)).map Prod.fst)[i]'(by simpa using h') = t.fs[i] := by simp only [e1]
      simpa using e2
    refine ⟨hfst, ?_⟩
    obtain ⟨hfm, en', q0, q1, q2⟩ := ml_mem (meaM 5) t.pk (t.sh == 4) t.fs 0 (by omega) hok _ hx
    have hme := enF_mem _ _ hx
    obtain ⟨m1, m2, m3, m4, m5⟩ := hmo _ hx
    rw [hfst] at hfm q2
    have hfo := hok _ hfm
    obtain ⟨b1, b2, b3, b4, b5, b6⟩ := lay_bound hfo q0 t.pk
    rw [← q2] at b1 b2 b3 b4 b5 b6
    have hr5 := hp _ (fs_part hfm)
    have heo := mea_ok 5 _ hr5
    have hff := f3 _ hfm
    have hsz : 0 ≤ t.fs[i].bits → (meaM 5 t.fs[i].t).1 = sizM t.fs[i].t.k ∧ 1 ≤ sizM t.fs[i].t.k := fun hb => by
      unfold ffM at hff
      rw [if_neg (by omega)] at hff
      split at hff
      · cases hff
      · simp only [Bool.and_eq_true, decide_eq_true_eq] at hff
        have hz := (form_int (rig_form hr5).1 hff.1).1
        refine ⟨?_, by omega⟩
        rw [meaM, hff.1]
        rfl
    have hbits : ((t.ml (meaM 5))[i]).2.bits = if 0 ≤ t.fs[i].bits then t.fs[i].bits else 8 * (meaM 5 t.fs[i].t).1 := by
      rw [q2]
      unfold layM layB
      split <;> rfl
    refine ⟨m1, by omega, m2, by omega, by omega, fun h4 => ?_, fun h5 => ?_, ?_, heo, fun hb => ⟨by rw [hbits, if_pos hb], (hsz hb).2⟩, fun hpk => ?_⟩
    · have hst : (t.sh == 4) = true := by simp [h4]
      have hr := ml_rise (meaM 5) t.pk t.fs 0 (by omega) hok i (by rw [ml_len]; exact h)
      have hml : t.ml (meaM 5) = mlM (meaM 5) t.pk true 0 t.fs := by unfold ShT.ml; rw [hst]
      unfold atM
      simp only [hml]
      split
      · rename_i hi0
        rw [dif_neg (by omega)] at hr
        exact hr
      · rename_i hi0
        rw [dif_pos (by rw [ml_len] at hi0; omega)] at hr
        exact hr
    · have hst : (t.sh == 4) = false := by simp [h5]
      have hz0 := q1 hst
      rw [q2, hz0]
      unfold layM layB
      have hu0 : ∀ u : Int, 0 < u → upM 0 u = 0 := fun u hu => by
        unfold upM
        rw [show (0 + u - 1) = u - 1 by omega, Int.ediv_eq_zero_of_lt (by omega) (by omega)]; simp
      split
      · rename_i hb
        have := hfo.2.2.2.2 hb
        simp only [hu0 _ (show 0 < 8 * (meaM 5 t.fs[i].t).1 by omega), ite_self]
      · have := hfo.2.2.1
        simp only
        exact hu0 _ (by split <;> omega)
    · unfold chkM
      rw [(rig_up 5 _ hr5).1, if_pos rfl, (rig_up 5 _ hr5).2, if_neg]
      have hb2 := hbits
      by_cases hb : 0 ≤ t.fs[i].bits
      · have := hsz hb
        have hcs := siz_cases t.fs[i].t.k
        omega
      · rw [if_neg hb] at hb2
        omega
    · rw [q2, hpk]
      exact good_of q0 hfo (fun hb => (hsz hb).1)
end Go.Proofs.Ytgomlfaekfabpaa
