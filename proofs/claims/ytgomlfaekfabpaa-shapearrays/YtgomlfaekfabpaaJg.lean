/-
  Numbers of the document's box: sizes are above 0; what is too big within makes the whole too big.
-/
import Derived.Test.YtgomlfaekfabpaaJb
import Derived.Test.YtgomlfaekfabpaaVc
namespace Go.Proofs.Ytgomlfaekfabpaa
open Go Go.RowKit
set_option linter.unusedVariables false
set_option linter.unusedSimpArgs false

theorem mea_bit {d : Nat} {f : FdOf ShT} (hf : ffM f = true) (hr : rigM d f.t = true) (hb : 0 ≤ f.bits) : (meaM d f.t).1 = (meaM d f.t).2 := by
  unfold ffM at hf
  rw [if_neg (by omega)] at hf
  split at hf
  · cases hf
  · simp only [Bool.and_eq_true, decide_eq_true_eq] at hf
    cases d with
    | zero => cases hr
    | succ d => rw [meaM, hf.1]; rfl
theorem lay_al {f : FdOf ShT} {e : Int × Int} (hok : FOk f e) (hf : ffM f = true) (he : 0 ≤ f.bits → e.1 = e.2) {A : Int} (hA : 1 ≤ A) (en : Int) (pk : Bool) :
    max A (layM e f en pk).al = if !pk && !f.nm.isEmpty then max A e.2 else A := by
  obtain ⟨h1, h2, h3, h4, h5⟩ := hok
  unfold layM
  by_cases hb : 0 ≤ f.bits
  · rw [if_pos hb]
    have := he hb
    unfold layB
    simp only
    cases pk <;> cases f.nm.isEmpty <;> simp <;> omega
  · rw [if_neg hb]
    unfold ffM at hf
    rw [if_pos (by omega)] at hf
    simp only
    cases pk
    · rw [hf]; simp
    · simp; omega
theorem ml_of {meas : ShT → Int × Int} {t : ShT} {f : FdOf ShT} (hok : ∀ f ∈ t.fs, FOk f (meas f.t)) (hf : f ∈ t.fs) : ∃ x ∈ t.ml meas, ∃ en, 0 ≤ en ∧ x.2 = layM (meas f.t) f en t.pk := by
  have h1 := ml_fst meas t.pk (t.sh == 4) t.fs 0
  rw [← h1] at hf
  obtain ⟨x, hx, rfl⟩ := List.mem_map.1 hf
  obtain ⟨_, en, h0, _, he⟩ := ml_mem meas t.pk (t.sh == 4) t.fs 0 (by omega) hok x hx
  exact ⟨x, hx, en, h0, he⟩
theorem mem_ge {t : ShT} {l : List (FdOf ShT × Mb)} {x : FdOf ShT × Mb} (hx : x ∈ l) (h0 : 0 ≤ enF l) (ha : 1 ≤ alF t.al l) (c : Int) (hc : 8 * c - 7 ≤ x.2.bit + x.2.bits) (hc2 : c ≤ 65537) : c ≤ (memM t l).1 := by
  have h1 := enF_mem l x hx
  unfold memM
  simp only
  obtain ⟨p1, p2, p3⟩ := upM_le (n := enF l) (m := 8) h0 (by omega)
  obtain ⟨p4, p5, _⟩ := upM_le (n := upM (enF l) 8 / 8) (m := alF t.al l) (by omega) ha
  omega
theorem mea_pos : ∀ (d : Nat) (t : ShT), rigM d t = true → 1 ≤ (meaM d t).1
  | 0, _, h => by cases h
  | d + 1, t, h => by
    obtain ⟨hf, hp⟩ := rig_form h
    rw [meaM]
    split
    · rename_i h1
      have := (form_int hf h1).1
      simp only; omega
    · split
      · simp
      · rename_i h1 h2
        split
        · rename_i h3
          obtain ⟨_, q1, q2, _⟩ := form_arr hf h3
          match hof : t.of, q2 with
          | [x], _ =>
            simp only
            have e1 := mea_pos d x (hp x (by unfold ShT.parts; rw [hof]; simp))
            have : 1 * 1 ≤ min t.n 65537 * (meaM d x).1 := Int.mul_le_mul (by omega) e1 (by omega) (by omega)
            omega
        · rename_i h3
          obtain ⟨_, _, _, _, ha, hs⟩ := form_struct hf (by simpa using h1) (by simpa using h2) (by simpa using h3)
          obtain ⟨f1, f2, f3, f4⟩ := ffs_all hs
          have hok : ∀ f ∈ t.fs, FOk f (meaM d f.t) := fun f hfm => fok_of (mea_ok d) (f3 f hfm) (hp _ (fs_part hfm))
          have hmo := ml_ok (meaM d) t.pk (t.sh == 4) t.fs 0 0 hok (by omega) (by omega) (by omega)
          have hen := enF_ok _ hmo
          have hao := alF_ok t.al (ali_le ha).2 _ hmo
          rw [nam_is] at f4
          simp only [Bool.and_eq_true] at f4
          unfold hasN at f4
          obtain ⟨nm, hnm, hne⟩ := List.any_eq_true.1 f4.1
          obtain ⟨f, hfm, rfl⟩ := List.mem_map.1 hnm
          obtain ⟨x, hx, en, h0, he⟩ := ml_of hok hfm
          refine mem_ge hx hen.1 hao.1 1 ?_ (by omega)
          have hb := lay_bound (hok f hfm) h0 t.pk
          rw [he]
          have hpos := mea_pos d f.t (hp _ (fs_part hfm))
          have hff := f3 f hfm
          unfold ffM at hff
          by_cases hbi : 0 ≤ f.bits
          · rw [if_neg (by omega)] at hff
            have hb2 : (layM (meaM d f.t) f en t.pk).bits = f.bits := by unfold layM; rw [if_pos hbi]; rfl
            split at hff
            · cases hff
            · rename_i hz
              have : ¬ f.bits = 0 := fun h0 => hz (by rw [h0]; simp at hne ⊢; exact hne)
              omega
          · have hb2 : (layM (meaM d f.t) f en t.pk).bits = 8 * (meaM d f.t).1 := by unfold layM; rw [if_neg hbi]
            omega
theorem big_mem {d : Nat} {t : ShT} {f : FdOf ShT} (hok : ∀ f ∈ t.fs, FOk f (meaM d f.t)) (hfl : t.fs.length ≤ 40) (hal : t.al ≤ 64) (hfm : f ∈ t.fs) (hbg : 65536 < (meaM d f.t).1) : 65536 < (memM t (t.ml (meaM d))).1 := by
  have hmo := ml_ok (meaM d) t.pk (t.sh == 4) t.fs 0 0 hok (by omega) (by omega) (by omega)
  have hen := enF_ok _ hmo
  have hao := alF_ok t.al hal _ hmo
  obtain ⟨x, hx, en, h0, he⟩ := ml_of hok hfm
  obtain ⟨o1, o2, o3, o4, o5⟩ := hok f hfm
  have : ¬ 0 ≤ f.bits := fun h => by have := o5 h; omega
  have hb := lay_bound (hok f hfm) h0 t.pk
  have hb2 : (layM (meaM d f.t) f en t.pk).bits = 8 * (meaM d f.t).1 := by unfold layM; rw [if_neg this]
  have h2 : 65537 ≤ (memM t (t.ml (meaM d))).1 := mem_ge (t := t) hx hen.1 hao.1 65537 (by rw [he]; omega) (by omega)
  omega
theorem big_arr {n z : Int} (hn : 1 ≤ n) (hz : 1 ≤ z) (hz2 : z ≤ 65537) : (decide (65536 < min (min n 65537 * z) 65537) = (decide (65536 < z) || decide (n > 65536) || decide (z * n > 65536))) := by
  rw [Bool.eq_iff_iff]
  simp only [Bool.or_eq_true, decide_eq_true_eq]
  by_cases h : n ≤ 65536
  · have hm : min n 65537 = n := by omega
    rw [hm, Int.mul_comm n z]
    have h1 : z * 1 ≤ z * n := Int.mul_le_mul_of_nonneg_left hn (by omega)
    constructor
    · intro h2; right; omega
    · rintro ((h2 | h2) | h2) <;> omega
  · have hm : min n 65537 = 65537 := by omega
    rw [hm]
    constructor
    · intro _; left; right; omega
    · intro _; omega
theorem small_arr {n z : Int} (hn : 1 ≤ n) (hz : 1 ≤ z) (h : n ≤ 65536) (h2 : z * n ≤ 65536) : min (min n 65537 * z) 65537 = z * n := by
  have hm : min n 65537 = n := by omega
  rw [hm, Int.mul_comm n z]
  omega
end Go.Proofs.Ytgomlfaekfabpaa
