/-
  Package shape: measure, checked, Right, Size.
-/
import Derived.Test.YtgomlfaekfabpaaUk
namespace Go.Proofs.Ytgomlfaekfabpaa
open Go Go.RowKit Go.Shelf
set_option linter.unusedVariables false
set_option linter.unusedSimpArgs false

/-- What a right type takes. -/
def meaM : Nat → ShT → Int × Int
  | 0, _ => (0, 0)
  | d + 1, t => if t.sh == 1 then (sizM t.k, sizM t.k) else if t.sh == 2 then (8, 8)
      else if t.sh == 3 then (match t.of with | [] => (0, 0) | x :: _ => (min (min t.n 65537 * (meaM d x).1) 65537, (meaM d x).2))
      else memM t (t.ml (meaM d))
theorem rig_form {d : Nat} {t : ShT} (h : rigM (d + 1) t = true) : formM t = true ∧ ∀ x ∈ t.parts, rigM d x = true := by
  unfold rigM at h
  rw [Bool.and_eq_true] at h
  exact ⟨h.1, List.all_eq_true.1 h.2⟩
theorem form_struct {t : ShT} (h : formM t = true) (h1 : (t.sh == 1) = false) (h2 : (t.sh == 2) = false) (h3 : (t.sh == 3) = false) :
    (t.sh == 4 || t.sh == 5) = true ∧ t.n = 0 ∧ t.of.length = 0 ∧ t.k = 0 ∧ aliM t.al = true ∧ ffsM t.fs = true := by
  unfold formM formW at h
  rw [h1, h2, h3] at h
  simp only [Bool.false_eq_true, if_false] at h
  split at h
  · rename_i hs
    simp only [Bool.and_eq_true, beq_iff_eq] at h
    exact ⟨hs, h.1.1.1.1, h.1.1.1.2, h.1.1.2, h.1.2, h.2⟩
  · cases h
theorem form_int {t : ShT} (h : formM t = true) (h1 : (t.sh == 1) = true) : 0 < sizM t.k ∧ t.n = 0 ∧ t.of.length = 0 ∧ t.fs.length = 0 ∧ t.pk = false ∧ t.al = 0 := by
  unfold formM formW at h
  rw [h1] at h
  simp only [if_true, Bool.and_eq_true, beq_iff_eq, decide_eq_true_eq, Bool.not_eq_true'] at h
  exact ⟨h.2, h.1.1.1, h.1.1.2, h.1.2.1.1, h.1.2.1.2, h.1.2.2⟩
theorem form_arr {t : ShT} (h : formM t = true) (h3 : (t.sh == 3) = true) : t.k = 0 ∧ 1 ≤ t.n ∧ t.of.length = 1 ∧ t.fs.length = 0 ∧ t.pk = false ∧ t.al = 0 := by
  have hs : t.sh = 3 := by simpa using h3
  unfold formM formW at h
  rw [hs] at h
  simp only [Int.reduceBEq, Bool.false_eq_true, if_false, if_true, Bool.and_eq_true, beq_iff_eq, decide_eq_true_eq, Bool.not_eq_true'] at h
  exact ⟨h.1.1.2, h.1.2, h.2, h.1.1.1.1.1, h.1.1.1.1.2, h.1.1.1.2⟩
theorem ali_le {n : Int} (h : aliM n = true) : 0 ≤ n ∧ n ≤ 64 := by
  unfold aliM at h
  simp only [Bool.or_eq_true, beq_iff_eq] at h
  omega
def EOk (e : Int × Int) : Prop := 0 ≤ e.1 ∧ e.1 ≤ 65537 ∧ 1 ≤ e.2 ∧ e.2 ≤ 64
theorem ffs_all {l : List (FdOf ShT)} (h : ffsM l = true) : l.length ≤ 40 ∧ 1 ≤ l.length ∧ (∀ f ∈ l, ffM f = true) ∧ namM (l.map FdOf.nm) = true := by
  unfold ffsM at h
  simp only [Bool.and_eq_true, decide_eq_true_eq] at h
  exact ⟨h.1.1.2, h.1.1.1, List.all_eq_true.1 h.1.2, h.2⟩
theorem fok_of {d : Nat} (ih : ∀ x, rigM d x = true → EOk (meaM d x)) {f : FdOf ShT} (hf : ffM f = true) (hr : rigM d f.t = true) : FOk f (meaM d f.t) := by
  obtain ⟨e1, e2, e3, e4⟩ := ih f.t hr
  refine ⟨e1, e2, e3, e4, fun hb => ?_⟩
  unfold ffM at hf
  rw [if_neg (by omega)] at hf
  split at hf
  · cases hf
  · simp only [Bool.and_eq_true, decide_eq_true_eq] at hf
    cases d with
    | zero => cases hr
    | succ d =>
      have hz := (form_int (rig_form hr).1 hf.1).1
      have hc := siz_cases f.t.k
      rw [meaM, hf.1]
      simp only [if_true]
      omega
theorem fs_part {t : ShT} {f : FdOf ShT} (h : f ∈ t.fs) : f.t ∈ t.parts := List.mem_append_right _ (List.mem_map.2 ⟨f, h, rfl⟩)
theorem mea_ok : ∀ (d : Nat) (t : ShT), rigM d t = true → EOk (meaM d t)
  | 0, _, h => by cases h
  | d + 1, t, h => by
    obtain ⟨hf, hp⟩ := rig_form h
    rw [meaM]
    split
    · rename_i h1
      have := (form_int hf h1).1
      have hc := siz_cases t.k
      unfold EOk; simp only; omega
    · split
      · unfold EOk; simp
      · rename_i h1 h2
        split
        · rename_i h3
          obtain ⟨_, q1, q2, _⟩ := form_arr hf h3
          match hof : t.of, q2 with
          | [x], _ =>
            simp only
            obtain ⟨e1, e2, e3, e4⟩ := mea_ok d x (hp x (by unfold ShT.parts; rw [hof]; simp))
            refine ⟨?_, by simp only; omega, e3, e4⟩
            simp only
            have : 0 ≤ min t.n 65537 * (meaM d x).1 := Int.mul_nonneg (by omega) e1
            omega
        · rename_i h3
          obtain ⟨_, _, _, _, ha, hs⟩ := form_struct hf (by simpa using h1) (by simpa using h2) (by simpa using h3)
          obtain ⟨f1, f2, f3, _⟩ := ffs_all hs
          have hok : ∀ f ∈ t.fs, FOk f (meaM d f.t) := fun f hfm => fok_of (mea_ok d) (f3 f hfm) (hp _ (fs_part hfm))
          have hmo := ml_ok (meaM d) t.pk (t.sh == 4) t.fs 0 0 hok (by omega) (by omega) (by omega)
          have hen := enF_ok _ hmo
          have hao := alF_ok t.al (ali_le ha).2 _ hmo
          unfold memM ShT.ml EOk
          simp only
          obtain ⟨p1, p2, _⟩ := upM_le (n := enF (mlM (meaM d) t.pk (t.sh == 4) 0 t.fs)) (m := 8) hen.1 (by omega)
          obtain ⟨p3, p4, _⟩ := upM_le (n := upM (enF (mlM (meaM d) t.pk (t.sh == 4) 0 t.fs)) 8 / 8) (m := alF t.al (mlM (meaM d) t.pk (t.sh == 4) 0 t.fs)) (by omega) hao.1
          omega
set_option maxRecDepth 100000 in
set_option maxHeartbeats 8000000 in
theorem measure_int (t : ShT) (w : World) (h1 : (t.sh == 1) = true) (hk : 0 < sizM t.k) :
    Calls Try.prog 64 #[t.v] w fun e w' => e = .returned (extV (sizM t.k, sizM t.k)) ∧ Below w.heap.size w w' := by
  have HS := veil (Size_any t.k)
  have hc := siz_cases t.k
  unfold ShT.v ShT.cs
  generalize sizM t.k = z at *
  go_enter Try.func64, Try.ntmps64
  go_wp2_with (go_at_call 49; refine (unveil HS _).mono ?_; rintro e w' ⟨rfl, hw'⟩; obtain rfl := hw'.symm)
  refine bodyPost_ret (res_e (f := Try.f64) rfl rfl (by
    have := Bk.new (w.alloc (.cells #[.int .i64 t.sh, .int .i64 t.k, .int .i64 t.n, .slice t.op t.of.length t.oc, .slice t.fp t.fs.length t.fc, .bool t.pk, .int .i64 t.al] 25)) 68 #[.int .i64 z, .int .i64 z]
    rw [World.size_alloc] at this
    exact this) rfl) rfl ⟨rfl, below_new2 w _ _⟩
set_option maxRecDepth 100000 in
set_option maxHeartbeats 8000000 in
theorem measure_ptr (t : ShT) (w : World) (h1 : (t.sh == 1) = false) (h2 : (t.sh == 2) = true) :
    Calls Try.prog 64 #[t.v] w fun e w' => e = .returned (extV (8, 8)) ∧ Below w.heap.size w w' := by
  unfold ShT.v ShT.cs
  go_enter Try.func64, Try.ntmps64
  go_wp2_with fail
  refine bodyPost_ret (res_e (f := Try.f64) rfl rfl (by
    have := Bk.new (w.alloc (.cells #[.int .i64 t.sh, .int .i64 t.k, .int .i64 t.n, .slice t.op t.of.length t.oc, .slice t.fp t.fs.length t.fc, .bool t.pk, .int .i64 t.al] 25)) 68 #[.int .i64 8, .int .i64 8]
    rw [World.size_alloc] at this
    exact this) rfl) rfl ⟨rfl, below_new2 w _ _⟩
end Go.Proofs.Ytgomlfaekfabpaa
