/-
  The document's own plain, of whatever type.
-/
import Derived.Test.YtgomlfaekfabpaaJd
namespace Go.Proofs.Ytgomlfaekfabpaa
open Go Go.RowKit
set_option linter.unusedVariables false
set_option linter.unusedSimpArgs false

theorem pla_is (d : Nat) (t : ShT) : plaW t.sh t.k t.n t.of.length ((t.fs.length : Int) == 0 && !t.pk && t.al == 0) (kiM t.k) (aliM t.al) (rfM d t.fs) (match t.of with | [y] => rigM d y | _ => false) = rigM (d + 1) t := by
  unfold plaW
  rw [lenB0, lenB0, lenB1]
  cases h1 : t.sh == 1
  · cases h2 : t.sh == 2
    · cases h3 : t.sh == 3
      · simp only [Bool.false_eq_true, if_false]
        cases h4 : (t.sh == 4 || t.sh == 5)
        · simp only [Bool.or_eq_false_iff] at h4
          rw [rig_none h1 h2 h3 h4.1 h4.2]
          rfl
        · rw [rig_mem h4]
          simp only [if_true]
          cases t.k == 0 <;> cases t.n == 0 <;> cases t.of.length == 0 <;> cases aliM t.al <;> simp
      · simp only [Bool.false_eq_true, if_false, if_true]
        cases hc : ((t.fs.length == 0 && !t.pk && t.al == 0) && t.k == 0 && decide (1 ≤ t.n) && t.of.length == 1)
        · rw [rig_arr_no h3 hc]
          rfl
        · simp only [if_true]
          have hl : t.of.length = 1 := by simp only [Bool.and_eq_true, beq_iff_eq] at hc; exact hc.2
          obtain ⟨y, hy⟩ := List.length_eq_one_iff.1 hl
          rw [rig_arr h3 hc hy, hy]
    · simp only [Bool.false_eq_true, if_false, if_true]
      rw [rig_ptr h1 h2]
  · simp only [if_true]
    rw [rig_int h1]
theorem plain_any : ∀ (d : Nat), d ≤ 6 → ∀ (t : ShT) (w : World), t.In w.heap.size w → t.Len →
    Calls Try.prog 41 #[t.v, .int .i64 d] w fun e w' => e = .returned (.bool (rigM d t)) ∧ Below w.heap.size w w'
  | 0, _, t, w, _, _ => plain_low t w
  | d + 1, hd, t, w, hin, hle => by
    rw [← pla_is]
    have hsub : (((d + 1 : Nat) : Int) - 1) = d := by omega
    refine plain_walk t ((d + 1 : Nat) : Int) (by omega) (by omega) w hin _ _ (fun y hy W hW => ?_) (fun W hW => ?_)
    · rw [hy]
      simp only
      rw [hsub]
      have hm : y ∈ t.parts := by unfold ShT.parts; rw [hy]; simp
      exact plain_any d (by omega) y W ((parts_in (hin.below hW) hm).mono hW.size) (hle.part hm)
    · rw [hsub]
      refine fields_any d d _ _ _ W (fun i hi => ?_) (by have := hle.one.2; unfold maxLen at this; omega) (fun f hf W' hW' => ?_)
      · obtain ⟨g, o, e, hg, hc, hn⟩ := ((FdG.of hin).below hW) i hi
        exact ⟨g, o, e, Nat.lt_of_lt_of_le hg hW.size, hc, hn⟩
      · have hW2 : Below w.heap.size w W' := hW.trans (hW'.mono hW.size)
        exact plain_any d (by omega) f.t W' ((parts_in (hin.below hW2) (fs_part hf)).mono hW2.size) (hle.part (fs_part hf))
end Go.Proofs.Ytgomlfaekfabpaa
