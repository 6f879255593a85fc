/-
  Package shape: walk, of whatever type is right and not too big; leaves.
-/
import Derived.Test.YtgomlfaekfabpaaMe
namespace Go.Proofs.Ytgomlfaekfabpaa
open Go Go.RowKit Go.Shelf
attribute [local go_sem] Oper.semAt_some
set_option linter.unusedVariables false
set_option linter.unusedSimpArgs false

/-- Numbers of an array that is not too big. -/
theorem arr_small {n z : Int} (hn : 1 ≤ n) (hz : 1 ≤ z) (h : min (min n 65537 * z) 65537 ≤ 65536) : n ≤ 65536 ∧ z ≤ 65536 ∧ ∀ i : Int, 0 ≤ i → i < n → i * (8 * z) ≤ 524288 := by
  have h1 : n ≤ 65536 := by
    apply Classical.byContradiction
    intro hc
    have hm : min n 65537 = 65537 := by omega
    rw [hm] at h
    omega
  have hm : min n 65537 = n := by omega
  rw [hm] at h
  have h2 : n * z ≤ 65536 := by omega
  have h3 : 1 * z ≤ n * z := Int.mul_le_mul_of_nonneg_right hn (by omega)
  refine ⟨h1, by omega, fun i hi hin => ?_⟩
  have h4 : i * z ≤ n * z := Int.mul_le_mul_of_nonneg_right (by omega) (by omega)
  have h5 : i * (8 * z) = 8 * (i * z) := by rw [Int.mul_left_comm]
  omega
theorem walk_any : ∀ (d : Nat), d ≤ 6 → ∀ (t : ShT) (fr : Int) (l N0 B0 : Nat) (full pre : List Mb) (J Jx : List Mb → World → Prop) (w : World), Yd l N0 B0 full J Jx → rigM d t = true → (meaM d t).1 ≤ 65536 → 0 ≤ fr → fr ≤ 33554432 * (6 - d) → t.In N0 w →
    J pre w → B0 ≤ w.heap.size → N0 ≤ w.heap.size → pre ++ leaM d t fr <+: full → Calls Try.prog 73 #[t.v, .int .i64 fr, .func (.yield l) #[] #[]] w (WkP J Jx N0 B0 full w (pre ++ leaM d t fr))
  | 0, _, t, fr, l, N0, B0, full, pre, J, Jx, w, hy, h, hsm, h0, hf, hin, hJ, hB, hN, hp => by cases h
  | d + 1, hd, t, fr, l, N0, B0, full, pre, J, Jx, w, hy, h, hsm, h0, hf, hin, hJ, hB, hN, hp => by
    obtain ⟨hfo, hpt⟩ := rig_form h
    rw [meaM] at hsm
    rw [leaM] at hp ⊢
    have hf2 : fr ≤ 268435456 := by omega
    cases h1 : t.sh == 1
    · cases h2 : t.sh == 2
      · cases h3 : t.sh == 3
        · simp only [h1, h2, h3, Bool.false_eq_true, if_false] at hp hsm ⊢
          obtain ⟨_, _, _, _, ha, hs⟩ := form_struct hfo h1 h2 h3
          obtain ⟨f1, f2, f3, _⟩ := ffs_all hs
          have hok : ∀ f ∈ t.fs, FOk f (meaM d f.t) := fun f hfm => fok_of (mea_ok d) (f3 f hfm) (hpt _ (fs_part hfm))
          refine walk_mem d t fr l N0 B0 full pre J Jx w hy h1 h2 h3 f1 hok hin hJ hB hN hp (fun f hfm W hW => measure_any d f.t W (hpt _ (fs_part hfm)) hW) (fun x hx p W hj hbe hb hn hpf => ?_)
          have hxm : x.1 ∈ t.fs := by
            have := ml_fst (meaM d) t.pk (t.sh == 4) t.fs 0
            rw [← this]
            exact List.mem_map.2 ⟨x, hx, rfl⟩
          obtain ⟨m1, m2, m3, _, _⟩ := ml_ok (meaM d) t.pk (t.sh == 4) t.fs 0 0 hok (by omega) (by omega) (by omega) x hx
          refine walkMember_any d x.1 x.2 fr l N0 B0 full p J Jx W hy h0 hf2 m1 (by omega) hj hb hn hpf (fun hb0 W' hW' hj' => ?_)
          have hpf2 : p ++ leaM d x.1.t (x.2.bit + fr) <+: full := by
            unfold mbL at hpf
            rw [if_neg (by simp; omega), if_neg (by omega)] at hpf
            exact hpf
          have hsx : (meaM d x.1.t).1 ≤ 65536 := by
            apply Classical.byContradiction
            intro hc
            have := big_mem hok f1 (ali_le ha).2 hxm (by omega)
            omega
          exact walk_any d (by omega) x.1.t (x.2.bit + fr) l N0 B0 full p J Jx W' hy (hpt _ (fs_part hxm)) hsx (by omega) (by push_cast at hf; omega) ((parts_in (hin.below hbe) (fs_part hxm)).below (hW'.mono hn)) hj' (Nat.le_trans hb hW'.size) (Nat.le_trans hn hW'.size) hpf2
        · simp only [h1, h2, h3, Bool.false_eq_true, if_false, if_true] at hp hsm ⊢
          obtain ⟨_, q1, q2, _⟩ := form_arr hfo h3
          obtain ⟨x, hof⟩ := List.length_eq_one_iff.1 q2
          rw [hof] at hp hsm ⊢
          simp only at hp hsm ⊢
          have hx : rigM d x = true := hpt x (by unfold ShT.parts; rw [hof]; simp)
          obtain ⟨a1, a2, a3⟩ := arr_small q1 (mea_pos d x hx) hsm
          have hz := mea_pos d x hx
          refine walk_arr t x (meaM d x).1 (meaM d x).2 fr (fun i => leaM d x (fr + (i : Int) * (8 * (meaM d x).1))) l N0 B0 full pre J Jx w hy h1 h2 h3 hof q1 a1 (by omega) a2 a3 h0 hf2 hin hJ hB hN hp (fun W hW => measure_any d x W hx hW) (fun i p W hi hj hxin hb hn hpf => ?_)
          have hi2 := a3 i (by omega) hi
          have hi3 : 0 ≤ (i : Int) * (8 * (meaM d x).1) := Int.mul_nonneg (by omega) (by omega)
          exact walk_any d (by omega) x _ l N0 B0 full p J Jx W hy hx a2 (by omega) (by push_cast at hf; omega) hxin hj hb hn hpf
      · simp only [h1, h2, Bool.false_eq_true, if_false, if_true] at hp ⊢
        exact walk_ptr t fr l N0 B0 full pre J Jx w hy h1 h2 hJ hB hN hp
    · simp only [h1, if_true] at hp ⊢
      exact walk_int t fr l N0 B0 full pre J Jx w hy h1 (form_int hfo h1).1 hJ hB hN hp
end Go.Proofs.Ytgomlfaekfabpaa
