/-
  burinref01.Same at lines that are handed in and the same lines made anew.
-/
import Derived.Test.YtncccheaeghbiaaG3
namespace Go.Proofs.Ytncccheaeghbiaa
open Go Go.RowKit
set_option linter.unusedVariables false

set_option maxHeartbeats 1000000 in
theorem Same_off (va vb : Value) (l : List (Int × ByteArray)) (w : World) (ha : Ln w va l) (hb : Rd w vb (cv l)) (hn : l.length ≤ 500) (h0 : ∀ x ∈ l, 0 ≤ x.1) :
    Calls Try.prog 12 #[va, vb] w fun e w' => e = .returned (.bool true) ∧ ∃ m, w' = w.drewN m := by
  obtain ⟨p, ca, rfl, hca⟩ := ha
  obtain ⟨q, cb, rfl, hcb⟩ := hb
  rw [cv_length] at *
  have HCA := hide hca
  have HCB := hide hcb
  have H0 := hide h0
  clear hca hcb h0
  go_enter Try.func12, Try.ntmps12
  go_wp2
  go_loopw [5] (fun i wr => ∃ (k m : Nat), i = .int .i64 k ∧ k ≤ l.length ∧ wr = w.drewN m) (fun i wr => l.length - (intOf i).toNat)
  case atStart => exact ⟨0, 0, rfl, Nat.zero_le _, rfl⟩
  case round =>
    obtain ⟨k, m, rfl, hk, rfl⟩ := hrel
    by_cases hlt : k < l.length
    · obtain ⟨g, o, rfl, a1, a2⟩ := unhide HCA k hlt
      obtain ⟨g', rfl, b1, b2⟩ := unhide HCB k (by rw [cv_length]; exact hlt)
      rw [cv_get l k hlt] at b1 b2
      have e1 : ((l[k].1.toNat : Nat) : Int) = l[k].1 := by
        have := unhide H0 l[k] (List.getElem_mem _)
        omega
      have e2 : (⟨(l[k].2.data.toList).toArray⟩ : ByteArray) = l[k].2 := by simp
      rw [e1] at b1
      rw [e2] at b2
      clear e1 e2
      generalize l[k].1 = N at *
      generalize l[k].2 = S at *
      have i1 : (k : Int) < (l.length : Int) := by omega
      go_wp2
      refine wp_region_still_plain 8 (by kernel_rfl) (by kernel_rfl) ?_
      simp only [List.take_succ_cons, List.take_zero, List.drop_succ_cons, List.drop_zero]
      refine still_first (fun K hK => ?_)
      iterate 8 (refine still_next hK (fun K1 hK1 => ?_); clear hK K; revert K1 hK1; intro K hK; go_simp)
      refine still_last hK ?_
      clear hK K
      go_wp2
      refine ⟨⟨k + 1, m + 1, by go_num, by omega, rfl⟩, by simp [intOf]; omega⟩
    · go_wp2
      go_ret
      exact ⟨rfl, m, rfl⟩
end Go.Proofs.Ytncccheaeghbiaa
