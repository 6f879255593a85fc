/-
  burintop.TopClasses walked.
-/
import Derived.Test.YtaffldhmgifdoaaIe
namespace Go.Proofs.Ytaffldhmgifdoaa
open Go Go.RowKit Go.Shelf
attribute [local go_sem] Oper.semAt_some
set_option linter.unusedVariables false
set_option linter.unusedSimpArgs false

def shcT (g : Nat) : ShT := .mk 4 0 0 none 0 [] (some ⟨g, 0, none⟩) 1 [⟨[97], intT 5, -1⟩] false 16
def shcC : Array Value := #[.string ⟨#[97]⟩, .int .i64 1, .int .i64 5, .int .i64 0, .slice none 0 0, .slice none 0 0, .bool false, .int .i64 0, .int .i64 (-1)]
theorem shc_lok (g : Nat) : lokM (shcT g) = ((16, 16, [1, 0]), 0) := by kernel_rfl
theorem shc_in {W : World} {g : Nat} {T : TypeId} (h : Bk W g T shcC) : (shcT g).In W.heap.size W
  | 0 => trivial
  | d + 1 => ⟨fun i hi => absurd hi (Nat.not_lt_zero _), fun i hi => by
      have hi1 : i < 1 := hi
      obtain rfl : i = 0 := by omega
      refine ⟨g, 0, rfl, h.lt, fun j hj => ?_, ?_, ?_⟩
      · rw [h.cell, Nat.zero_add]
        have hJ : j = 0 ∨ j = 1 ∨ j = 2 ∨ j = 3 ∨ j = 4 ∨ j = 5 ∨ j = 6 ∨ j = 7 ∨ j = 8 := by omega
        rcases hJ with rfl | rfl | rfl | rfl | rfl | rfl | rfl | rfl | rfl <;> rfl
      · show 1 ≤ maxLen; unfold maxLen; decide
      · exact intT_in _ _ _ d⟩
set_option maxRecDepth 100000 in
set_option maxHeartbeats 8000000 in
theorem shownClass_any (w : World) : Calls Try.prog 51 #[] w fun e w' => e = .returned (.bool true) ∧ Below w.heap.size w w' := by
  have HC : Hid (Calls Try.prog 45 #[(shcT w.heap.size).v] (w.alloc (.cells shcC 45)) (ClP (w.alloc (.cells shcC 45)) [1, 0] 0)) := by
    have := Classes_any (shcT w.heap.size) (w.alloc (.cells shcC 45)) (shc_in (Bk.new w _ _))
    rw [shc_lok] at this
    exact this
  have hv : (shcT w.heap.size).v = .agg #[.int .i64 4, .int .i64 0, .int .i64 0, .slice none 0 0, .slice (some ⟨w.heap.size, 0, none⟩) 1 1, .bool false, .int .i64 16] := rfl
  rw [hv] at HC
  clear hv
  unfold shcC at HC
  have HB := veil (new1_below w)
  unfold ClP at HC
  go_enter Try.func51, Try.ntmps51
  go_wp2_with (go_at_call 45; refine (unveil HC).mono ?_; rintro e w1 ⟨p, c, rfl, hi, hb⟩; obtain ⟨g, o, rfl, hg, c0⟩ := hi.at 0 (by decide); obtain ⟨g', o', hgo, hg', c1⟩ := hi.at 1 (by decide); obtain ⟨rfl, rfl⟩ : g = g' ∧ o = o' := (by cases hgo; exact ⟨rfl, rfl⟩); simp only [List.getElem_cons_zero, List.getElem_cons_succ, Nat.add_zero] at c0 c1; have HB1 := veil ((unveil HB _).trans (hb.mono (unveil HB _).size)); clear hi hb hgo hg')
  go_ret
  exact ⟨by simp, unveil HB1⟩
/-- What the law asks of classes. -/
theorem cls_facts {t : ShT} (h : ((lokM t).2 == 0) = true) : ((chkM t).2 == 0) = true ∧ ((leaL t).2 == 0) = true ∧ 1 ≤ (chkM t).1.1 ∧ (chkM t).1.1 ≤ 65536 ∧ AlOk (chkM t).1.2 ∧ (leaL t).1.length ≤ 2000 ∧ (∀ m ∈ (leaL t).1, NmOk m) ∧ (lokM t).1 = ((chkM t).1.1, (chkM t).1.2, clsM (chkM t).1.1 (leaL t).1) ∧
    ((lokM t).1.2.2 = [2] ∨ (chkM t).1.1 ≤ 16 ∧ (lokM t).1.2.2 = (List.range (nEi (chkM t).1.1.toNat)).map (eiM (leaL t).1)) := by
  unfold lokM at h ⊢
  split at h
  · rename_i hc
    simp only at h
    rw [bne, h] at hc
    cases hc
  · rename_i hc
    split at h
    · cases h
    · rename_i h3
      split at h
      · rename_i hl
        simp only at h
        rw [bne, h] at hl
        cases hl
      · rename_i hl
        have hl' : ((leaL t).2 == 0) = true := by
          cases hx : (leaL t).2 == 0
          · rw [bne, hx] at hl; simp at hl
          · rfl
        obtain ⟨n1, n2, n3, n4, n5, _⟩ := lea_num hl'
        rw [if_neg hc, if_neg h3, if_neg hl]
        refine ⟨(lea_ok hl').1, hl', n2, n3, n4, n1, n5, rfl, ?_⟩
        simp only
        unfold clsM
        cases hg : (decide ((chkM t).1.1 > 16) || (leaL t).1.any askM)
        · refine .inr ⟨?_, by simp only [Bool.false_eq_true, if_false]⟩
          have := (Bool.or_eq_false_iff.1 hg).1
          simpa using this
        · exact .inl (by simp only [if_true])
end Go.Proofs.Ytaffldhmgifdoaa
