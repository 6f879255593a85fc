/-
  ArithSwaps.
-/
import Derived.Test.YtobfpdhfmbpidaaDoorEx2
import Derived.Test.YtobfpdhfmbpidaaDoorEy
namespace Go.Proofs.YtobfpdhfmbpidaaDoor
open Go Go.RowKit
set_option linter.unusedVariables false
set_option linter.unusedSimpArgs false
theorem inK_swap {op ak bk : Int} (hs : shiM op = false) (ho : ofM op = 2) (ha : kiM ak = true) (hb : kiM bk = true) : inK op bk ak = inK op ak bk := by
  simp only [inK, ho, hs, Int.reduceBEq, if_true, Bool.false_and, Bool.false_eq_true, if_false]
  exact usu_comm ha hb
theorem twoY_n {op ak b bk : Int} (hs : shiM op = false) : twoY op ak b bk = worM (toM b (inK op ak bk)) (inK op ak bk) := by unfold twoY; rw [hs]; rfl
/-- Where both ways reckon alike, Two tells alike. -/
theorem two3_swap {op a ak b bk : Int} (hs : shiM op = false) (hdef : ∀ k x y, defM op k x y = true) (hr : ∀ x y, recM op y x = recM op x y) : two3 op b bk a ak = two3 op a ak b bk := by
  unfold two3
  cases ho : ofM op == 2
  · rfl
  · simp only [if_true]
    rw [Bool.and_comm]
    cases hl : liesM a ak && liesM b bk
    · rfl
    · simp only [if_true]
      rw [Bool.and_eq_true] at hl
      have ho' : ofM op = 2 := by simpa using ho
      have e := inK_swap hs ho' (lies_ki hl.1) (lies_ki hl.2)
      have e1 : twoK op bk ak = twoK op ak bk := e
      have e2 : twoX op b bk ak = twoY op ak b bk := by rw [twoY_n hs]; unfold twoX; rw [e]
      have e3 : twoY op bk a ak = twoX op a ak bk := by rw [twoY_n hs]; unfold twoX; rw [e]
      rw [e1, e2, e3]
      simp only [str0, str1, str2, strB, hdef, hr]
theorem def_other {op : Int} (h : op ≠ 4 ∧ op ≠ 5 ∧ op ≠ 6 ∧ op ≠ 7) (k x y : Int) : defM op k x y = true := by
  have q : ∀ n : Int, op ≠ n → (op == n) = false := fun n h => by simpa using h
  simp only [defM, q 4 h.1, q 5 h.2.1, q 6 h.2.2.1, q 7 h.2.2.2, Bool.false_eq_true, if_false]
theorem rec_swap {op : Int} (o1 : 1 ≤ op) (o2 : op ≤ 14) (h : op ≠ 2 ∧ op ≠ 4 ∧ op ≠ 5 ∧ op ≠ 6 ∧ op ≠ 7 ∧ op ≠ 11 ∧ op ≠ 12) (x y : Int) : recM op y x = recM op x y := by
  obtain rfl | rfl | rfl | rfl | rfl | rfl | rfl : op = 1 ∨ op = 3 ∨ op = 8 ∨ op = 9 ∨ op = 10 ∨ op = 13 ∨ op = 14 := by omega
  · exact Int.add_comm y x
  · exact Int.mul_comm y x
  · show andI y x = andI x y; unfold andI; rw [BitVec.and_comm]
  · show xorI y x = xorI x y; unfold xorI; rw [BitVec.xor_comm]
  · show orI y x = orI x y; unfold orI; rw [BitVec.or_comm]
  · show tru (decide (y = x)) = tru (decide (x = y)); rw [show (decide (y = x)) = decide (x = y) by congr 1; exact propext ⟨Eq.symm, Eq.symm⟩]
  · show tru (!decide (y = x)) = tru (!decide (x = y)); rw [show (decide (y = x)) = decide (x = y) by congr 1; exact propext ⟨Eq.symm, Eq.symm⟩]
theorem not_of2 {op a ak b bk : Int} (h : ofM op ≠ 2) : two3 op a ak b bk = (0, 0, 2) := by
  unfold two3; rw [show (ofM op == 2) = false by simpa using h]; rfl
/-- What asks tells of values of kinds. -/
theorem two3_ask {op a ak b bk : Int} (ho : op = 11 ∨ op = 12) : two3 op a ak b bk = if liesM a ak && liesM b bk then (recM op (worM (toM a (usuM ak bk)) (usuM ak bk)) (worM (toM b (usuM ak bk)) (usuM ak bk)), 5, 0) else (0, 0, 80) := by
  have h2 : ofM op = 2 := by rcases ho with rfl | rfl <;> decide
  have hs : shiM op = false := by rcases ho with rfl | rfl <;> decide
  have hask : askM op = true := by rcases ho with rfl | rfl <;> decide
  unfold two3
  rw [h2]
  simp only [Int.reduceBEq, if_true, beq_self_eq_true]
  cases hl : liesM a ak && liesM b bk
  · rfl
  · simp only [if_true]
    rw [Bool.and_eq_true] at hl
    have ka := lies_ki hl.1
    have kb := lies_ki hl.2
    have e : inK op ak bk = usuM ak bk := by simp [inK, h2, hs]
    have kk : kiM (twoK op ak bk) = true := ki_of (inK_cases op ka kb)
    obtain ⟨t, ht⟩ := ask_tru (x := twoX op a ak bk) (y := twoY op ak b bk) h2 hask
    have hsb : strB op (twoK op ak bk) (twoX op a ak bk) (twoY op ak b bk) = true := by
      unfold strB
      rw [def_other (by omega), ht, keep_tru t kk]; rfl
    simp only [str0, str1, str2, hsb, if_true, hask]
    rw [show erM (twoK op ak bk) = 0 from er_of kk]
    rw [ht, toK_tru t kk, ← ht, twoY_n hs]
    unfold twoX
    rw [e]
theorem swaps_walk (op a ak b bk : Int) (ha : i64b a) (hb : i64b b) (w : World) (hO : Ops w) (hw : 0 < w.heap.size) : Calls Tryd.prog 8 #[.int .i64 op, .int .i64 a, .int .i64 ak, .int .i64 b, .int .i64 bk] w fun e w' => e = .returned (.bool true) ∧ Below w.heap.size w w' := by
  have HH := shownAt hO hw
  have HI := lshift_any op
  by_cases e2 : op = 2
  · subst e2; exact swaps_h2 a ak b bk w HH
  by_cases e4 : op = 4
  · subst e4; exact swaps_h4 a ak b bk w HH
  by_cases e5 : op = 5
  · subst e5; exact swaps_h5 a ak b bk w HH
  by_cases e6 : op = 6
  · subst e6; exact swaps_h6 a ak b bk w HH HI
  by_cases e7 : op = 7
  · subst e7; exact swaps_h7 a ak b bk w HH HI
  have hsh : shiM op = false := by
    cases h : shiM op
    · rfl
    · have := shi_iff.1 h; omega
  rw [hsh] at HI
  have H1 := twoAt hO hw op a ak b bk ha hb
  have H2 := twoAt hO hw op b bk a ak hb ha
  by_cases e11 : op = 11
  · subst e11
    have H3 := twoAt hO hw 12 b bk a ak hb ha
    rw [two3_ask (.inl rfl)] at H1 H2
    rw [two3_ask (.inr rfl)] at H3
    rw [Bool.and_comm] at H2 H3
    cases hl : liesM a ak && liesM b bk
    · rw [hl] at H1 H2
      exact swaps_e11 a ak b bk _ _ _ w rfl rfl HH H1 H2 HI
    · rw [hl] at H1 H2 H3
      rw [Bool.and_eq_true] at hl
      simp only [if_true] at H1 H2 H3
      rw [usu_comm (lies_ki hl.1) (lies_ki hl.2)] at H3
      generalize worM (toM a (usuM ak bk)) (usuM ak bk) = X at *
      generalize worM (toM b (usuM ak bk)) (usuM ak bk) = Y at *
      rw [show recM 11 X Y = tru (decide (X < Y)) from rfl] at H1
      rw [show recM 12 Y X = tru (!decide (X < Y)) from rfl] at H3
      cases hq : decide (X < Y)
      · rw [hq] at H1 H3
        exact swaps_less0 a ak b bk _ _ _ _ w HH H1 H2 H3 HI
      · rw [hq] at H1 H3
        exact swaps_less1 a ak b bk _ _ _ _ w HH H1 H2 H3 HI
  by_cases e12 : op = 12
  · subst e12
    have H3 := twoAt hO hw 11 b bk a ak hb ha
    rw [two3_ask (.inr rfl)] at H1 H2
    rw [two3_ask (.inl rfl)] at H3
    rw [Bool.and_comm] at H2 H3
    cases hl : liesM a ak && liesM b bk
    · rw [hl] at H1 H2
      exact swaps_e12 a ak b bk _ _ _ w rfl rfl HH H1 H2 HI
    · rw [hl] at H1 H2 H3
      rw [Bool.and_eq_true] at hl
      simp only [if_true] at H1 H2 H3
      rw [usu_comm (lies_ki hl.1) (lies_ki hl.2)] at H3
      generalize worM (toM a (usuM ak bk)) (usuM ak bk) = X at *
      generalize worM (toM b (usuM ak bk)) (usuM ak bk) = Y at *
      rw [show recM 12 X Y = tru (!decide (Y < X)) from rfl] at H1
      rw [show recM 11 Y X = tru (decide (Y < X)) from rfl] at H3
      cases hq : decide (Y < X)
      · rw [hq] at H1 H3
        exact swaps_leq1 a ak b bk _ _ _ _ w HH H1 H2 H3 HI
      · rw [hq] at H1 H3
        exact swaps_leq0 a ak b bk _ _ _ _ w HH H1 H2 H3 HI
  have hsw : two3 op b bk a ak = two3 op a ak b bk := by
    by_cases h2 : ofM op = 2
    · obtain ⟨o1, o2⟩ := of2 (op := op) (by simpa using h2)
      exact two3_swap hsh (def_other ⟨e4, e5, e6, e7⟩) (rec_swap o1 o2 ⟨e2, e4, e5, e6, e7, e11, e12⟩)
    · rw [not_of2 h2, not_of2 h2]
  rw [hsw] at H2
  have q : ∀ n : Int, op ≠ n → (op == n) = false := fun n h => by simpa using h
  exact swaps_o op a ak b bk _ _ _ w (q 2 e2) (q 4 e4) (q 5 e5) (q 11 e11) (q 12 e12) HH H1 H2 HI
end Go.Proofs.YtobfpdhfmbpidaaDoor
