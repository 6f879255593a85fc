/-
  Lists: the kind that words say, by the tally and by the document's counts.
-/
import Derived.Test.YtlhgkhhncgmpoaaDoorHk
namespace Go.Proofs.YtlhgkhhncgmpoaaDoor
open Go Go.RowKit
set_option linter.unusedVariables false
set_option linter.unusedSimpArgs false

/-- How often a word is there. -/
def cnt (s : List UInt8) (l : List (List UInt8)) : Nat := l.countP (· == s)
def wC : List UInt8 := [99, 104, 97, 114]
def wS : List UInt8 := [115, 104, 111, 114, 116]
def wL : List UInt8 := [108, 111, 110, 103]
def wI : List UInt8 := [105, 110, 116]
def wG : List UInt8 := [115, 105, 103, 110, 101, 100]
def wU : List UInt8 := [117, 110, 115, 105, 103, 110, 101, 100]
theorem cnt_cons (s x : List UInt8) (l : List (List UInt8)) : cnt s (x :: l) = cnt s l + if x == s then 1 else 0 := by
  unfold cnt
  rw [List.countP_cons]
theorem cnt_le (s : List UInt8) (l : List (List UInt8)) : cnt s l ≤ l.length := List.countP_le_length
/-- A word's six ways, or none. -/
theorem six_ways (x : List UInt8) : (x = wC ∧ thrM x = true ∧ plcM x = 0) ∨ (x = wS ∧ thrM x = true ∧ plcM x = 1) ∨ (x = wL ∧ thrM x = true ∧ plcM x = 2) ∨ (x = wI ∧ thrM x = true ∧ plcM x = 3) ∨ (x = wG ∧ thrM x = true ∧ plcM x = 4) ∨ (x = wU ∧ thrM x = true ∧ plcM x = 5) ∨
    (thrM x = false ∧ (x == wC) = false ∧ (x == wS) = false ∧ (x == wL) = false ∧ (x == wI) = false ∧ (x == wG) = false ∧ (x == wU) = false) := by
  by_cases h0 : x = wC
  · exact .inl ⟨h0, by rw [h0]; rfl, by rw [h0]; rfl⟩
  by_cases h1 : x = wS
  · exact .inr (.inl ⟨h1, by rw [h1]; rfl, by rw [h1]; rfl⟩)
  by_cases h2 : x = wL
  · exact .inr (.inr (.inl ⟨h2, by rw [h2]; rfl, by rw [h2]; rfl⟩))
  by_cases h3 : x = wI
  · exact .inr (.inr (.inr (.inl ⟨h3, by rw [h3]; rfl, by rw [h3]; rfl⟩)))
  by_cases h4 : x = wG
  · exact .inr (.inr (.inr (.inr (.inl ⟨h4, by rw [h4]; rfl, by rw [h4]; rfl⟩))))
  by_cases h5 : x = wU
  · exact .inr (.inr (.inr (.inr (.inr (.inl ⟨h5, by rw [h5]; rfl, by rw [h5]; rfl⟩)))))
  have e0 : (x == wC) = false := by simpa using h0
  have e1 : (x == wS) = false := by simpa using h1
  have e2 : (x == wL) = false := by simpa using h2
  have e3 : (x == wI) = false := by simpa using h3
  have e4 : (x == wG) = false := by simpa using h4
  have e5 : (x == wU) = false := by simpa using h5
  refine .inr (.inr (.inr (.inr (.inr (.inr ⟨?_, e0, e1, e2, e3, e4, e5⟩)))))
  unfold wC at e0; unfold wS at e1; unfold wL at e2; unfold wI at e3; unfold wG at e4; unfold wU at e5
  unfold thrM
  rw [e0, e1, e2, e3, e4, e5]
  rfl
def Ty.plus (t : Ty) (l : List (List UInt8)) : Ty := ⟨t.c + cnt wC l, t.s + cnt wS l, t.l + cnt wL l, t.i + cnt wI l, t.g + cnt wG l, t.u + cnt wU l⟩
def allIn (l : List (List UInt8)) : Nat := cnt wC l + cnt wS l + cnt wL l + cnt wI l + cnt wG l + cnt wU l
theorem ways_ne : (wC == wS) = false ∧ (wC == wL) = false ∧ (wC == wI) = false ∧ (wC == wG) = false ∧ (wC == wU) = false ∧ (wS == wC) = false ∧ (wS == wL) = false ∧ (wS == wI) = false ∧ (wS == wG) = false ∧ (wS == wU) = false ∧
    (wL == wC) = false ∧ (wL == wS) = false ∧ (wL == wI) = false ∧ (wL == wG) = false ∧ (wL == wU) = false ∧ (wI == wC) = false ∧ (wI == wS) = false ∧ (wI == wL) = false ∧ (wI == wG) = false ∧ (wI == wU) = false ∧
    (wG == wC) = false ∧ (wG == wS) = false ∧ (wG == wL) = false ∧ (wG == wI) = false ∧ (wG == wU) = false ∧ (wU == wC) = false ∧ (wU == wS) = false ∧ (wU == wL) = false ∧ (wU == wI) = false ∧ (wU == wG) = false := by decide
theorem allIn_le (l : List (List UInt8)) : allIn l ≤ l.length := by
  induction l with
  | nil => simp [allIn, cnt]
  | cons x r ih =>
    unfold allIn at *
    simp only [cnt_cons, List.length_cons]
    obtain ⟨n1, n2, n3, n4, n5, n6, n7, n8, n9, n10, n11, n12, n13, n14, n15, n16, n17, n18, n19, n20, n21, n22, n23, n24, n25, n26, n27, n28, n29, n30⟩ := ways_ne
    rcases six_ways x with ⟨rfl, _, _⟩ | ⟨rfl, _, _⟩ | ⟨rfl, _, _⟩ | ⟨rfl, _, _⟩ | ⟨rfl, _, _⟩ | ⟨rfl, _, _⟩ | ⟨_, e0, e1, e2, e3, e4, e5⟩
    all_goals (simp only [*, beq_self_eq_true, if_true, Bool.false_eq_true, if_false]; omega)
/-- The tally's walk, by counts. -/
theorem cntM_is : ∀ (l : List (List UInt8)) (t : Ty), t.ok → ((cntM t l).2 = true ∧ (cntM t l).1 = t.plus l ∧ allIn l = l.length ∧ (t.plus l).ok) ∨ ((cntM t l).2 = false ∧ ¬ (allIn l = l.length ∧ (t.plus l).ok))
  | [], t, ht => .inl ⟨rfl, by simp [cntM, Ty.plus, cnt], by simp [allIn, cnt], by simpa [Ty.plus, cnt] using ht⟩
  | x :: r, t, ht => by
    obtain ⟨n1, n2, n3, n4, n5, n6, n7, n8, n9, n10, n11, n12, n13, n14, n15, n16, n17, n18, n19, n20, n21, n22, n23, n24, n25, n26, n27, n28, n29, n30⟩ := ways_ne
    have hle := allIn_le r
    cases hm : t.more x with
    | none =>
      refine .inr ⟨by rw [cntM, hm], ?_⟩
      rintro ⟨ha, ho⟩
      unfold Ty.more at hm
      unfold Ty.ok Ty.plus at ho
      unfold Ty.ok at ht
      unfold allIn at ha hle
      simp only [cnt_cons, List.length_cons] at ha ho
      rcases six_ways x with ⟨rfl, h1, h2⟩ | ⟨rfl, h1, h2⟩ | ⟨rfl, h1, h2⟩ | ⟨rfl, h1, h2⟩ | ⟨rfl, h1, h2⟩ | ⟨rfl, h1, h2⟩ | ⟨h1, e0, e1, e2, e3, e4, e5⟩
      case inr.inr.inr.inr.inr.inr =>
        simp only [*, Bool.false_eq_true, if_false] at ha
        omega
      all_goals (
        simp only [h1, h2, if_true, Int.reduceBEq, Bool.false_eq_true, if_false] at hm
        simp only [*, beq_self_eq_true, if_true, Bool.false_eq_true, if_false] at ho
        split at hm
        · rename_i hq
          have := eq_of_beq hq
          omega
        · cases hm)
    | some t' =>
      obtain ⟨ho', hstep⟩ := more_some hm ht
      rw [hstep]
      have hpl : t'.plus r = t.plus (x :: r) := by
        unfold Ty.more at hm
        unfold Ty.plus
        simp only [cnt_cons]
        rcases six_ways x with ⟨rfl, h1, h2⟩ | ⟨rfl, h1, h2⟩ | ⟨rfl, h1, h2⟩ | ⟨rfl, h1, h2⟩ | ⟨rfl, h1, h2⟩ | ⟨rfl, h1, h2⟩ | ⟨h1, e0, e1, e2, e3, e4, e5⟩
        case inr.inr.inr.inr.inr.inr => simp only [h1, Bool.false_eq_true, if_false] at hm; cases hm
        all_goals (
          simp only [h1, h2, if_true, Int.reduceBEq, Bool.false_eq_true, if_false] at hm
          split at hm
          · cases hm
          · cases hm
            simp only [*, beq_self_eq_true, if_true, Bool.false_eq_true, if_false, Ty.mk.injEq]
            omega)
      have hal : allIn (x :: r) = (x :: r).length ↔ allIn r = r.length := by
        unfold allIn at *
        simp only [cnt_cons, List.length_cons]
        rcases six_ways x with ⟨rfl, h1, h2⟩ | ⟨rfl, h1, h2⟩ | ⟨rfl, h1, h2⟩ | ⟨rfl, h1, h2⟩ | ⟨rfl, h1, h2⟩ | ⟨rfl, h1, h2⟩ | ⟨h1, e0, e1, e2, e3, e4, e5⟩
        case inr.inr.inr.inr.inr.inr => unfold Ty.more at hm; simp only [h1, Bool.false_eq_true, if_false] at hm; cases hm
        all_goals (simp only [*, beq_self_eq_true, if_true, Bool.false_eq_true, if_false]; omega)
      rw [hal, ← hpl]
      exact cntM_is r t' ho'
/-- The document's answer, of counts. -/
def rofM (c s l i g u n : Int) : Int × Int :=
  if n = 0 ∨ c + s + l + i + g + u ≠ n ∨ 1 < g + u ∨ 1 < i ∨ 1 < c ∨ 1 < s ∨ 2 < l then (0, 80)
  else if (c = 1 ∧ 0 < s + l + i) ∨ (s = 1 ∧ 0 < l) then (0, 80)
  else ((if 0 < l then 7 else if s = 1 then 3 else if c = 1 then 1 else 5) + u, 0)
theorem of_is (l : List (List UInt8)) : ofM l = rofM (cnt wC l) (cnt wS l) (cnt wL l) (cnt wI l) (cnt wG l) (cnt wU l) l.length := by
  unfold ofM
  rcases cntM_is l zTy (by unfold Ty.ok zTy; simp) with ⟨h1, h2, h3, h4⟩ | ⟨h1, h2⟩
  · rw [h1, h2]
    unfold Ty.ok Ty.plus zTy at h4
    unfold Ty.plus zTy Ty.tog Ty.kin rofM
    unfold allIn at h3
    simp only [Int.zero_add] at *
    generalize (cnt wC l) = c at *
    generalize (cnt wS l) = s at *
    generalize (cnt wL l) = tl at *
    generalize (cnt wI l) = i at *
    generalize (cnt wG l) = g at *
    generalize (cnt wU l) = u at *
    generalize l.length = n at *
    obtain ⟨⟨_, _⟩, ⟨_, _⟩, ⟨_, _⟩, ⟨_, _⟩, ⟨_, _⟩, ⟨_, _⟩⟩ := h4
    obtain rfl | rfl : c = 0 ∨ c = 1 := by omega
    all_goals obtain rfl | rfl : s = 0 ∨ s = 1 := by omega
    all_goals obtain rfl | rfl | rfl : tl = 0 ∨ tl = 1 ∨ tl = 2 := by omega
    all_goals obtain rfl | rfl : i = 0 ∨ i = 1 := by omega
    all_goals obtain rfl | rfl : g = 0 ∨ g = 1 := by omega
    all_goals obtain rfl | rfl : u = 0 ∨ u = 1 := by omega
    all_goals (simp only [Nat.zero_add, Nat.add_zero, Nat.reduceAdd] at h3; subst h3; decide)
  · rw [h1, Bool.false_and, Bool.false_and, if_neg Bool.false_ne_true]
    unfold rofM
    have hle := allIn_le l
    by_cases hn : (l.length : Int) = 0 ∨ (cnt wC l : Int) + cnt wS l + cnt wL l + cnt wI l + cnt wG l + cnt wU l ≠ l.length ∨ 1 < (cnt wG l : Int) + cnt wU l ∨ 1 < (cnt wI l : Int) ∨ 1 < (cnt wC l : Int) ∨ 1 < (cnt wS l : Int) ∨ 2 < (cnt wL l : Int)
    · rw [if_pos hn]
    · exfalso
      apply h2
      unfold Ty.ok Ty.plus zTy allIn
      simp only [not_or] at hn
      simp only [Int.zero_add]
      omega
end Go.Proofs.YtlhgkhhncgmpoaaDoor
