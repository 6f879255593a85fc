/-
  The document's own Two in plain numbers: asking, dividing, and the plain ones.
-/
import Derived.Test.YtobfpdhfmbpidaaDoorGk
import Derived.Test.YtobfpdhfmbpidaaDoorEz1
namespace Go.Proofs.YtobfpdhfmbpidaaDoor
open Go Go.RowKit
set_option linter.unusedVariables false
set_option linter.unusedSimpArgs false
theorem two3_n {op a ak b bk : Int} (ho : ofM op = 2) (hs : shiM op = false) (la : liesM a ak = true) (lb : liesM b bk = true) {K : Int} (hK : usuM ak bk = K) :
    two3 op a ak b bk = if strB op K (worM (toM a K) K) (worM (toM b K) K) then (toK (recM op (worM (toM a K) K) (worM (toM b K) K)) K, (if askM op then 5 else K), 0) else (0, 0, 90) := by
  have e : inK op ak bk = K := by rw [← hK]; simp [inK, ho, hs]
  rw [two3_yes ho la lb, twoY_n hs]
  unfold twoX
  rw [e]
theorem w64_of {v n : Int} (h : i64b v) (e : v % 18446744073709551616 = n % 18446744073709551616) : v = wrap64 n := by
  have h1 := h.1; have h2 := h.2
  unfold wrap64; omega
theorem ask_eq {op a ak b bk K : Int} (ho : op = 11 ∨ op = 12 ∨ op = 13 ∨ op = 14) (ha : i64b a) (hb : i64b b) (la : liesM a ak = true) (lb : liesM b bk = true) (hK : usuM ak bk = K) :
    two3 op a ak b bk = (rcmpM op K (toM a K) (toM b K), 5, 0) := by
  have h2 : ofM op = 2 := by rcases ho with rfl | rfl | rfl | rfl <;> rfl
  have hs : shiM op = false := by rcases ho with rfl | rfl | rfl | rfl <;> rfl
  have hask : askM op = true := by rcases ho with rfl | rfl | rfl | rfl <;> rfl
  have kk : kiM K = true := by rw [← hK]; exact ki_of (usu_cases (lies_ki la) (lies_ki lb))
  rw [two3_n h2 hs la lb hK, hask, cmp_eq ho (lies_b ha) (lies_b hb) (lies_toM a K kk) (lies_toM b K kk)]
  obtain ⟨t, ht⟩ := ask_tru (x := worM (toM a K) K) (y := worM (toM b K) K) h2 hask
  have hsb : strB op K (worM (toM a K) K) (worM (toM b K) K) = true := by
    unfold strB
    rw [def_other (by omega), ht, keep_tru t kk]; rfl
  rw [hsb, ht, toK_tru t kk]
  rfl
/-- What the document tells at its end. -/
def finT (U OK : Bool) (u v k : Int) : Int × Int × Int := if U then (u, k, 0) else if OK && !(u != v) then (u, k, 0) else (0, 0, 90)
theorem uns_cases {K : Int} (ki : K = 5 ∨ K = 6 ∨ K = 7 ∨ K = 8) (hu : unsM K = false) : K = 5 ∨ K = 7 := by
  rcases ki with rfl | rfl | rfl | rfl <;> first | exact .inl rfl | exact .inr rfl | cases hu
theorem keep_u {n K : Int} (hu : unsM K = true) : keepM n K = true := by unfold keepM; rw [hu]; rfl
theorem rng_57 {x K : Int} (hK : K = 5 ∨ K = 7) (h : rngK x K) : i64b x := by unfold rngK at h; unfold i64b; omega
/-- Whether the document takes a quotient. -/
theorem div_ok {A B K : Int} (hK : K = 5 ∨ K = 7) (hA : i64b A) (hB : i64b B) (la : liesM A K = true) (lb : liesM B K = true) (h0 : B ≠ 0) :
    (liesM (rdivM 4 K A B) K && !((K == 7 && A == -9223372036854775808) && B == -1)) = keepM (A.tdiv B) K ∧ (keepM (A.tdiv B) K = true → toM (rdivM 4 K A B) K = rdivM 4 K A B) := by
  have h8 : K ≠ 8 := by omega
  obtain ⟨e1, e2⟩ := div_eq (.inl rfl) hA hB la lb h0
  rw [wor_plain h8 la, wor_plain h8 lb, show recM 4 A B = A.tdiv B from rfl] at e1
  have e3 := w64_of e2 e1
  have kk : kiM K = true := by rcases hK with rfl | rfl <;> rfl
  rcases hK with rfl | rfl
  · have hs : -2147483648 ≤ A ∧ A < 2147483648 := by
      have := rngK_of hA la
      rw [wor_plain h8 la] at this
      unfold rngK at this; omega
    have hq := tdiv_abs_le A B
    have hq2 : absI A ≤ 2147483648 := by unfold absI; split <;> omega
    have hn : i64b (A.tdiv B) := ⟨by omega, by omega⟩
    rw [w64_id hn] at e3
    rw [e3]
    unfold keepM toK liesM
    rw [w64_id hn]
    simp [unsM, kiM]
  · have hl : ∀ q : Int, liesM q 7 = true := fun q => by simp [liesM, kiM, toM]
    rw [hl]
    refine ⟨?_, fun _ => (by simp [toM])⟩
    by_cases hsp : A = -9223372036854775808 ∧ B = -1
    · have hk : keepM (A.tdiv B) 7 = false := by
        rw [hsp.1, hsp.2, tdiv_neg1]
        simp [keepM, toK, toM, unsM, wrap64]
      rw [hk]
      simp [hsp.1, hsp.2]
    · have hn := i64_tdiv hA hsp h0
      unfold keepM toK
      rw [w64_id hn]
      have : (((7 : Int) == 7 && A == -9223372036854775808) && B == -1) = false := by
        cases hh : (((7 : Int) == 7 && A == -9223372036854775808) && B == -1)
        · rfl
        · simp at hh; exact absurd hh hsp
      rw [this]
      simp [unsM, toM]
theorem div_two {op a ak b bk K : Int} (ho : op = 4 ∨ op = 5) (ha : i64b a) (hb : i64b b) (la : liesM a ak = true) (lb : liesM b bk = true) (hK : usuM ak bk = K) (h0 : toM b K ≠ 0) :
    two3 op a ak b bk = finT (unsM K) (liesM (rdivM 4 K (toM a K) (toM b K)) K && !((K == 7 && toM a K == -9223372036854775808) && toM b K == -1)) (toM (rdivM op K (toM a K) (toM b K)) K) (rdivM op K (toM a K) (toM b K)) K := by
  have h2 : ofM op = 2 := by rcases ho with rfl | rfl <;> rfl
  have hs : shiM op = false := by rcases ho with rfl | rfl <;> rfl
  have hask : askM op = false := by rcases ho with rfl | rfl <;> rfl
  have ki : K = 5 ∨ K = 6 ∨ K = 7 ∨ K = 8 := by rw [← hK]; exact usu_cases (lies_ki la) (lies_ki lb)
  have kk := ki_of ki
  rw [two3_n h2 hs la lb hK, hask]
  have lA := lies_toM a K kk
  have lB := lies_toM b K kk
  have hA : i64b (toM a K) := lies_b ha
  have hB : i64b (toM b K) := lies_b hb
  generalize toM a K = A at *
  generalize toM b K = B at *
  obtain ⟨e1, e2⟩ := div_eq ho hA hB lA lB h0
  have hY0 : (worM B K != 0) = true := by
    have := wor_zero (k := K) hB
    show (!(worM B K == 0)) = true
    rw [this]; simpa using h0
  rw [toM_64 kk e2 e1]
  unfold finT
  cases hu : unsM K
  · have h57 := uns_cases ki hu
    have h8 : K ≠ 8 := by omega
    have rA := rngK_of hA lA
    rw [wor_plain h8 lA] at e1 rA ⊢
    rw [wor_plain h8 lB] at e1 hY0 ⊢
    obtain ⟨d1, d2⟩ := div_ok h57 hA hB lA lB h0
    rw [d1]
    simp only [Bool.false_eq_true, if_false]
    rcases ho with rfl | rfl
    · have esb : strB 4 K A B = keepM (A.tdiv B) K := by
        show ((B != 0) && keepM (A.tdiv B) K) = _
        rw [hY0, Bool.true_and]
      rw [esb, show recM 4 A B = A.tdiv B from rfl] at *
      cases hk : keepM (A.tdiv B) K
      · rfl
      · have := d2 hk
        rw [toM_64 kk e2 e1] at this
        rw [this]
        simp
    · have rr : rngK (A.tmod B) K := rng_between rA (tmod_between A B)
      have esb : strB 5 K A B = keepM (A.tdiv B) K := by
        show (((B != 0) && keepM (A.tdiv B) K) && keepM (A.tmod B) K) = _
        rw [hY0, keep_rng rr]; simp
      rw [esb, show recM 5 A B = A.tmod B from rfl] at *
      have ev : toK (A.tmod B) K = rdivM 5 K A B := by
        have w := wor_toK rr
        have l := lies_toK (A.tmod B) K kk
        rw [wor_plain h8 l] at w
        rw [w, w64_of e2 e1, w64_id (rng_57 h57 rr)]
      rw [ev]
      cases hk : keepM (A.tdiv B) K
      · rfl
      · simp
  · have esb : strB op K (worM A K) (worM B K) = true := by
      unfold strB
      rw [keep_u hu, Bool.and_true]
      rcases ho with rfl | rfl
      · exact hY0
      · show ((worM B K != 0) && keepM _ K) = true
        rw [hY0, keep_u hu]; rfl
    rw [esb]
    rfl
theorem div_zero {op a ak b bk K : Int} (ho : op = 4 ∨ op = 5) (hb : i64b b) (la : liesM a ak = true) (lb : liesM b bk = true) (hK : usuM ak bk = K) (h0 : toM b K = 0) : two3 op a ak b bk = (0, 0, 90) := by
  have h2 : ofM op = 2 := by rcases ho with rfl | rfl <;> rfl
  have hs : shiM op = false := by rcases ho with rfl | rfl <;> rfl
  rw [two3_n h2 hs la lb hK, h0]
  have e : worM 0 K = 0 := by unfold worM; split <;> rfl
  rw [e]
  have : strB op K (worM (toM a K) K) 0 = false := by
    unfold strB
    rcases ho with rfl | rfl <;> rfl
  rw [this]
  rfl
theorem pla_ok {op A B : Int} (ho : op = 1 ∨ op = 2 ∨ op = 3 ∨ op = 8 ∨ op = 9 ∨ op = 10) (hA : i64b A) (hB : i64b B) : rplaB op A B = (wrap64 (recM op A B) == recM op A B) := by
  have h1 := hA.1; have h2 := hA.2; have h3 := hB.1; have h4 := hB.2
  have bi := bit_in A B 63 (by decide) ⟨by omega, by omega⟩ ⟨by omega, by omega⟩
  have tr : ∀ z : Int, -(2 ^ 63 : Int) ≤ z ∧ z < 2 ^ 63 → (wrap64 z == z) = true := fun z hz => by
    rw [w64_id ⟨by omega, by omega⟩]; simp
  rcases ho with rfl | rfl | rfl | rfl | rfl | rfl
  · show ((decide (A < 0) != decide (B < 0)) || (decide (wrap64 (A + B) < 0) == decide (A < 0))) = (wrap64 (A + B) == A + B)
    unfold wrap64
    by_cases a0 : A < 0 <;> by_cases b0 : B < 0 <;> by_cases c0 : ((A + B + 9223372036854775808) % 18446744073709551616 - 9223372036854775808) < 0 <;> simp [a0, b0, c0] <;> omega
  · show ((decide (A < 0) == decide (B < 0)) || (decide (wrap64 (A - B) < 0) == decide (A < 0))) = (wrap64 (A - B) == A - B)
    unfold wrap64
    by_cases a0 : A < 0 <;> by_cases b0 : B < 0 <;> by_cases c0 : ((A - B + 9223372036854775808) % 18446744073709551616 - 9223372036854775808) < 0 <;> simp [a0, b0, c0] <;> omega
  · exact pro_eq hA hB
  · exact (tr _ bi.1).symm
  · exact (tr _ bi.2.2).symm
  · exact (tr _ bi.2.1).symm
theorem pla_two {op a ak b bk K : Int} (ho : op = 1 ∨ op = 2 ∨ op = 3 ∨ op = 8 ∨ op = 9 ∨ op = 10) (ha : i64b a) (hb : i64b b) (la : liesM a ak = true) (lb : liesM b bk = true) (hK : usuM ak bk = K) :
    two3 op a ak b bk = finT (unsM K) (rplaB op (toM a K) (toM b K)) (toM (rplaV op (toM a K) (toM b K)) K) (rplaV op (toM a K) (toM b K)) K := by
  have h2 : ofM op = 2 := by rcases ho with rfl | rfl | rfl | rfl | rfl | rfl <;> rfl
  have hs : shiM op = false := by rcases ho with rfl | rfl | rfl | rfl | rfl | rfl <;> rfl
  have hask : askM op = false := by rcases ho with rfl | rfl | rfl | rfl | rfl | rfl <;> rfl
  have ki : K = 5 ∨ K = 6 ∨ K = 7 ∨ K = 8 := by rw [← hK]; exact usu_cases (lies_ki la) (lies_ki lb)
  have kk := ki_of ki
  rw [two3_n h2 hs la lb hK, hask]
  have lA := lies_toM a K kk
  have lB := lies_toM b K kk
  have hA : i64b (toM a K) := lies_b ha
  have hB : i64b (toM b K) := lies_b hb
  generalize toM a K = A at *
  generalize toM b K = B at *
  obtain ⟨e1, e2⟩ := pla_eq (op := op) (a := A) (b := B) (k := K) ho
  have esb : strB op K (worM A K) (worM B K) = keepM (recM op (worM A K) (worM B K)) K := by
    unfold strB
    rw [def_other (by omega), Bool.true_and]
  rw [esb, toM_64 kk e2 e1]
  unfold finT
  cases hu : unsM K
  · have h57 := uns_cases ki hu
    have h8 : K ≠ 8 := by omega
    rw [wor_plain h8 lA, wor_plain h8 lB] at e1 ⊢
    rw [pla_ok ho hA hB, w64_of e2 e1]
    simp only [Bool.false_eq_true, if_false]
    generalize recM op A B = r at *
    have ec : ((wrap64 r == r) && !(toK r K != wrap64 r)) = keepM r K := by
      unfold keepM
      rw [hu, Bool.false_or]
      cases hq : wrap64 r == r
      · have hq' : wrap64 r ≠ r := by simpa using hq
        have hb := toK_b r K
        cases hz : toK r K == r
        · rfl
        · simp only [beq_iff_eq] at hz
          rw [hz] at hb
          exact absurd (w64_id hb) hq'
      · simp only [beq_iff_eq] at hq
        rw [hq]
        show (true && !(!(toK r K == r))) = _
        simp
    rw [ec]
  · rw [keep_u hu]
    rfl
end Go.Proofs.YtobfpdhfmbpidaaDoor
