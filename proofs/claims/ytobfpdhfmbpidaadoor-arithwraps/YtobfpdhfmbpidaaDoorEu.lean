/-
  Package arith: Two, One, Wrap in plain numbers.
-/
import Derived.Test.YtobfpdhfmbpidaaDoorEp
import Derived.Test.YtobfpdhfmbpidaaDoorEs
import Derived.Test.YtobfpdhfmbpidaaDoorEt
namespace Go.Proofs.YtobfpdhfmbpidaaDoor
open Go Go.RowKit
set_option linter.unusedVariables false
set_option linter.unusedSimpArgs false
def strB (op k x y : Int) : Bool := defM op k x y && keepM (recM op x y) k
def str0 (op k x y : Int) : Int := if strB op k x y then toK (recM op x y) k else 0
def str1 (op k x y : Int) : Int := if strB op k x y then (if askM op then 5 else k) else 0
def str2 (op k x y : Int) : Int := if strB op k x y then erM k else 90
theorem strT_eq (op k x y : Int) : strT op k x y = .tuple #[.int .i64 (str0 op k x y), .int .i64 (str1 op k x y), .int .i64 (str2 op k x y)] := by
  unfold strT str0 str1 str2 strB
  cases (defM op k x y && keepM (recM op x y) k) <;> rfl
theorem worM_in (v k : Int) (h1 : -9223372036854775808 ≤ v) (h2 : v ≤ 9223372036854775807) : -18446744073709551616 < worM v k ∧ worM v k < 18446744073709551616 := by
  unfold worM; split <;> omega
theorem worM_s (v k : Int) (h : unsM k = false) : worM v k = v := by simp [worM, h]
theorem lies_ki {v k : Int} (h : liesM v k = true) : kiM k = true := by simp [liesM] at h; exact h.1
/-- What Two reckons with. -/
def twoK (op ak bk : Int) : Int := inK op ak bk
def twoX (op a ak bk : Int) : Int := worM (toM a (inK op ak bk)) (inK op ak bk)
def twoY (op ak b bk : Int) : Int := if shiM op then worM b bk else worM (toM b (inK op ak bk)) (inK op ak bk)
/-- What Two tells. -/
def two3 (op a ak b bk : Int) : Int × Int × Int := if ofM op == 2 then (if liesM a ak && liesM b bk then (str0 op (twoK op ak bk) (twoX op a ak bk) (twoY op ak b bk), str1 op (twoK op ak bk) (twoX op a ak bk) (twoY op ak b bk), str2 op (twoK op ak bk) (twoX op a ak bk) (twoY op ak b bk)) else (0, 0, 80)) else (0, 0, 2)
def tupT (t : Int × Int × Int) : Value := .tuple #[.int .i64 t.1, .int .i64 t.2.1, .int .i64 t.2.2]
def tupD (t : Int × Int) : Value := .tuple #[.int .i64 t.1, .int .i64 t.2]
theorem of2 {op : Int} (h : (ofM op == 2) = true) : 1 ≤ op ∧ op ≤ 14 := by
  simp only [beq_iff_eq] at h
  unfold ofM at h
  split at h
  · assumption
  · split at h <;> cases h
theorem of1 {op : Int} (h : (ofM op == 1) = true) : 15 ≤ op ∧ op ≤ 17 := by
  simp only [beq_iff_eq] at h
  unfold ofM at h
  split at h
  · cases h
  · split at h
    · assumption
    · cases h
theorem of0 {op : Int} (h : (ofM op == 0) = false) : 1 ≤ op ∧ op ≤ 17 := by
  simp only [beq_eq_false_iff_ne, ne_eq] at h
  unfold ofM at h
  split at h
  · omega
  · split at h <;> omega
theorem shi_iff {op : Int} : shiM op = true ↔ (op = 6 ∨ op = 7) := by simp [shiM]
theorem TwoW_any (op a ak b bk : Int) (w : World) (a1 : -9223372036854775808 ≤ a) (a2 : a ≤ 9223372036854775807) (b1 : -9223372036854775808 ≤ b) (b2 : b ≤ 9223372036854775807) (hO : Ops w) (hw : 0 < w.heap.size) :
    Calls Tryd.prog 18 #[.int .i64 op, .int .i64 a, .int .i64 ak, .int .i64 b, .int .i64 bk] w fun e w' => e = .returned (tupT (two3 op a ak b bk)) ∧ Below w.heap.size w w' := by
  have HB := Binary_any op w hO hw
  unfold two3
  cases ho : ofM op == 2
  · rw [ho] at HB
    exact TwoArg op a ak b bk w HB
  · rw [ho] at HB
    obtain ⟨o1, o2⟩ := of2 ho
    have HLa := fun W => Lies_any a ak W a1 a2
    have HLb := fun W => Lies_any b bk W b1 b2
    simp only [if_true]
    cases hl : liesM a ak && liesM b bk
    · exact TwoKind op a ak b bk _ _ w hl HB HLa HLb
    · simp only [if_true]
      rw [Bool.and_eq_true] at hl
      simp only [hl.1] at HLa
      simp only [hl.2] at HLb
      have HR : Hid (∀ W, Below w.heap.size w W → Calls Tryd.prog 30 #[.int .i64 op, .int .i64 ak, .int .i64 bk] W fun e w' => e = .returned (.tuple #[.int .i64 (twoK op ak bk), .int .i64 (inE op ak bk)]) ∧ Below W.heap.size W w') :=
        fun W hb => reckonedIn_any op ak bk W (hO.below hb hw) (Nat.lt_of_lt_of_le hw hb.size)
      have ta := toM_in a (twoK op ak bk) a1 a2
      have tb := toM_in b (twoK op ak bk) b1 b2
      have HT : ∀ W, Calls Tryd.prog 38 #[.int .i64 op, .int .i64 (twoK op ak bk), W128 (twoX op a ak bk), W128 (twoY op ak b bk)] W fun e w' => e = .returned (tupT (str0 op (twoK op ak bk) (twoX op a ak bk) (twoY op ak b bk), str1 op (twoK op ak bk) (twoX op a ak bk) (twoY op ak b bk), str2 op (twoK op ak bk) (twoX op a ak bk) (twoY op ak b bk))) ∧ Below W.heap.size W w' := fun W => by
        have hx := worM_in (toM a (twoK op ak bk)) (twoK op ak bk) ta.1 ta.2
        have hy : -18446744073709551616 < twoY op ak b bk ∧ twoY op ak b bk < 18446744073709551616 := by
          unfold twoY
          split
          · exact worM_in b bk b1 b2
          · exact worM_in (toM b (twoK op ak bk)) (twoK op ak bk) tb.1 tb.2
        have h := strictW_any op (twoK op ak bk) (twoX op a ak bk) (twoY op ak b bk) W o1 (by omega) hx.1 hx.2 hy.1 hy.2 (fun hu => by
          have ex : twoX op a ak bk = toM a (twoK op ak bk) := worM_s _ _ hu
          rw [ex]
          refine ⟨by omega, fun hs => ?_⟩
          have ey : twoY op ak b bk = toM b (twoK op ak bk) := by
            unfold twoY
            rw [if_neg (fun h => hs (shi_iff.1 h))]
            exact worM_s _ _ hu
          rw [ey]
          omega)
        rw [strT_eq] at h
        exact h
      cases hs : shiM op
      · have ey : twoY op ak b bk = worM (toM b (twoK op ak bk)) (twoK op ak bk) := by unfold twoY; rw [hs]; rfl
        rw [ey] at HT ⊢
        exact TwoN op a ak b bk _ _ _ _ _ _ _ _ _ _ _ w HB HLa HLb HR (fun W => worthW_any b bk W b1 b2) (by have := shifts_any op; rw [hs] at this; exact this) (fun W => madeW_any b _ W b1 b2) (fun W => madeW_any a _ W a1 a2) HT
      · have ey : twoY op ak b bk = worM b bk := by unfold twoY; rw [hs]; rfl
        rw [ey] at HT ⊢
        exact TwoS op a ak b bk _ _ _ _ 0 0 _ _ _ _ _ w HB HLa HLb HR (fun W => worthW_any b bk W b1 b2) (by have := shifts_any op; rw [hs] at this; exact this) (fun W => madeW_any a _ W a1 a2) HT
/-- What One tells. -/
def oneX (a ak : Int) : Int := worM (toM a (proM ak)) (proM ak)
def one3 (op a ak : Int) : Int × Int × Int := if ofM op != 1 then (0, 0, 2) else if liesM a ak then (str0 op (proM ak) (oneX a ak) 0, str1 op (proM ak) (oneX a ak) 0, str2 op (proM ak) (oneX a ak) 0) else (0, 0, 80)
theorem OneW_any (op a ak : Int) (w : World) (a1 : -9223372036854775808 ≤ a) (a2 : a ≤ 9223372036854775807) (hO : Ops w) (hw : 0 < w.heap.size) :
    Calls Tryd.prog 20 #[.int .i64 op, .int .i64 a, .int .i64 ak] w fun e w' => e = .returned (tupT (one3 op a ak)) ∧ Below w.heap.size w w' := by
  have HB := told_any op w hO hw
  have HLa := fun W => Lies_any a ak W a1 a2
  unfold one3
  cases ho : ofM op != 1
  · simp only [Bool.false_eq_true, if_false]
    obtain ⟨o1, o2⟩ := of1 (op := op) (by simpa using ho)
    cases hl : liesM a ak
    · simp only [hl] at HLa
      exact OneKind op a ak _ _ w ho HB HLa
    · simp only [hl] at HLa
      have ta := toM_in a (proM ak) a1 a2
      have hx := worM_in (toM a (proM ak)) (proM ak) ta.1 ta.2
      have HT : ∀ W, Calls Tryd.prog 38 #[.int .i64 op, .int .i64 (proM ak), W128 (oneX a ak), W128 0] W fun e w' => e = .returned (tupT (str0 op (proM ak) (oneX a ak) 0, str1 op (proM ak) (oneX a ak) 0, str2 op (proM ak) (oneX a ak) 0)) ∧ Below W.heap.size W w' := fun W => by
        have h := strictW_any op (proM ak) (oneX a ak) 0 W (by omega) o2 hx.1 hx.2 (by decide) (by decide) (fun hu => by
          have ex : oneX a ak = toM a (proM ak) := worM_s _ _ hu
          rw [ex]
          exact ⟨by omega, fun _ => by decide⟩)
        rw [strT_eq] at h
        exact h
      exact OneYes op a ak _ _ _ _ _ _ _ _ _ w ho HB HLa (Promoted_any ak) (fun W => madeW_any a _ W a1 a2) HT
  · exact OneArg op a ak _ _ w ho HB
/-- What Wrap tells. -/
def wraY (op k b : Int) : Int := if shiM op then (worM b k % 18446744073709551616).tmod (8 * sizM k) else worM b k
def wra2 (op k a b : Int) : Int × Int := if ofM op == 0 then (0, 2) else if liesM a k && liesM b k then (if op == 4 && worM b k == 0 then (0, 0) else if op == 5 && worM b k == 0 then (a, 0) else (toK (recM op (worM a k) (wraY op k b)) k, erM k)) else (0, 80)
theorem siz_pos {k : Int} (h : kiM k = true) : 1 ≤ sizM k := by
  rcases kcases k with rfl | rfl | rfl | rfl | rfl | rfl | rfl | rfl | ⟨i1, i2, i3, i4, i5, i6, i7, i8⟩
  all_goals first | decide | (simp [kiM, *] at h)
theorem eq0_halves (y : Int) (h3 : -18446744073709551616 < y) (h4 : y < 18446744073709551616) : (decide (y / 18446744073709551616 % 18446744073709551616 = 0) && decide (y % 18446744073709551616 = 0)) = (y == 0) := by
  have e := W128_inj (x := y) (y := 0) (by omega) (by omega) (by omega) (by omega)
  rw [show (0 : Int) / 18446744073709551616 % 18446744073709551616 = 0 from rfl, show (0 : Int) % 18446744073709551616 = 0 from rfl] at e
  rw [e]
  rfl
theorem WrapW_any (op k a b : Int) (w : World) (a1 : -9223372036854775808 ≤ a) (a2 : a ≤ 9223372036854775807) (b1 : -9223372036854775808 ≤ b) (b2 : b ≤ 9223372036854775807) (hO : Ops w) (hw : 0 < w.heap.size) :
    Calls Tryd.prog 22 #[.int .i64 op, .int .i64 k, .int .i64 a, .int .i64 b] w fun e w' => e = .returned (tupD (wra2 op k a b)) ∧ Below w.heap.size w w' := by
  have HB := told_any op w hO hw
  have HLa := fun W => Lies_any a k W a1 a2
  have HLb := fun W => Lies_any b k W b1 b2
  unfold wra2
  cases ho : ofM op == 0
  · simp only [Bool.false_eq_true, if_false]
    obtain ⟨o1, o2⟩ := of0 ho
    cases hl : liesM a k && liesM b k
    · exact WrapKind op k a b _ _ _ _ w ho hl HB HLa HLb
    · simp only [if_true]
      rw [Bool.and_eq_true] at hl
      simp only [hl.1] at HLa
      simp only [hl.2] at HLb
      have hk := lies_ki hl.1
      have hs := siz_in k
      have hsp := siz_pos hk
      have hx := worM_in a k a1 a2
      have hy := worM_in b k b1 b2
      have HW := fun W => worthW_any b k W b1 b2
      have HN := fun W => worthW_any a k W a1 a2
      have HS := shifts_any op
      have HT : ∀ n W, Calls Tryd.prog 27 #[.int .i64 (IntKind.i64.wrap (n % 18446744073709551616)), .int .i64 k] W fun e w' => e = .returned (.tuple #[.int .i64 (toK n k), .int .i64 (erM k)]) ∧ w' = W := fun n W => by
        rw [i64w, w64_low]
        exact To_any _ k W (w64_in n).1 (w64_in n).2
      unfold wraY
      cases hsh : shiM op
      · rw [hsh] at HS
        have hno : ¬ (op = 6 ∨ op = 7) := fun h => by rw [shi_iff.2 h] at hsh; cases hsh
        simp only [Bool.false_eq_true, if_false]
        by_cases e4 : op = 4
        · subst e4
          cases hz : worM b k == 0
          · have HC := fun W => reckW_any 4 (worM a k) (worM b k) W o1 o2 hx.1 hx.2 hy.1 hy.2 (fun _ => by simpa using hz) (fun h => absurd h hno)
            exact WrapD4 k a b _ _ _ _ _ _ _ _ _ _ w ho HB HLa HLb HW HS HN HC (HT _) (by rw [eq0_halves _ hy.1 hy.2]; exact hz)
          · simp only [beq_iff_eq] at hz
            rw [hz] at HW
            exact WrapZ4 k a b _ _ w ho HB HLa HLb HW HS
        · by_cases e5 : op = 5
          · subst e5
            simp only [Int.reduceBEq, Bool.false_and, Bool.true_and, Bool.false_eq_true, if_false]
            cases hz : worM b k == 0
            · have HC := fun W => reckW_any 5 (worM a k) (worM b k) W o1 o2 hx.1 hx.2 hy.1 hy.2 (fun _ => by simpa using hz) (fun h => absurd h hno)
              exact WrapD5 k a b _ _ _ _ _ _ _ _ _ _ w ho HB HLa HLb HW HS HN HC (HT _) (by rw [eq0_halves _ hy.1 hy.2]; exact hz)
            · simp only [beq_iff_eq] at hz
              rw [hz] at HW
              exact WrapZ5 k a b _ _ w ho HB HLa HLb HW HS
          · have q4 : (op == 4) = false := by simpa using e4
            have q5 : (op == 5) = false := by simpa using e5
            simp only [q4, q5, Bool.false_and, Bool.false_eq_true, if_false]
            have HC := fun W => reckW_any op (worM a k) (worM b k) W o1 o2 hx.1 hx.2 hy.1 hy.2 (fun h => absurd h (by omega)) (fun h => absurd h hno)
            exact WrapN op k a b _ _ _ _ _ _ _ _ _ _ w ho HB HLa HLb HW HS HN HC (HT _) q4 q5
      · rw [hsh] at HS
        have hyes := shi_iff.1 hsh
        have q4 : (op == 4) = false := by simp only [beq_eq_false_iff_ne, ne_eq]; omega
        have q5 : (op == 5) = false := by simp only [beq_eq_false_iff_ne, ne_eq]; omega
        simp only [q4, q5, Bool.false_and, Bool.false_eq_true, if_false, if_true]
        have hB0 : 8 * sizM k ≠ 0 := by omega
        have m0 : 0 ≤ (worM b k % 18446744073709551616).tmod (8 * sizM k) := Int.tmod_nonneg _ (by omega)
        have m1 : (worM b k % 18446744073709551616).tmod (8 * sizM k) < 8 * sizM k := Int.tmod_lt_of_pos _ (by omega)
        have HC := fun W => reckW_any op (worM a k) ((worM b k % 18446744073709551616).tmod (8 * sizM k)) W o1 o2 hx.1 hx.2 (by omega) (by omega) (fun h => absurd h (by omega)) (fun _ => by omega)
        rw [W128_low m0 (by omega)] at HC
        exact WrapS op k a b _ _ _ _ _ _ _ _ _ (8 * sizM k) _ w ho HB HLa HLb HW HS (bitsOf_any k) HN HC (HT _) (by simpa using hB0) hB0
  · exact WrapArg op k a b _ _ w ho HB
end Go.Proofs.YtobfpdhfmbpidaaDoor
