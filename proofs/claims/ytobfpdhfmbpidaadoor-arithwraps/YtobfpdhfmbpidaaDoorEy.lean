/-
  shown; ArithSame.
-/
import Derived.Test.YtobfpdhfmbpidaaDoorEx1
namespace Go.Proofs.YtobfpdhfmbpidaaDoor
open Go Go.RowKit
set_option linter.unusedVariables false
set_option linter.unusedSimpArgs false
theorem shown1 : tupT (two3 1 2147483647 5 1 6) = .tuple #[.int .i64 2147483648, .int .i64 6, .int .i64 0] := by kernel_rfl
theorem shown2 : tupT (two3 1 2147483647 5 1 5) = .tuple #[.int .i64 0, .int .i64 0, .int .i64 90] := by kernel_rfl
def i64b (a : Int) : Prop := -9223372036854775808 ≤ a ∧ a ≤ 9223372036854775807
theorem twoAt {w : World} (hO : Ops w) (hw : 0 < w.heap.size) (op a ak b bk : Int) (ha : i64b a) (hb : i64b b) :
    ∀ W, Below w.heap.size w W → Calls Tryd.prog 18 #[.int .i64 op, .int .i64 a, .int .i64 ak, .int .i64 b, .int .i64 bk] W fun e w' => e = .returned (tupT (two3 op a ak b bk)) ∧ Below W.heap.size W w' :=
  fun W hB => TwoW_any op a ak b bk W ha.1 ha.2 hb.1 hb.2 (hO.below hB hw) (Nat.lt_of_lt_of_le hw hB.size)
theorem wrapAt {w : World} (hO : Ops w) (hw : 0 < w.heap.size) (op k a b : Int) (ha : i64b a) (hb : i64b b) :
    ∀ W, Below w.heap.size w W → Calls Tryd.prog 22 #[.int .i64 op, .int .i64 k, .int .i64 a, .int .i64 b] W fun e w' => e = .returned (tupD (wra2 op k a b)) ∧ Below W.heap.size W w' :=
  fun W hB => WrapW_any op k a b W ha.1 ha.2 hb.1 hb.2 (hO.below hB hw) (Nat.lt_of_lt_of_le hw hB.size)
set_option maxRecDepth 100000 in
set_option maxHeartbeats 1000000 in
theorem shown_any (w : World) (hO : Ops w) (hw : 0 < w.heap.size) : Calls Tryd.prog 11 #[] w fun e w' => e = .returned (.bool true) ∧ Below w.heap.size w w' := by
  have H1 := veil (twoAt hO hw 1 2147483647 5 1 6 ⟨by decide, by decide⟩ ⟨by decide, by decide⟩)
  have H2 := veil (twoAt hO hw 1 2147483647 5 1 5 ⟨by decide, by decide⟩ ⟨by decide, by decide⟩)
  simp only [shown1] at H1
  simp only [shown2] at H2
  clear hO hw
  have HB0 := veil (Below.refl w.heap.size w)
  go_enter Tryd.func11, Tryd.ntmps11
  go_wp2_with fail
  refine (unveil H1 _ (unveil HB0)).mono ?_
  rintro e W1 ⟨rfl, hb⟩
  have HB1 := veil ((unveil HB0).trans (hb.mono (unveil HB0).size))
  clear hb HB0
  go_wp2_with fail
  refine (unveil H2 _ (unveil HB1)).mono ?_
  rintro e W2 ⟨rfl, hb⟩
  have HB2 := veil ((unveil HB1).trans (hb.mono (unveil HB1).size))
  clear hb HB1
  go_wp2
  go_ret
  exact ⟨rfl, unveil HB2⟩
theorem shownAt {w : World} (hO : Ops w) (hw : 0 < w.heap.size) : ∀ W, Below w.heap.size w W → Calls Tryd.prog 11 #[] W fun e w' => e = .returned (.bool true) ∧ Below W.heap.size W w' :=
  fun W hB => shown_any W (hO.below hB hw) (Nat.lt_of_lt_of_le hw hB.size)
/-- Two tells an error and nothing else, or it reckons. -/
theorem two3_or (op a ak b bk : Int) : (two3 op a ak b bk = (0, 0, (two3 op a ak b bk).2.2) ∧ (two3 op a ak b bk).2.2 ≠ 0) ∨
    (ofM op = 2 ∧ liesM a ak = true ∧ liesM b bk = true ∧ strB op (inK op ak bk) (twoX op a ak bk) (twoY op ak b bk) = true ∧
      two3 op a ak b bk = (toK (recM op (twoX op a ak bk) (twoY op ak b bk)) (inK op ak bk), (if askM op then 5 else inK op ak bk), 0)) := by
  unfold two3 twoK
  cases ho : ofM op == 2
  · left; exact ⟨rfl, by simp⟩
  · simp only [if_true]
    cases hl : liesM a ak && liesM b bk
    · left; exact ⟨rfl, by simp⟩
    · simp only [if_true]
      rw [Bool.and_eq_true] at hl
      unfold str0 str1 str2
      cases hs : strB op (inK op ak bk) (twoX op a ak bk) (twoY op ak b bk)
      · left; exact ⟨rfl, by simp⟩
      · right
        simp only [if_true]
        refine ⟨by simpa using ho, hl.1, hl.2, by first | trivial | exact hs, ?_⟩
        rw [er_of (ki_of (inK_cases op (lies_ki hl.1) (lies_ki hl.2)))]
theorem lies_b {v k : Int} (hv : i64b v) : i64b (toM v k) := toM_in v k hv.1 hv.2
theorem toK_b (n k : Int) : i64b (toK n k) := toM_in _ k (w64_in n).1 (w64_in n).2
theorem inE_ok {op ak bk : Int} (ho : ofM op = 2) (ha : kiM ak = true) (hb : kiM bk = true) : inE op ak bk = 0 := by simp [inE, ho, uerM, ha, hb]
theorem shift_small {b bk k : Int} (hb : i64b b) (hl : liesM b bk = true) (hi : inbM (worM b bk) k = true) (hk : k = 5 ∨ k = 6 ∨ k = 7 ∨ k = 8) :
    (worM (toM b k) k % 18446744073709551616).tmod (8 * sizM k) = worM b bk ∧ worM b bk = b ∧ 0 ≤ b ∧ b < 8 * sizM k := by
  have hs := siz_in k
  have h1 := hb.1
  have h2 := hb.2
  simp only [inbM, Bool.and_eq_true, Bool.not_eq_true', decide_eq_false_iff_not, decide_eq_true_eq] at hi
  have e : worM b bk = b := by
    have hi1 := hi.1
    have hi2 := hi.2
    unfold worM at *
    split
    · rename_i hu
      simp only [hu, if_true] at hi1 hi2
      omega
    · rfl
  rw [e] at hi ⊢
  have e2 : toM b k = b := by
    rcases hk with rfl | rfl | rfl | rfl <;> (simp only [toM, Int.reduceBEq, Bool.false_eq_true, if_false, if_true]; try omega)
  have e3 : worM b k = b := by unfold worM; split <;> omega
  rw [e2, e3, Int.emod_eq_of_lt (by omega) (by omega), Int.tmod_eq_of_lt (by omega) (by omega)]
  exact ⟨rfl, rfl, by omega, by omega⟩
/-- What Two makes is what Wrap makes of both as values of the kind in which is reckoned. -/
theorem same_math {op a ak b bk : Int} (ha : i64b a) (hb : i64b b) (ho : ofM op = 2) (la : liesM a ak = true) (lb : liesM b bk = true) (hs : strB op (inK op ak bk) (twoX op a ak bk) (twoY op ak b bk) = true) :
    wra2 op (inK op ak bk) (toM a (inK op ak bk)) (toM b (inK op ak bk)) = (toK (recM op (twoX op a ak bk) (twoY op ak b bk)) (inK op ak bk), 0) := by
  have ki := inK_cases op (lies_ki la) (lies_ki lb)
  have kk := ki_of ki
  simp only [strB, Bool.and_eq_true] at hs
  unfold wra2
  rw [ho, lies_toM _ _ kk, lies_toM _ _ kk, er_of kk]
  simp only [Int.reduceBEq, Bool.false_eq_true, if_false, if_true, Bool.and_self]
  have ex : twoX op a ak bk = worM (toM a (inK op ak bk)) (inK op ak bk) := rfl
  cases hsh : shiM op
  · have ey : twoY op ak b bk = worM (toM b (inK op ak bk)) (inK op ak bk) := by unfold twoY; rw [hsh]; rfl
    have ew : wraY op (inK op ak bk) (toM b (inK op ak bk)) = worM (toM b (inK op ak bk)) (inK op ak bk) := by unfold wraY; rw [hsh]; rfl
    rw [ew, ← ex, ← ey]
    have h45 : op = 4 ∨ op = 5 → twoY op ak b bk ≠ 0 := fun h => def_div hs.1 h
    have z : ∀ n : Int, (n = 4 ∨ n = 5) → (op == n && twoY op ak b bk == 0) = false := by
      intro n hn
      cases hq : (op == n && twoY op ak b bk == 0)
      · rfl
      · simp only [Bool.and_eq_true, beq_iff_eq] at hq
        exact absurd hq.2 (h45 (by omega))
    rw [z 4 (.inl rfl), z 5 (.inr rfl)]
    rfl
  · have hyes := shi_iff.1 hsh
    have ey : twoY op ak b bk = worM b bk := by unfold twoY; rw [hsh]; rfl
    have hib : inbM (worM b bk) (inK op ak bk) = true := by
      have := hs.1
      rw [ey] at this
      rcases hyes with rfl | rfl
      · simp [defM] at this; exact this.2
      · simp [defM] at this; exact this
    obtain ⟨e1, e2, e3, e4⟩ := shift_small hb lb hib ki
    have ew : wraY op (inK op ak bk) (toM b (inK op ak bk)) = worM b bk := by unfold wraY; rw [hsh]; exact e1
    rw [ew, ← ex, ← ey]
    have q4 : (op == 4) = false := by simp only [beq_eq_false_iff_ne, ne_eq]; omega
    have q5 : (op == 5) = false := by simp only [beq_eq_false_iff_ne, ne_eq]; omega
    rw [q4, q5]
    rfl
theorem ask_tru {op x y : Int} (ho : ofM op = 2) (ha : askM op = true) : ∃ b, recM op x y = tru b := by
  simp only [askM, Bool.or_eq_true, beq_iff_eq] at ha
  rcases ha with (((rfl | rfl) | rfl) | rfl) | rfl
  · exact ⟨_, rfl⟩
  · exact ⟨_, rfl⟩
  · exact ⟨_, rfl⟩
  · exact ⟨_, rfl⟩
  · exact ⟨_, rfl⟩
theorem same_walk (op a ak b bk : Int) (ha : i64b a) (hb : i64b b) (w : World) (hO : Ops w) (hw : 0 < w.heap.size) : Calls Tryd.prog 7 #[.int .i64 op, .int .i64 a, .int .i64 ak, .int .i64 b, .int .i64 bk] w fun e w' => e = .returned (.bool true) ∧ Below w.heap.size w w' := by
  have HH := shownAt hO hw
  have H1 := twoAt hO hw op a ak b bk ha hb
  rcases two3_or op a ak b bk with ⟨e1, e2⟩ | ⟨ho, la, lb, hs, e1⟩
  · rw [e1] at H1
    exact same_no op a ak b bk _ w (by simpa using e2) (by simpa using e2) HH H1
  · rw [e1] at H1
    have ka := lies_ki la
    have kb := lies_ki lb
    have ki := inK_cases op ka kb
    have kk := ki_of ki
    have HW := wrapAt hO hw op (inK op ak bk) (toM a (inK op ak bk)) (toM b (inK op ak bk)) (lies_b ha) (lies_b hb)
    rw [same_math ha hb ho la lb hs] at HW
    have HR : ∀ W, Below w.heap.size w W → Calls Tryd.prog 12 #[.int .i64 op, .int .i64 ak, .int .i64 bk] W fun e w' => e = .returned (.tuple #[.int .i64 (if askM op then 5 else inK op ak bk), .int .i64 0]) ∧ Below W.heap.size W w' := fun W hB => by
      have h := Result_any op ak bk W (hO.below hB hw) (Nat.lt_of_lt_of_le hw hB.size)
      rw [show resK op ak bk = (if askM op then 5 else inK op ak bk) by simp [resK, ho, inE_ok ho ka kb], show resE op ak bk = 0 by simp [resE, ho, inE_ok ho ka kb]] at h
      exact h
    have HU : ∀ W, Calls Tryd.prog 24 #[.int .i64 ak, .int .i64 bk] W fun e w' => e = .returned (.tuple #[.int .i64 (usuM ak bk), .int .i64 0]) ∧ w' = W := fun W => by
      have h := Usual_any ak bk W
      rw [show uerM ak bk = 0 by simp [uerM, ka, kb]] at h
      exact h
    have HTo : ∀ v, i64b v → ∀ W, Calls Tryd.prog 27 #[.int .i64 v, .int .i64 (inK op ak bk)] W fun e w' => e = .returned (.tuple #[.int .i64 (toM v (inK op ak bk)), .int .i64 0]) ∧ w' = W := fun v hv W => by
      have h := To_any v (inK op ak bk) W hv.1 hv.2
      rw [er_of kk] at h
      exact h
    have hli : liesM (toK (recM op (twoX op a ak bk) (twoY op ak b bk)) (inK op ak bk)) (if askM op then 5 else inK op ak bk) = true := by
      cases hq : askM op
      · exact lies_toK _ _ kk
      · obtain ⟨t, ht⟩ := ask_tru (x := twoX op a ak bk) (y := twoY op ak b bk) ho hq
        rw [ht, toK_tru t kk]
        have := lies_toK (tru t) 5 rfl
        rw [toK_tru t rfl] at this
        exact this
    have HL : ∀ W, Calls Tryd.prog 28 #[.int .i64 (toK (recM op (twoX op a ak bk) (twoY op ak b bk)) (inK op ak bk)), .int .i64 (if askM op then 5 else inK op ak bk)] W fun e w' => e = .returned (.bool true) ∧ w' = W := fun W => by
      have h := Lies_any (toK (recM op (twoX op a ak bk) (twoY op ak b bk)) (inK op ak bk)) (if askM op then 5 else inK op ak bk) W (toK_b _ _).1 (toK_b _ _).2
      rw [hli] at h
      exact h
    have HI := lshift_any op
    cases hsh : shiM op
    · have ei : inK op ak bk = usuM ak bk := by simp [inK, ho, hsh]
      rw [hsh] at HI
      rw [← ei] at HU
      exact same_N op a ak b bk _ _ _ 0 _ _ w HH H1 HW HR HU HI (HTo a ha) (HTo b hb) HL
    · have ei : inK op ak bk = proM ak := by simp [inK, ho, hsh, ka, kb]
      rw [hsh] at HI
      have HP : ∀ W, Calls Tryd.prog 26 #[.int .i64 ak] W fun e w' => e = .returned (.tuple #[.int .i64 (inK op ak bk), .int .i64 0]) ∧ w' = W := fun W => by
        have h := Promoted_any ak W
        rw [er_of ka, ← ei] at h
        exact h
      exact same_S op a ak b bk _ _ _ _ _ _ w HH H1 HW HR HU HI HP (HTo a ha) (HTo b hb) HL
end Go.Proofs.YtobfpdhfmbpidaaDoor
