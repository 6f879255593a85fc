/-
  ArithDivides.
-/
import Derived.Test.YtobfpdhfmbpidaaDoorEx3
import Derived.Test.YtobfpdhfmbpidaaDoorEy
namespace Go.Proofs.YtobfpdhfmbpidaaDoor
open Go Go.RowKit
set_option linter.unusedVariables false
set_option linter.unusedSimpArgs false
theorem tmod_between (x y : Int) : (0 ≤ x → 0 ≤ x.tmod y ∧ x.tmod y ≤ x) ∧ (x < 0 → x ≤ x.tmod y ∧ x.tmod y ≤ 0) := by
  have hx : 0 ≤ absI x := by unfold absI; split <;> omega
  have hy : 0 ≤ absI y := by unfold absI; split <;> omega
  have a2 : (absI x).tmod (absI y) ≤ absI x := by
    obtain ⟨m, hm⟩ := Int.eq_ofNat_of_zero_le hx
    obtain ⟨n, hn⟩ := Int.eq_ofNat_of_zero_le hy
    rw [hm, hn, ← Int.ofNat_tmod]
    exact Int.ofNat_le.2 (Nat.mod_le m n)
  have a1 := Int.tmod_nonneg (absI y) hx
  rw [tmod_abs]
  constructor
  · intro h
    rw [if_neg (by omega)]
    have : absI x = x := by unfold absI; rw [if_neg (by omega)]
    omega
  · intro h
    rw [if_pos h]
    have : absI x = -x := by unfold absI; rw [if_pos h]
    omega
theorem rng_between {x z k : Int} (h : rngK x k) (hz : (0 ≤ x → 0 ≤ z ∧ z ≤ x) ∧ (x < 0 → x ≤ z ∧ z ≤ 0)) : rngK z k := by
  unfold rngK at *
  by_cases h0 : 0 ≤ x
  · have := hz.1 h0; omega
  · have := hz.2 (by omega); omega
theorem prod_between (x y : Int) : (0 ≤ x → 0 ≤ x.tdiv y * y ∧ x.tdiv y * y ≤ x) ∧ (x < 0 → x ≤ x.tdiv y * y ∧ x.tdiv y * y ≤ 0) := by
  have e := Int.tdiv_mul_add_tmod x y
  have b := tmod_between x y
  constructor
  · intro h; have := b.1 h; omega
  · intro h; have := b.2 h; omega
theorem rng_tdiv {x y k : Int} (hx : rngK x k) (hy : rngK y k) (hk : k = 5 ∨ k = 6 ∨ k = 7 ∨ k = 8) (h : keepM (x.tdiv y) k = true) : rngK (x.tdiv y) k := by
  rcases hk with rfl | rfl | rfl | rfl
  · exact rng_keep (.inl rfl) h
  · have hx' : 0 ≤ x := by unfold rngK at hx; omega
    have hy' : 0 ≤ y := by unfold rngK at hy; omega
    have := tdiv_in x y hx' hy'
    exact rng_between hx ⟨fun _ => this, fun h => absurd hx' (by omega)⟩
  · exact rng_keep (.inr rfl) h
  · have hx' : 0 ≤ x := by unfold rngK at hx; omega
    have hy' : 0 ≤ y := by unfold rngK at hy; omega
    have := tdiv_in x y hx' hy'
    exact rng_between hx ⟨fun _ => this, fun h => absurd hx' (by omega)⟩
/-- Two, where the result lies in the kind. -/
theorem two3_ok {op a ak b bk : Int} (ho : ofM op = 2) (hs : shiM op = false) (hq : askM op = false) (la : liesM a ak = true) (lb : liesM b bk = true) {K X Y : Int} (hK : usuM ak bk = K) (hX : worM (toM a K) K = X) (hY : worM (toM b K) K = Y)
    (hd : defM op K X Y = true) (hr : rngK (recM op X Y) K) : two3 op a ak b bk = (toK (recM op X Y) K, K, 0) := by
  have e : inK op ak bk = K := by rw [← hK]; simp [inK, ho, hs]
  have eX : twoX op a ak bk = X := by unfold twoX; rw [e, hX]
  have eY : twoY op ak b bk = Y := by unfold twoY; rw [hs, e]; exact hY
  have kk : kiM K = true := by rw [← hK]; exact ki_of (usu_cases (lies_ki la) (lies_ki lb))
  have hb : strB op K X Y = true := by unfold strB; rw [hd, keep_rng hr]; rfl
  unfold two3 twoK
  rw [ho, la, lb, e, eX, eY]
  simp only [str0, str1, str2, hb, hq, if_true, Bool.false_eq_true, if_false, beq_self_eq_true, Bool.and_self, er_of kk]
theorem div_err (a ak b bk : Int) (h : (two3 4 a ak b bk).2.2 ≠ 0) : (two3 5 a ak b bk).2.2 = (two3 4 a ak b bk).2.2 := by
  unfold two3 at *
  rw [show ofM 4 = 2 from rfl] at *
  rw [show ofM 5 = 2 from rfl]
  simp only [beq_self_eq_true, if_true] at *
  cases hl : liesM a ak && liesM b bk
  · rfl
  · rw [hl] at h
    simp only [if_true] at *
    have eK : twoK 5 ak bk = twoK 4 ak bk := rfl
    have eX : twoX 5 a ak bk = twoX 4 a ak bk := rfl
    have eY : twoY 5 ak b bk = twoY 4 ak b bk := rfl
    rw [eK, eX, eY]
    rw [Bool.and_eq_true] at hl
    have kk : kiM (twoK 4 ak bk) = true := ki_of (inK_cases 4 (lies_ki hl.1) (lies_ki hl.2))
    unfold str2 at *
    cases h4 : strB 4 (twoK 4 ak bk) (twoX 4 a ak bk) (twoY 4 ak b bk)
    · have h5 : strB 5 (twoK 4 ak bk) (twoX 4 a ak bk) (twoY 4 ak b bk) = false := by
        unfold strB at *
        have e1 : defM 4 (twoK 4 ak bk) (twoX 4 a ak bk) (twoY 4 ak b bk) = (twoY 4 ak b bk != 0) := rfl
        have e2 : defM 5 (twoK 4 ak bk) (twoX 4 a ak bk) (twoY 4 ak b bk) = (twoY 4 ak b bk != 0 && keepM ((twoX 4 a ak bk).tdiv (twoY 4 ak b bk)) (twoK 4 ak bk)) := rfl
        have e3 : recM 4 (twoX 4 a ak bk) (twoY 4 ak b bk) = (twoX 4 a ak bk).tdiv (twoY 4 ak b bk) := rfl
        rw [e1, e3] at h4
        rw [e2, h4]
        rfl
      rw [h5]
    · rw [h4] at h
      simp [er_of kk] at h
theorem div_walk (a ak b bk : Int) (ha : i64b a) (hb : i64b b) (w : World) (hO : Ops w) (hw : 0 < w.heap.size) : Calls Tryd.prog 9 #[.int .i64 a, .int .i64 ak, .int .i64 b, .int .i64 bk] w fun e w' => e = .returned (.bool true) ∧ Below w.heap.size w w' := by
  have HH := shownAt hO hw
  have H1 := twoAt hO hw 4 a ak b bk ha hb
  have H2 := twoAt hO hw 5 a ak b bk ha hb
  rcases two3_or 4 a ak b bk with ⟨e1, e2⟩ | ⟨ho, la, lb, hs, e1⟩
  · have e3 := div_err a ak b bk e2
    unfold tupT at H1 H2
    rw [e3] at H2
    exact div_no a ak b bk _ _ _ _ _ w (by simpa using e2) (by simpa using e2) HH H1 H2
  · have ka := lies_ki la
    have kb := lies_ki lb
    obtain ⟨K, hK⟩ : ∃ K, usuM ak bk = K := ⟨_, rfl⟩
    have ki : K = 5 ∨ K = 6 ∨ K = 7 ∨ K = 8 := by rw [← hK]; exact usu_cases ka kb
    have kk := ki_of ki
    have eK : inK 4 ak bk = K := by rw [← hK]; rfl
    obtain ⟨X, hX⟩ : ∃ X, worM (toM a K) K = X := ⟨_, rfl⟩
    obtain ⟨Y, hY⟩ : ∃ Y, worM (toM b K) K = Y := ⟨_, rfl⟩
    have eX : twoX 4 a ak bk = X := by unfold twoX; rw [eK, hX]
    have eY : twoY 4 ak b bk = Y := by unfold twoY; rw [eK]; exact hY
    rw [eK, eX, eY] at hs
    have rX : rngK X K := by rw [← hX]; exact wor_rng kk (toM_in a K ha.1 ha.2).1 (toM_in a K ha.1 ha.2).2 (to_twiceW a K)
    have rY : rngK Y K := by rw [← hY]; exact wor_rng kk (toM_in b K hb.1 hb.2).1 (toM_in b K hb.1 hb.2).2 (to_twiceW b K)
    simp only [strB, Bool.and_eq_true] at hs
    have hY0 : Y ≠ 0 := def_div hs.1 (.inl rfl)
    have rn : rngK (X.tdiv Y) K := rng_tdiv rX rY ki hs.2
    have d5 : defM 5 K X Y = true := by
      show (Y != 0 && keepM (X.tdiv Y) K) = true
      rw [keep_rng rn, Bool.and_true]
      simpa using hY0
    have t4 := two3_ok (op := 4) rfl rfl rfl la lb hK hX hY hs.1 rn
    have t5 := two3_ok (op := 5) rfl rfl rfl la lb hK hX hY d5 (rng_between rX (tmod_between X Y))
    rw [t4] at H1
    rw [t5] at H2
    have uu := usu_usu ka kb
    rw [hK] at uu
    have wq : worM (toM (toK (X.tdiv Y) K) K) K = X.tdiv Y := by unfold toK; rw [to_twiceW]; exact wor_toK rn
    have t3 := two3_ok (op := 3) rfl rfl rfl (lies_toK (X.tdiv Y) K kk) lb uu.1 wq hY rfl (show rngK (X.tdiv Y * Y) K from rng_between rX (prod_between X Y))
    have wp : worM (toM (toK (X.tdiv Y * Y) K) K) K = X.tdiv Y * Y := by unfold toK; rw [to_twiceW]; exact wor_toK (rng_between rX (prod_between X Y))
    have wr : worM (toM (toK (X.tmod Y) K) K) K = X.tmod Y := by unfold toK; rw [to_twiceW]; exact wor_toK (rng_between rX (tmod_between X Y))
    have es : X.tdiv Y * Y + X.tmod Y = X := Int.tdiv_mul_add_tmod X Y
    have t1 := two3_ok (op := 1) rfl rfl rfl (lies_toK (X.tdiv Y * Y) K kk) (lies_toK (X.tmod Y) K kk) uu.2 wp wr rfl (show rngK (X.tdiv Y * Y + X.tmod Y) K by rw [es]; exact rX)
    rw [show recM 1 (X.tdiv Y * Y) (X.tmod Y) = X from es] at t1
    have H3 := twoAt hO hw 3 (toK (X.tdiv Y) K) K b bk (toK_b _ _) hb
    rw [t3] at H3
    have H4 := twoAt hO hw 1 (toK (X.tdiv Y * Y) K) K (toK (X.tmod Y) K) K (toK_b _ _) (toK_b _ _)
    rw [t1] at H4
    have HT : ∀ W, Calls Tryd.prog 27 #[.int .i64 a, .int .i64 K] W fun e w' => e = .returned (.tuple #[.int .i64 (toK X K), .int .i64 0]) ∧ w' = W := fun W => by
      have h := To_any a K W ha.1 ha.2
      rw [er_of kk] at h
      rw [← hX, toK_wor kk (toM_in a K ha.1 ha.2).1 (toM_in a K ha.1 ha.2).2 (to_twiceW a K)]
      exact h
    exact div_yes a ak b bk _ _ _ _ _ _ _ w HH H1 H2 H3 H4 HT
end Go.Proofs.YtobfpdhfmbpidaaDoor
