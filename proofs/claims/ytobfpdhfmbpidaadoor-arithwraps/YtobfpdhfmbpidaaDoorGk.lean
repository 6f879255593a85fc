/-
  The document's own Two in plain numbers: it tells what the program's tells.
-/
import Derived.Test.YtobfpdhfmbpidaaDoorGj
import Derived.Test.YtobfpdhfmbpidaaDoorGf
import Derived.Test.YtobfpdhfmbpidaaDoorGg
import Derived.Test.YtobfpdhfmbpidaaDoorGt
namespace Go.Proofs.YtobfpdhfmbpidaaDoor
open Go Go.RowKit
set_option linter.unusedVariables false
set_option linter.unusedSimpArgs false
theorem inb_eq {b bk k : Int} (hb : i64b b) : inbM (worM b bk) k = (!decide (b < 0) && decide (b < 8 * sizM k)) := by
  have h1 := hb.1; have h2 := hb.2
  have hs := siz_in k
  unfold inbM worM
  split
  · by_cases h0 : b < 0
    · rw [show decide (b % 18446744073709551616 < 8 * sizM k) = false by simp; omega, show decide (b < 0) = true by simpa using h0]; simp
    · rw [show b % 18446744073709551616 = b by omega]
  · rfl
/-- What Two tells where it reckons. -/
theorem two3_yes {op a ak b bk : Int} (ho : ofM op = 2) (la : liesM a ak = true) (lb : liesM b bk = true) :
    two3 op a ak b bk = if strB op (inK op ak bk) (twoX op a ak bk) (twoY op ak b bk) then (toK (recM op (twoX op a ak bk) (twoY op ak b bk)) (inK op ak bk), (if askM op then 5 else inK op ak bk), 0) else (0, 0, 90) := by
  unfold two3 twoK
  rw [ho, la, lb]
  simp only [beq_self_eq_true, if_true, Bool.and_self]
  unfold str0 str1 str2
  rw [er_of (ki_of (inK_cases op (lies_ki la) (lies_ki lb)))]
  split <;> rfl
theorem shl_sure {K a : Int} {n : Nat} (hK : K = 5 ∨ K = 7) (ha : liesM a K = true) (hn : (n : Int) < 8 * sizM K) : (toM (wrap64 (a * 2 ^ n)) K / 2 ^ n == a) = (toK (a * 2 ^ n) K == a * 2 ^ n) := by
  have p : (0 : Int) < 2 ^ n := Int.pow_pos (by decide)
  have kk : kiM K = true := by rcases hK with rfl | rfl <;> rfl
  have hm := toK_mod kk (a * 2 ^ n)
  have hpn : (2 : Int) ^ n < mK K := by
    have e : (2 : Int) ^ n = ((2 ^ n : Nat) : Int) := by simp
    rw [e]
    rcases hK with rfl | rfl
    · have h2 : n < 32 := by simp only [sizM, Int.reduceBEq, Bool.false_eq_true, if_false, if_true] at hn; omega
      have : 2 ^ n < 2 ^ 32 := Nat.pow_lt_pow_right (by decide) h2
      show ((2 ^ n : Nat) : Int) < 4294967296
      omega
    · have h2 : n < 64 := by simp only [sizM, Int.reduceBEq, Bool.false_eq_true, if_false, if_true] at hn; omega
      have : 2 ^ n < 2 ^ 64 := Nat.pow_lt_pow_right (by decide) h2
      show ((2 ^ n : Nat) : Int) < 18446744073709551616
      omega
  have mp : 0 < mK K := by rcases hK with rfl | rfl <;> decide
  show (toK (a * 2 ^ n) K / 2 ^ n == a) = _
  generalize toK (a * 2 ^ n) K = v at *
  cases h : v == a * 2 ^ n
  · have h' : v ≠ a * 2 ^ n := by simpa using h
    simp only [beq_eq_false_iff_ne, ne_eq]
    intro hd
    apply h'
    have q := Int.mul_ediv_add_emod v (2 ^ n)
    rw [hd, Int.mul_comm] at q
    have r0 := Int.emod_nonneg v (b := 2 ^ n) (by omega)
    have r1 := Int.emod_lt_of_pos v p
    have hs : (v - a * 2 ^ n) % mK K = 0 := Int.emod_eq_emod_iff_emod_sub_eq_zero.1 hm
    generalize a * 2 ^ n = c at *
    generalize v % 2 ^ n = r at *
    have hv : v - c = r := by omega
    rw [hv, Int.emod_eq_of_lt r0 (by omega)] at hs
    omega
  · simp only [beq_iff_eq] at h
    rw [h, Int.mul_ediv_cancel _ (by omega)]
    simp
theorem down_rng {x k : Int} (h : rngK x k) (n : Nat) : rngK (x / 2 ^ n) k := by
  have p : (0 : Int) < 2 ^ n := Int.pow_pos (by decide)
  have p1 : (1 : Int) ≤ 2 ^ n := by omega
  have hz : (0 ≤ x → 0 ≤ x / 2 ^ n ∧ x / 2 ^ n ≤ x) ∧ (x < 0 → x ≤ x / 2 ^ n ∧ x / 2 ^ n ≤ 0) := by
    constructor
    · intro h0
      exact ⟨Int.ediv_nonneg h0 (by omega), Int.ediv_le_self _ h0⟩
    · intro h0
      refine ⟨(Int.le_ediv_iff_mul_le p).2 ?_, by have := Int.ediv_neg_of_neg_of_pos h0 p; omega⟩
      have hm : x * (2 : Int) ^ n ≤ x * 1 := Int.mul_le_mul_of_nonpos_left (by first | omega | exact p1) (by first | omega | exact p1)
      omega
  exact rng_between h hz
theorem i64_rng {x k : Int} (h : rngK x k) (hk : k ≠ 8) : i64b x := by
  unfold rngK at h; unfold i64b; omega
theorem rngK_of {a k : Int} (ha : i64b a) (h : liesM a k = true) : rngK (worM a k) k := wor_rng (lies_ki h) ha.1 ha.2 (lies_to h)
/-- A shift of the document. -/
theorem sh_eq {op a ak b bk : Int} (ho : op = 6 ∨ op = 7) (ha : i64b a) (hb : i64b b) (la : liesM a ak = true) (lb : liesM b bk = true) (h0 : ¬ b < 0) (h1 : b < 8 * sizM (inK op ak bk)) :
    two3 op a ak b bk = if rshB op (inK op ak bk) a b.toNat then (rshV op (inK op ak bk) a b.toNat, inK op ak bk, 0) else (0, 0, 90) := by
  have h2 : ofM op = 2 := by rcases ho with rfl | rfl <;> rfl
  have hsh : shiM op = true := by rcases ho with rfl | rfl <;> rfl
  have hask : askM op = false := by rcases ho with rfl | rfl <;> rfl
  have ka := lies_ki la
  have kb := lies_ki lb
  have eK : inK op ak bk = proM ak := by simp [inK, h2, hsh, ka, kb]
  have ki := inK_cases op ka kb
  have kk := ki_of ki
  have lK : liesM a (inK op ak bk) = true := by rw [eK]; exact pro_lies la
  have eX : twoX op a ak bk = worM a (inK op ak bk) := by unfold twoX; rw [lies_to lK]
  have hib : inbM (worM b bk) (inK op ak bk) = true := by rw [inb_eq hb]; simp; omega
  have eY : twoY op ak b bk = worM b bk := by unfold twoY; rw [hsh]; rfl
  obtain ⟨_, eb, _, _⟩ := shift_small hb lb hib ki
  have eY2 : twoY op ak b bk = ((b.toNat : Nat) : Int) := by rw [eY, eb]; omega
  have hn : ((b.toNat : Nat) : Int) < 8 * sizM (inK op ak bk) := by omega
  rw [two3_yes h2 la lb, hask]
  simp only [Bool.false_eq_true, if_false]
  rw [eX]
  generalize hK : inK op ak bk = K at *
  have rX := rngK_of ha lK
  have hibY : inbM (twoY op ak b bk) K = true := by rw [eY]; exact hib
  have etn : (twoY op ak b bk).toNat = b.toNat := by rw [eY2]; omega
  rcases ho with rfl | rfl
  · have er : recM 6 (worM a K) (twoY 6 ak b bk) = worM a K * 2 ^ b.toNat := by show worM a K * 2 ^ (twoY 6 ak b bk).toNat = _; rw [etn]
    have ed : defM 6 K (worM a K) (twoY 6 ak b bk) = !decide (worM a K < 0) := by
      show (!decide (worM a K < 0) && inbM (twoY 6 ak b bk) K) = _
      rw [hibY, Bool.and_true]
    have ev : toK (worM a K * 2 ^ b.toNat) K = rshV 6 K a b.toNat := by
      show _ = toM (wrap64 (a * 2 ^ b.toNat)) K
      exact toK_congr kk (mul_mod (worM_mod kk a) rfl)
    unfold strB
    rw [er, ed, ev]
    cases hu : unsM K
    · have hK57 : K = 5 ∨ K = 7 := by rcases ki with rfl | rfl | rfl | rfl <;> first | exact .inl rfl | exact .inr rfl | cases hu
      have ew : worM a K = a := worM_s a K hu
      have eb2 : rshB 6 K a b.toNat = (decide (0 ≤ a) && (toM (wrap64 (a * 2 ^ b.toNat)) K / 2 ^ b.toNat == a)) := by simp [rshB, hu]
      rw [eb2, shl_sure hK57 lK hn, ew]
      unfold keepM
      rw [hu, Bool.false_or, show (!decide (a < 0)) = decide (0 ≤ a) by by_cases h : 0 ≤ a <;> simp [h] <;> omega]
    · have h0X : ¬ worM a K < 0 := by unfold rngK at rX; rcases ki with rfl | rfl | rfl | rfl <;> first | (cases hu; done) | omega
      have eb2 : rshB 6 K a b.toNat = true := by simp [rshB, hu]
      have ekp : keepM (worM a K * 2 ^ b.toNat) K = true := by unfold keepM; rw [hu]; rfl
      rw [eb2, ekp, show decide (worM a K < 0) = false by simpa using h0X]
      rfl
  · have er : recM 7 (worM a K) (twoY 7 ak b bk) = worM a K / 2 ^ b.toNat := by show worM a K / 2 ^ (twoY 7 ak b bk).toNat = _; rw [etn]
    have ed : defM 7 K (worM a K) (twoY 7 ak b bk) = true := hibY
    have rr := down_rng rX b.toNat
    unfold strB
    rw [er, ed, keep_rng rr]
    have ev : toK (worM a K / 2 ^ b.toNat) K = rshV 7 K a b.toNat := by
      by_cases h8 : K = 8
      · subst h8
        show toM (wrap64 (worM a 8 / 2 ^ b.toNat)) 8 = wrap64 (IntKind.u64.wrap a / 2 ^ b.toNat)
        rw [wor_8, u64_of]
        rfl
      · rw [wor_plain h8 lK] at rr ⊢
        show toM (wrap64 (a / 2 ^ b.toNat)) K = rshV 7 K a b.toNat
        rw [show rshV 7 K a b.toNat = a / 2 ^ b.toNat by simp [rshV, h8], w64_id (i64_rng rr h8)]
        have := wor_toK rr
        have e3 := lies_toK (a / 2 ^ b.toNat) K kk
        rw [wor_plain h8 e3] at this
        unfold toK at this
        rw [w64_id (i64_rng rr h8)] at this
        exact this
    rw [ev]
    rfl
end Go.Proofs.YtobfpdhfmbpidaaDoor
