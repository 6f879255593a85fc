/-
  Numbers alone: what follows of kinds and of what is made a value of one.
-/
import Derived.Test.YtobfpdhfmbpidaaDoorEu
namespace Go.Proofs.YtobfpdhfmbpidaaDoor
open Go Go.RowKit
set_option linter.unusedVariables false
set_option linter.unusedSimpArgs false
theorem to_twiceW (v k : Int) : toM (toM v k) k = toM v k := by
  rcases kcases k with rfl | rfl | rfl | rfl | rfl | rfl | rfl | rfl | ⟨h1, h2, h3, h4, h5, h6, h7, h8⟩
  all_goals first
    | (simp only [toM, Int.reduceBEq, Bool.false_eq_true, if_false, if_true]; done)
    | (simp only [toM, Int.reduceBEq, Bool.false_eq_true, if_false, if_true]; omega)
    | simp [toM, *]
/-- 2 to the power of a kind's bits. -/
def mK (k : Int) : Int := if k == 1 then 256 else if k == 2 then 256 else if k == 3 then 65536 else if k == 4 then 65536 else if k == 5 then 4294967296 else if k == 6 then 4294967296 else 18446744073709551616
theorem kiM_cases {k : Int} (h : kiM k = true) : k = 1 ∨ k = 2 ∨ k = 3 ∨ k = 4 ∨ k = 5 ∨ k = 6 ∨ k = 7 ∨ k = 8 := by
  rcases kcases k with rfl | rfl | rfl | rfl | rfl | rfl | rfl | rfl | ⟨h1, h2, h3, h4, h5, h6, h7, h8⟩
  all_goals first | simp | (simp [kiM, *] at h)
theorem toK_mod {k : Int} (h : kiM k = true) (n : Int) : toK n k % mK k = n % mK k := by
  rcases kiM_cases h with rfl | rfl | rfl | rfl | rfl | rfl | rfl | rfl <;>
    (simp only [toK, toM, mK, wrap64, Int.reduceBEq, Bool.false_eq_true, if_false, if_true]; omega)
theorem toK_congr {k : Int} (h : kiM k = true) {n m : Int} (e : n % mK k = m % mK k) : toK n k = toK m k := by
  rcases kiM_cases h with rfl | rfl | rfl | rfl | rfl | rfl | rfl | rfl <;>
    (simp only [toK, toM, mK, wrap64, Int.reduceBEq, Bool.false_eq_true, if_false, if_true] at *; omega)
theorem worM_mod {k : Int} (h : kiM k = true) (v : Int) : worM v k % mK k = v % mK k := by
  rcases kiM_cases h with rfl | rfl | rfl | rfl | rfl | rfl | rfl | rfl <;>
    (simp only [worM, unsM, mK, Int.reduceBEq, Bool.false_eq_true, if_false, if_true]; try omega)
/-- The values that a kind's numbers stand for. -/
def rngK (x k : Int) : Prop := (k = 1 ∧ -128 ≤ x ∧ x < 128) ∨ (k = 2 ∧ 0 ≤ x ∧ x < 256) ∨ (k = 3 ∧ -32768 ≤ x ∧ x < 32768) ∨ (k = 4 ∧ 0 ≤ x ∧ x < 65536) ∨ (k = 5 ∧ -2147483648 ≤ x ∧ x < 2147483648) ∨ (k = 6 ∧ 0 ≤ x ∧ x < 4294967296) ∨ (k = 7 ∧ -9223372036854775808 ≤ x ∧ x < 9223372036854775808) ∨ (k = 8 ∧ 0 ≤ x ∧ x < 18446744073709551616)
theorem wor_rng {k v : Int} (h : kiM k = true) (h1 : -9223372036854775808 ≤ v) (h2 : v ≤ 9223372036854775807) (hl : toM v k = v) : rngK (worM v k) k := by
  rcases kiM_cases h with rfl | rfl | rfl | rfl | rfl | rfl | rfl | rfl <;>
    (simp only [rngK, worM, unsM, toM, Int.reduceBEq, Bool.false_eq_true, if_false, if_true] at *; simp; omega)
theorem toK_wor {k v : Int} (h : kiM k = true) (h1 : -9223372036854775808 ≤ v) (h2 : v ≤ 9223372036854775807) (hl : toM v k = v) : toK (worM v k) k = v := by
  rcases kiM_cases h with rfl | rfl | rfl | rfl | rfl | rfl | rfl | rfl <;>
    (simp only [toK, worM, unsM, toM, wrap64, Int.reduceBEq, Bool.false_eq_true, if_false, if_true] at *; omega)
theorem wor_toK {k n : Int} (hr : rngK n k) : worM (toK n k) k = n := by
  rcases hr with ⟨rfl, h⟩ | ⟨rfl, h⟩ | ⟨rfl, h⟩ | ⟨rfl, h⟩ | ⟨rfl, h⟩ | ⟨rfl, h⟩ | ⟨rfl, h⟩ | ⟨rfl, h⟩ <;>
    (simp only [toK, worM, unsM, toM, wrap64, Int.reduceBEq, Bool.false_eq_true, if_false, if_true]; omega)
theorem keep_rng {k n : Int} (hr : rngK n k) : keepM n k = true := by
  rcases hr with ⟨rfl, h⟩ | ⟨rfl, h⟩ | ⟨rfl, h⟩ | ⟨rfl, h⟩ | ⟨rfl, h⟩ | ⟨rfl, h⟩ | ⟨rfl, h⟩ | ⟨rfl, h⟩ <;>
    (simp only [keepM, toK, unsM, toM, wrap64, Int.reduceBEq, Bool.false_eq_true, if_false, if_true, Bool.true_or, Bool.false_or, beq_iff_eq]; try omega)
theorem rng_keep {k n : Int} (hk : k = 5 ∨ k = 7) (h : keepM n k = true) : rngK n k := by
  rcases hk with rfl | rfl <;>
    (simp only [rngK, keepM, toK, unsM, toM, wrap64, Int.reduceBEq, Bool.false_eq_true, if_false, if_true, Bool.false_or, beq_iff_eq] at *; simp; omega)
theorem lies_toK (n k : Int) (h : kiM k = true) : liesM (toK n k) k = true := by
  unfold liesM toK; rw [h, to_twiceW]; simp
theorem lies_toM (n k : Int) (h : kiM k = true) : liesM (toM n k) k = true := by
  unfold liesM; rw [h, to_twiceW]; simp
theorem lies_to {v k : Int} (h : liesM v k = true) : toM v k = v := by simp [liesM] at h; exact h.2
theorem pro_casesW {k : Int} (h : kiM k = true) : proM k = 5 ∨ proM k = 6 ∨ proM k = 7 ∨ proM k = 8 := pro_cases h
theorem usu_cases {a b : Int} (ha : kiM a = true) (hb : kiM b = true) : usuM a b = 5 ∨ usuM a b = 6 ∨ usuM a b = 7 ∨ usuM a b = 8 := by
  unfold usuM
  simp only [ha, hb, Bool.and_self, if_true]
  rcases pro_cases ha with e | e | e | e <;> rcases pro_cases hb with f | f | f | f <;> rw [e, f] <;> decide
theorem inK_cases {a b : Int} (op : Int) (ha : kiM a = true) (hb : kiM b = true) : inK op a b = 5 ∨ inK op a b = 6 ∨ inK op a b = 7 ∨ inK op a b = 8 := by
  unfold inK
  split
  · split
    · exact pro_cases ha
    · exact usu_cases ha hb
  · exact pro_cases ha
theorem ki_of {k : Int} (h : k = 5 ∨ k = 6 ∨ k = 7 ∨ k = 8) : kiM k = true := by rcases h with rfl | rfl | rfl | rfl <;> rfl
theorem er_of {k : Int} (h : kiM k = true) : erM k = 0 := by simp [erM, h]
theorem usu_comm {a b : Int} (ha : kiM a = true) (hb : kiM b = true) : usuM b a = usuM a b := by
  unfold usuM
  simp only [ha, hb, Bool.and_self, if_true]
  rcases pro_cases ha with e | e | e | e <;> rcases pro_cases hb with f | f | f | f <;> rw [e, f] <;> decide
theorem usu_usu {a b : Int} (ha : kiM a = true) (hb : kiM b = true) : usuM (usuM a b) b = usuM a b ∧ usuM (usuM a b) (usuM a b) = usuM a b := by
  have hk := ki_of (usu_cases ha hb)
  have key : ∀ x y : Int, (x = 5 ∨ x = 6 ∨ x = 7 ∨ x = 8) → (y = 5 ∨ y = 6 ∨ y = 7 ∨ y = 8) → usu2 (proM (usu2 x y)) y = usu2 x y ∧ usu2 (proM (usu2 x y)) (proM (usu2 x y)) = usu2 x y := by
    rintro x y (rfl | rfl | rfl | rfl) (rfl | rfl | rfl | rfl) <;> decide
  have e : usuM a b = usu2 (proM a) (proM b) := by simp [usuM, ha, hb]
  have k2 := key _ _ (pro_cases ha) (pro_cases hb)
  rw [← e] at k2
  constructor
  · rw [show usuM (usuM a b) b = usu2 (proM (usuM a b)) (proM b) by rw [show usuM (usuM a b) b = if kiM (usuM a b) && kiM b then usu2 (proM (usuM a b)) (proM b) else 0 from rfl, hk, hb]; rfl]; exact k2.1
  · rw [show usuM (usuM a b) (usuM a b) = usu2 (proM (usuM a b)) (proM (usuM a b)) by rw [show usuM (usuM a b) (usuM a b) = if kiM (usuM a b) && kiM (usuM a b) then usu2 (proM (usuM a b)) (proM (usuM a b)) else 0 from rfl, hk]; rfl]; exact k2.2
theorem tru_in (b : Bool) : tru b = 0 ∨ tru b = 1 := by cases b <;> simp [tru]
theorem toK_tru (b : Bool) {k : Int} (h : kiM k = true) : toK (tru b) k = tru b := by
  have ht := tru_in b
  generalize tru b = t at *
  rcases kiM_cases h with rfl | rfl | rfl | rfl | rfl | rfl | rfl | rfl <;>
    (simp only [toK, toM, wrap64, Int.reduceBEq, Bool.false_eq_true, if_false, if_true]; omega)
theorem keep_tru (b : Bool) {k : Int} (h : kiM k = true) : keepM (tru b) k = true := by
  unfold keepM
  rw [toK_tru b h]
  simp
end Go.Proofs.YtobfpdhfmbpidaaDoor
