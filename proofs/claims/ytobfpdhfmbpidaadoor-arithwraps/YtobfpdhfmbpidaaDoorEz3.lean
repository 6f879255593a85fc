/-
  ArithRounds.
-/
import Derived.Test.YtobfpdhfmbpidaaDoorEx3
import Derived.Test.YtobfpdhfmbpidaaDoorEy
namespace Go.Proofs.YtobfpdhfmbpidaaDoor
open Go Go.RowKit
set_option linter.unusedVariables false
set_option linter.unusedSimpArgs false
theorem and_or_nat (a : Nat) : ∀ b : Nat, (a &&& b) + (a ||| b) = a + b := by
  induction a using Nat.strongRecOn with
  | _ a ih =>
    intro b
    by_cases h0 : a = 0
    · subst h0; simp
    · have h := ih (a / 2) (by omega) (b / 2)
      have e1 := Nat.and_div_two_pow (a := a) (b := b) (n := 1)
      have e2 := Nat.and_mod_two_pow (a := a) (b := b) (n := 1)
      have e3 := Nat.or_div_two_pow (a := a) (b := b) (n := 1)
      have e4 := Nat.or_mod_two_pow (a := a) (b := b) (n := 1)
      simp only [Nat.pow_one] at e1 e2 e3 e4
      rw [← e1, ← e3] at h
      have ha : a % 2 = 0 ∨ a % 2 = 1 := by omega
      have hb : b % 2 = 0 ∨ b % 2 = 1 := by omega
      generalize a &&& b = x at *
      generalize a ||| b = y at *
      rcases ha with ha | ha <;> rcases hb with hb | hb <;> rw [ha, hb] at e2 e4 <;> simp at e2 e4 <;> omega
theorem and_or_mod (x y : Int) : (andI x y + orI x y - (x + y)) % 340282366920938463463374607431768211456 = 0 := by
  have ha : ∀ z : BitVec 128, (bvI z - z.toNat) % 340282366920938463463374607431768211456 = 0 := by
    intro z
    have hlt := z.isLt
    unfold bvI
    rw [BitVec.toInt_eq_toNat_cond]
    have e : (2 : Nat) ^ 128 = 340282366920938463463374607431768211456 := by decide
    rw [e] at *
    split <;> omega
  have h1 := ha (BitVec.ofInt 128 x &&& BitVec.ofInt 128 y)
  have h2 := ha (BitVec.ofInt 128 x ||| BitVec.ofInt 128 y)
  rw [BitVec.toNat_and, ofInt_nat, ofInt_nat] at h1
  rw [BitVec.toNat_or, ofInt_nat, ofInt_nat] at h2
  have h3 := and_or_nat (x % 340282366920938463463374607431768211456).toNat (y % 340282366920938463463374607431768211456).toNat
  unfold andI orI
  generalize bvI (BitVec.ofInt 128 x &&& BitVec.ofInt 128 y) = p at *
  generalize bvI (BitVec.ofInt 128 x ||| BitVec.ofInt 128 y) = q at *
  generalize (x % 340282366920938463463374607431768211456).toNat &&& (y % 340282366920938463463374607431768211456).toNat = r at *
  generalize (x % 340282366920938463463374607431768211456).toNat ||| (y % 340282366920938463463374607431768211456).toNat = s at *
  omega
theorem mK_dvd {k : Int} (h : kiM k = true) {n : Int} (e : n % 340282366920938463463374607431768211456 = 0) : n % mK k = 0 := by
  rcases kiM_cases h with rfl | rfl | rfl | rfl | rfl | rfl | rfl | rfl <;>
    (simp only [mK, Int.reduceBEq, Bool.false_eq_true, if_false, if_true]; omega)
theorem mod_of_sub {n m d : Int} (h : (n - m) % d = 0) : n % d = m % d := Int.emod_eq_emod_iff_emod_sub_eq_zero.2 h
/-- Wrap of values of a kind. -/
theorem wra2_ok {op k a b : Int} (h0 : (ofM op == 0) = false) (h4 : (op == 4) = false) (h5 : (op == 5) = false) (hs : shiM op = false) (la : liesM a k = true) (lb : liesM b k = true) :
    wra2 op k a b = (toK (recM op (worM a k) (worM b k)) k, 0) := by
  unfold wra2 wraY
  rw [h0, h4, h5, hs, la, lb, er_of (lies_ki la)]
  simp
theorem wra2_lies {op k a b : Int} (h0 : (ofM op == 0) = false) (hl : (liesM a k && liesM b k) = false) : wra2 op k a b = (0, 80) := by
  unfold wra2
  rw [h0, hl]
  simp
theorem lies_0 {k : Int} (h : kiM k = true) : liesM 0 k = true := by
  rcases kiM_cases h with rfl | rfl | rfl | rfl | rfl | rfl | rfl | rfl <;> decide
/-- What was made a value stands for what it was, but for going round. -/
theorem wor_toK_mod {k : Int} (h : kiM k = true) (n : Int) : worM (toK n k) k % mK k = n % mK k := by rw [worM_mod h, toK_mod h]
theorem add_mod {x y x' y' m : Int} (h1 : x % m = x' % m) (h2 : y % m = y' % m) : (x + y) % m = (x' + y') % m := by rw [Int.add_emod, h1, h2, ← Int.add_emod]
theorem mul_mod {x y x' y' m : Int} (h1 : x % m = x' % m) (h2 : y % m = y' % m) : (x * y) % m = (x' * y') % m := by rw [Int.mul_emod, h1, h2, ← Int.mul_emod]
theorem rnd_walk (k a b : Int) (ha : i64b a) (hb : i64b b) (w : World) (hO : Ops w) (hw : 0 < w.heap.size) : Calls Tryd.prog 10 #[.int .i64 k, .int .i64 a, .int .i64 b] w fun e w' => e = .returned (.bool true) ∧ Below w.heap.size w w' := by
  have HH := shownAt hO hw
  have z0 : i64b 0 := ⟨by decide, by decide⟩
  have H1 := wrapAt hO hw 2 k a b ha hb
  have H2 := wrapAt hO hw 15 k b 0 hb z0
  cases hl : liesM a k && liesM b k
  · rw [wra2_lies rfl hl] at H1
    exact rnd_no k a b _ _ _ _ w rfl rfl HH H1 H2
  · rw [Bool.and_eq_true] at hl
    obtain ⟨la, lb⟩ := hl
    have kk := lies_ki la
    have l0 := lies_0 kk
    have H8 := wrapAt hO hw 16 k a 0 ha z0
    have H4 := wrapAt hO hw 8 k a b ha hb
    have H5 := wrapAt hO hw 10 k a b ha hb
    have H7 := wrapAt hO hw 1 k a b ha hb
    have Hb := wrapAt hO hw 3 k b b hb hb
    rw [wra2_ok rfl rfl rfl rfl la lb] at H1 H4 H5 H7
    rw [wra2_ok rfl rfl rfl rfl lb l0] at H2
    rw [wra2_ok rfl rfl rfl rfl la l0] at H8
    rw [wra2_ok rfl rfl rfl rfl lb lb] at Hb
    rw [show recM 15 (worM b k) (worM 0 k) = -worM b k from rfl] at H2
    rw [show recM 2 (worM a k) (worM b k) = worM a k - worM b k from rfl] at H1
    rw [show recM 1 (worM a k) (worM b k) = worM a k + worM b k from rfl] at H7
    rw [show recM 8 (worM a k) (worM b k) = andI (worM a k) (worM b k) from rfl] at H4
    rw [show recM 10 (worM a k) (worM b k) = orI (worM a k) (worM b k) from rfl] at H5
    rw [show recM 3 (worM b k) (worM b k) = worM b k * worM b k from rfl] at Hb
    generalize hA : worM a k = A at *
    generalize hB : worM b k = B at *
    have ln := lies_toK (-B) k kk
    have lx := lies_toK (andI A B) k kk
    have ly := lies_toK (orI A B) k kk
    have wn := wor_toK_mod kk (-B)
    have H3 := wrapAt hO hw 1 k a (toK (-B) k) ha (toK_b _ _)
    have H6 := wrapAt hO hw 1 k (toK (andI A B) k) (toK (orI A B) k) (toK_b _ _) (toK_b _ _)
    have H9 := wrapAt hO hw 2 k (toK (-B) k) b (toK_b _ _) hb
    have Ha := wrapAt hO hw 3 k (toK (-B) k) (toK (-B) k) (toK_b _ _) (toK_b _ _)
    rw [wra2_ok rfl rfl rfl rfl la ln, hA] at H3
    rw [wra2_ok rfl rfl rfl rfl lx ly] at H6
    rw [wra2_ok rfl rfl rfl rfl ln lb] at H9
    rw [wra2_ok rfl rfl rfl rfl ln ln] at Ha
    have e3 : toK (recM 1 A (worM (toK (-B) k) k)) k = toK (A - B) k := toK_congr kk (show (A + worM (toK (-B) k) k) % mK k = (A - B) % mK k by
      rw [show A - B = A + -B by omega]; exact add_mod rfl wn)
    have e6 : toK (recM 1 (worM (toK (andI A B) k) k) (worM (toK (orI A B) k) k)) k = toK (A + B) k := toK_congr kk (show (worM (toK (andI A B) k) k + worM (toK (orI A B) k) k) % mK k = (A + B) % mK k by
      rw [add_mod (wor_toK_mod kk (andI A B)) (wor_toK_mod kk (orI A B))]
      exact mod_of_sub (mK_dvd kk (and_or_mod A B)))
    have ea : toK (recM 3 (worM (toK (-B) k) k) (worM (toK (-B) k) k)) k = toK (B * B) k := toK_congr kk (show (worM (toK (-B) k) k * worM (toK (-B) k) k) % mK k = (B * B) % mK k by
      rw [mul_mod wn wn, Int.neg_mul_neg])
    rw [e3] at H3
    rw [e6] at H6
    rw [ea] at Ha
    have HL : ∀ n W, Calls Tryd.prog 28 #[.int .i64 (toK n k), .int .i64 k] W fun e w' => e = .returned (.bool true) ∧ w' = W := fun n W => by
      have h := Lies_any (toK n k) k W (toK_b _ _).1 (toK_b _ _).2
      rw [lies_toK n k kk] at h
      exact h
    exact rnd_yes k a b _ _ _ _ _ _ _ _ w HH H1 H2 H3 H4 H5 H6 H7 H8 H9 Ha Hb (HL _) (HL _)
end Go.Proofs.YtobfpdhfmbpidaaDoor
