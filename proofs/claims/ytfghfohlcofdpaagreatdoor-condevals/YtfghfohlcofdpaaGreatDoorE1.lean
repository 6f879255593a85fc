/-
  Numbers in bases 16 and 8, on lists.
-/
import Derived.Test.YtfghfohlcofdpaaGreatDoorDb
namespace Go.Proofs.YtfghfohlcofdpaaGreatDoor
open Go Go.RowKit
set_option linter.unusedVariables false
set_option linter.unusedSimpArgs false

theorem puM_app (base cut : Int) : ∀ (l m : List UInt8) (a b : Int), puM base cut a l = (b, 0) → puM base cut a (l ++ m) = puM base cut b m
  | [], m, a, b, h => by
    rw [puM] at h
    obtain rfl : a = b := (Prod.mk.inj h).1
    rfl
  | c :: r, m, a, b, h => by
    rw [List.cons_append, puM]
    rw [puM] at h
    split
    · rename_i h1; rw [if_pos h1] at h; exact absurd (Prod.mk.inj h).2 (by decide)
    · rename_i h1
      rw [if_neg h1] at h
      split
      · rename_i h2; rw [if_pos h2] at h; exact absurd (Prod.mk.inj h).2 (by decide)
      · rename_i h2
        rw [if_neg h2] at h
        split
        · rename_i h3; rw [if_pos h3] at h; exact absurd (Prod.mk.inj h).2 (by decide)
        · rename_i h3
          rw [if_neg h3] at h
          exact puM_app base cut r m _ b h
theorem digN_app (base : Int) : ∀ (l m : List UInt8), (∀ c ∈ l, digM (c.toNat : Int) base = true) → digN base m = 0 → digN base (l ++ m) = l.length
  | [], m, _, h => h
  | c :: r, m, hl, h => by
    rw [List.cons_append, digN, if_pos (hl c (by simp)), digN_app base r m (fun x hx => hl x (by simp [hx])) h]
    rfl
def small16 : List UInt8 := [48, 49, 50, 51, 52, 53, 54, 55, 56, 57, 97, 98, 99, 100, 101, 102]
def great16 : List UInt8 := [48, 49, 50, 51, 52, 53, 54, 55, 56, 57, 65, 66, 67, 68, 69, 70]
/-- The digits of a number: how many, how many bits each, from which one on. -/
def dgs (tbl : List UInt8) (n : Nat) (top st m : Nat) : Nat → List UInt8
  | 0 => []
  | k + 1 => dgs tbl n top st m k ++ [tbl.getD (n / 2 ^ (top - st * k) % m) 0]
theorem dgs_len (tbl : List UInt8) (n top st m : Nat) : ∀ k, (dgs tbl n top st m k).length = k
  | 0 => rfl
  | k + 1 => by rw [dgs, List.length_append, dgs_len tbl n top st m k]; rfl
theorem all16 (tbl : List UInt8) (ht : tbl = small16 ∨ tbl = great16) : ∀ d, d < 16 → dvM ((tbl.getD d 0).toNat : Int) = d ∧ digM ((tbl.getD d 0).toNat : Int) 16 = true := by
  rcases ht with rfl | rfl <;> decide
theorem all8 : ∀ d, d < 8 → dvM ((small16.getD d 0).toNat : Int) = d ∧ digM ((small16.getD d 0).toNat : Int) 8 = true := by decide
theorem dgs_all (tbl : List UInt8) (n top st m : Nat) (base : Int) (hm : 0 < m) (h : ∀ d, d < m → digM ((tbl.getD d 0).toNat : Int) base = true) : ∀ k, ∀ c ∈ dgs tbl n top st m k, digM (c.toNat : Int) base = true
  | 0, c, hc => by simp [dgs] at hc
  | k + 1, c, hc => by
    rw [dgs, List.mem_append] at hc
    rcases hc with hc | hc
    · exact dgs_all tbl n top st m base hm h k c hc
    · obtain rfl := List.mem_singleton.1 hc
      exact h _ (Nat.mod_lt _ hm)
theorem pu16_dgs (tbl : List UInt8) (ht : tbl = small16 ∨ tbl = great16) (n : Nat) (hn : n < 18446744073709551616) : ∀ k, k ≤ 16 → puM 16 1152921504606846976 0 (dgs tbl n 60 4 16 k) = (((n / 2 ^ (64 - 4 * k) : Nat) : Int), 0)
  | 0, _ => by
    rw [dgs, puM]
    have : n / 2 ^ (64 - 4 * 0) = 0 := Nat.div_eq_of_lt (by simpa using hn)
    rw [this]; rfl
  | k + 1, hk => by
    have ih := pu16_dgs tbl ht n hn k (by omega)
    rw [dgs, puM_app _ _ _ _ _ _ ih, puM, (all16 tbl ht _ (Nat.mod_lt _ (by decide))).1]
    have e1 : 2 ^ (64 - 4 * k) = 2 ^ (60 - 4 * k) * 16 := by
      rw [show 64 - 4 * k = (60 - 4 * k) + 4 by omega, Nat.pow_add]
    have e2 : n / 2 ^ (64 - 4 * k) = n / 2 ^ (60 - 4 * k) / 16 := by rw [e1, Nat.div_div_eq_div_mul]
    have e3 : 64 - 4 * (k + 1) = 60 - 4 * k := by omega
    have hx : n / 2 ^ (60 - 4 * k) < 18446744073709551616 := Nat.lt_of_le_of_lt (Nat.div_le_self _ _) hn
    rw [e2, e3]
    generalize n / 2 ^ (60 - 4 * k) = x at *
    have hdm := Nat.div_add_mod x 16
    have hlt := Nat.mod_lt x (show 16 > 0 by decide)
    rw [if_neg (by omega), if_neg (by omega), if_neg (by omega)]
    rw [puM]
    congr 1
    omega
theorem pu8_dgs (n : Nat) (hn : n < 18446744073709551616) : ∀ k, k ≤ 22 → puM 8 2305843009213693952 0 (dgs small16 n 63 3 8 k) = (((n / 2 ^ (66 - 3 * k) : Nat) : Int), 0)
  | 0, _ => by
    rw [dgs, puM]
    have : n / 2 ^ (66 - 3 * 0) = 0 := Nat.div_eq_of_lt (Nat.lt_trans hn (by decide))
    rw [this]; rfl
  | k + 1, hk => by
    have ih := pu8_dgs n hn k (by omega)
    rw [dgs, puM_app _ _ _ _ _ _ ih, puM, (all8 _ (Nat.mod_lt _ (by decide))).1]
    have e1 : 2 ^ (66 - 3 * k) = 2 ^ (63 - 3 * k) * 8 := by
      rw [show 66 - 3 * k = (63 - 3 * k) + 3 by omega, Nat.pow_add]
    have e2 : n / 2 ^ (66 - 3 * k) = n / 2 ^ (63 - 3 * k) / 8 := by rw [e1, Nat.div_div_eq_div_mul]
    have e3 : 66 - 3 * (k + 1) = 63 - 3 * k := by omega
    have hx : n / 2 ^ (63 - 3 * k) < 18446744073709551616 := Nat.lt_of_le_of_lt (Nat.div_le_self _ _) hn
    rw [e2, e3]
    generalize n / 2 ^ (63 - 3 * k) = x at *
    have hdm := Nat.div_add_mod x 8
    have hlt := Nat.mod_lt x (show 8 > 0 by decide)
    rw [if_neg (by omega), if_neg (by omega), if_neg (by omega)]
    rw [puM]
    congr 1
    omega
/-- The six suffixes, and whether one is unsigned. -/
def ends6 : List (List UInt8) := [[], [117], [108], [85, 76, 76], [108, 108, 85], [76, 117]]
def endU (j : Nat) : Bool := j != 0 && j != 2
theorem ends_suf : ∀ j, j < 6 → sufM (ends6.getD j []) = (endU j, true) := by decide
theorem ends_dig : ∀ j, j < 6 → digN 16 (ends6.getD j []) = 0 ∧ digN 8 (ends6.getD j []) = 0 := by decide
theorem num_hex (c : UInt8) (hc : c = 120 ∨ c = 88) (tbl : List UInt8) (ht : tbl = small16 ∨ tbl = great16) (n : Nat) (hn : n < 18446744073709551616) (j : Nat) (hj : j < 6) :
    numM ([48, c] ++ dgs tbl n 60 4 16 16 ++ ends6.getD j []) = (⟨(n : Int), endU j || decide (9223372036854775808 ≤ n)⟩, true) := by
  have hb : baseM ([48, c] ++ dgs tbl n 60 4 16 16 ++ ends6.getD j []) = 16 := by
    unfold baseM
    rcases hc with rfl | rfl <;> simp [Tk.pre, List.isPrefixOf]
  have hr : restM ([48, c] ++ dgs tbl n 60 4 16 16 ++ ends6.getD j []) = dgs tbl n 60 4 16 16 ++ ends6.getD j [] := by
    unfold restM
    rw [hb]
    simp
  have hd : digN 16 (dgs tbl n 60 4 16 16 ++ ends6.getD j []) = 16 := by
    rw [digN_app 16 _ _ (dgs_all tbl n 60 4 16 16 (by decide) (fun d hd => (all16 tbl ht d hd).2) 16) (ends_dig j hj).1, dgs_len]
  have hlen := dgs_len tbl n 60 4 16 16
  have hp : puS 16 (baseC 16) (dgs tbl n 60 4 16 16) = ((n : Int), 0) := by
    rw [puS, if_neg (by intro h; rw [h] at hlen; cases hlen), show baseC 16 = 1152921504606846976 from rfl, pu16_dgs tbl ht n hn 16 (Nat.le_refl _)]
    simp
  unfold numM
  simp only [hb, hr, hd]
  rw [List.take_append_of_le_length (by omega), List.take_of_length_le (by omega), hp, List.drop_append_of_le_length (by omega), List.drop_of_length_le (by omega), List.nil_append, ends_suf j hj]
  have hq : (9223372036854775808 : Int) ≤ (n : Int) ↔ 9223372036854775808 ≤ n := by omega
  simp [hq]
theorem num_oct (n : Nat) (hn : n < 18446744073709551616) (j : Nat) (hj : j < 6) :
    numM ([48] ++ dgs small16 n 63 3 8 22 ++ ends6.getD j []) = (⟨(n : Int), endU j || decide (9223372036854775808 ≤ n)⟩, true) := by
  have hlen := dgs_len small16 n 63 3 8 22
  have hall := dgs_all small16 n 63 3 8 8 (by decide) (fun d hd => (all8 d hd).2) 22
  have hpu := pu8_dgs n hn 22 (Nat.le_refl _)
  generalize dgs small16 n 63 3 8 22 = o at *
  obtain ⟨x, r, rfl⟩ : ∃ x r, o = x :: r := by
    cases o with
    | nil => cases hlen
    | cons x r => exact ⟨x, r, rfl⟩
  have hx : digM (x.toNat : Int) 8 = true := hall x (by simp)
  have hx1 : x ≠ 120 := fun h => by subst h; revert hx; decide
  have hx2 : x ≠ 88 := fun h => by subst h; revert hx; decide
  have hb : baseM ([48] ++ (x :: r) ++ ends6.getD j []) = 8 := by
    unfold baseM
    simp [Tk.pre, List.isPrefixOf, Ne.symm hx1, Ne.symm hx2]
  have hr : restM ([48] ++ (x :: r) ++ ends6.getD j []) = 48 :: (x :: r) ++ ends6.getD j [] := by
    unfold restM
    rw [hb]
    rfl
  have hd : digN 8 (48 :: (x :: r) ++ ends6.getD j []) = 23 := by
    rw [digN_app 8 _ _ (fun c hc => by
      rcases List.mem_cons.1 hc with rfl | hc
      · decide
      · exact hall c hc) (ends_dig j hj).2, List.length_cons, hlen]
  have hp : puS 8 (baseC 8) (48 :: (x :: r)) = ((n : Int), 0) := by
    rw [puS, if_neg (by simp), show baseC 8 = 2305843009213693952 from rfl, puM, if_neg (by decide), if_neg (by decide), if_neg (by decide)]
    rw [show (0 : Int) * 8 + dvM ((48 : UInt8).toNat : Int) = 0 by decide, hpu]
    simp
  unfold numM
  simp only [hb, hr, hd]
  rw [List.take_append_of_le_length (by simp at hlen ⊢; omega), List.take_of_length_le (by simp at hlen ⊢; omega), hp, List.drop_append_of_le_length (by simp at hlen ⊢; omega), List.drop_of_length_le (by simp at hlen ⊢; omega), List.nil_append, ends_suf j hj]
  have hq : (9223372036854775808 : Int) ≤ (n : Int) ↔ 9223372036854775808 ≤ n := by omega
  simp [hq]
end Go.Proofs.YtfghfohlcofdpaaGreatDoor
