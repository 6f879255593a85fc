/-
  Bytes, bit by bit.
-/
import Derived.Test.YtkiebejidpebdaaOo
namespace Go.Proofs.Ytkiebejidpebdaa
open Go Go.RowKit Go.Shelf
set_option linter.unusedVariables false
set_option linter.unusedSimpArgs false

def msks : List Int := [1, 2, 4, 8, 16, 32, 64, 128]
set_option maxRecDepth 100000 in
theorem wrx_all : (List.range 256).all (fun x => msks.all fun m => msks.all fun m' =>
    ((bits .and .u8 (bits .or .u8 (bits .andNot .u8 (x : Int) m) m) m' != 0) == (m' == m || (bits .and .u8 (x : Int) m' != 0))) &&
    ((bits .and .u8 (bits .andNot .u8 (x : Int) m) m' != 0) == (!(m' == m) && (bits .and .u8 (x : Int) m' != 0)))) = true := by decide +kernel
theorem msk_in (b : Nat) : mskM b ∈ msks := by
  unfold msks
  rcases msk_cases b with h | h | h | h | h | h | h | h <;> rw [h] <;> simp
theorem msk_ne {b c : Nat} (h : b % 8 ≠ c % 8) : (mskM b == mskM c) = false := by
  have hb : b % 8 = 0 ∨ b % 8 = 1 ∨ b % 8 = 2 ∨ b % 8 = 3 ∨ b % 8 = 4 ∨ b % 8 = 5 ∨ b % 8 = 6 ∨ b % 8 = 7 := by omega
  have hc : c % 8 = 0 ∨ c % 8 = 1 ∨ c % 8 = 2 ∨ c % 8 = 3 ∨ c % 8 = 4 ∨ c % 8 = 5 ∨ c % 8 = 6 ∨ c % 8 = 7 := by omega
  unfold mskM
  rcases hb with e | e | e | e | e | e | e | e <;> rcases hc with f | f | f | f | f | f | f | f <;> first | (exact absurd (e.trans f.symm) h) | (rw [e, f]; decide)
theorem msk_eq {b c : Nat} (h : b % 8 = c % 8) : mskM b = mskM c := by unfold mskM; rw [h]
theorem wrx_bit {x m m' : Int} (hx : 0 ≤ x ∧ x < 256) (hm : m ∈ msks) (hm' : m' ∈ msks) :
    (bits .and .u8 (bits .or .u8 (bits .andNot .u8 x m) m) m' != 0) = (m' == m || (bits .and .u8 x m' != 0)) ∧ (bits .and .u8 (bits .andNot .u8 x m) m' != 0) = (!(m' == m) && (bits .and .u8 x m' != 0)) := by
  have h := List.all_eq_true.1 wrx_all x.toNat (List.mem_range.2 (by omega))
  have h2 := List.all_eq_true.1 (List.all_eq_true.1 h m hm) m' hm'
  rw [show ((x.toNat : Nat) : Int) = x by omega] at h2
  simpa using h2
/-- Is a bit set? -/
def bL (l : List Int) (b : Nat) : Bool := bits .and .u8 (l.getD (b / 8) 0) (mskM b) != 0
def oddB (v : Int) : Bool := bits .and .i64 v 1 != 0
theorem getD_ok {l : List Int} (h : OkB l) (i : Nat) : 0 ≤ l.getD i 0 ∧ l.getD i 0 < 256 := by
  rw [List.getD_eq_getElem?_getD]
  cases hi : l[i]? with
  | none => simp
  | some x => exact h x (List.mem_of_getElem? hi)
theorem getD_set (l : List Int) (i j : Nat) (x : Int) (hi : i < l.length) : (l.set i x).getD j 0 = if j = i then x else l.getD j 0 := by
  rw [List.getD_eq_getElem?_getD, List.getD_eq_getElem?_getD, List.getElem?_set]
  split
  · rename_i h
    subst h
    simp [hi]
  · rename_i h
    rw [if_neg (fun e => h e.symm)]
theorem wrSt_bit {l : List Int} (hl : OkB l) {b : Nat} (hb : b / 8 < l.length) (v : Int) (c : Nat) : bL (wrSt (l, v) b).1 c = if c = b then oddB v else bL l c := by
  unfold wrSt bL
  simp only
  rw [getD_set _ _ _ _ hb]
  have hx := getD_ok hl (b / 8)
  obtain ⟨w1, w2⟩ := wrx_bit hx (msk_in b) (msk_in c)
  by_cases hd : c / 8 = b / 8
  · rw [if_pos hd]
    unfold wrX
    by_cases hc : c = b
    · subst hc
      rw [if_pos rfl]
      unfold oddB
      cases ho : bits .and .i64 v 1 != 0
      · simp only [Bool.false_eq_true, if_false]
        rw [w2]
        simp
      · simp only [if_true]
        rw [w1]
        simp
    · rw [if_neg hc]
      have hne : (mskM c == mskM b) = false := msk_ne (by omega)
      cases ho : bits .and .i64 v 1 != 0
      · simp only [Bool.false_eq_true, if_false]
        rw [w2, hne, hd]
        simp
      · simp only [if_true]
        rw [w1, hne, hd]
        simp
  · rw [if_neg hd, if_neg (fun e => hd (by rw [e]))]
theorem bitL_succ (bit n : Nat) : bitL bit (n + 1) = bitL bit n ++ [bit + n] := by unfold bitL; rw [List.range_succ, List.map_append]; rfl
theorem wrF_snoc (l : List Int) (v : Int) (p : List Nat) (b : Nat) : wrF l v (p ++ [b]) = wrSt (wrF l v p) b := by unfold wrF; rw [List.foldl_append]; rfl
theorem wrF_v (l : List Int) (v : Int) (bit : Nat) : ∀ n : Nat, (wrF l v (bitL bit n)).2 = v / 2 ^ n
  | 0 => by simp [wrF, bitL]
  | n + 1 => by
    rw [bitL_succ, wrF_snoc]
    unfold wrSt
    simp only
    rw [wrF_v l v bit n, Int.ediv_ediv_of_nonneg (Int.pow_nonneg (by decide)), Int.pow_succ]
/-- What is written is there, and nothing else is turned. -/
theorem wrF_bit {l : List Int} (hl : OkB l) (v : Int) (bit : Nat) : ∀ n : Nat, bit + n ≤ 8 * l.length → ∀ c, bL (wrF l v (bitL bit n)).1 c = if bit ≤ c ∧ c < bit + n then oddB (v / 2 ^ (c - bit)) else bL l c
  | 0, _, c => by
    rw [if_neg (by omega)]
    rfl
  | n + 1, h, c => by
    have ih := wrF_bit hl v bit n (by omega) c
    have hv := wrF_v l v bit n
    have ho := wrF_ok hl v (bitL bit n)
    have hlen := wrF_len l v (bitL bit n)
    rw [bitL_succ, wrF_snoc]
    have hst := wrSt_bit ho (b := bit + n) (by rw [hlen]; omega) (v / 2 ^ n) c
    rw [← hv] at hst
    rw [show wrF l v (bitL bit n) = ((wrF l v (bitL bit n)).1, (wrF l v (bitL bit n)).2) from rfl, hst, ih]
    by_cases hc : c = bit + n
    · subst hc
      rw [if_pos rfl, if_pos (by omega), hv, show bit + n - bit = n by omega]
    · rw [if_neg hc]
      by_cases h2 : bit ≤ c ∧ c < bit + n
      · rw [if_pos h2, if_pos (by omega)]
      · rw [if_neg h2, if_neg (by omega)]
/-- The number that bits say. -/
def sumB (l : List Int) (bit : Nat) : Nat → Nat
  | 0 => 0
  | n + 1 => sumB l bit n + (if bL l (bit + n) then 2 ^ n else 0)
theorem sumB_lt (l : List Int) (bit : Nat) : ∀ n, sumB l bit n < 2 ^ n
  | 0 => by simp [sumB]
  | n + 1 => by
    have := sumB_lt l bit n
    rw [sumB, Nat.pow_succ]
    split <;> omega
theorem sumB_congr {l l' : List Int} {bit : Nat} : ∀ {n : Nat}, (∀ i, i < n → bL l (bit + i) = bL l' (bit + i)) → sumB l bit n = sumB l' bit n
  | 0, _ => rfl
  | n + 1, h => by rw [sumB, sumB, h n (by omega), sumB_congr (fun i hi => h i (by omega))]
theorem oddB_eq (v : Int) : oddB v = decide (v % 2 = 1) := by
  unfold oddB
  have h : bits .and .i64 v 1 = v % 2 := by
    show IntKind.i64.wrap ((BitVec.ofInt 64 v &&& BitVec.ofInt 64 1).toNat : Int) = _
    rw [BitVec.toNat_and, show (BitVec.ofInt 64 1).toNat = 1 from rfl, Nat.and_one_is_mod, BitVec.toNat_ofInt, IntKind.wrap_i64]
    have h1 : 0 ≤ v % (2 ^ 64 : Nat) := Int.emod_nonneg _ (by decide)
    have h2 : (v % (2 ^ 64 : Nat)) % 2 = v % 2 := Int.emod_emod_of_dvd v (by decide)
    have h3 : (((v % (2 ^ 64 : Nat)).toNat % 2 : Nat) : Int) = v % 2 := by
      rw [Int.natCast_emod, Int.toNat_of_nonneg h1]
      exact h2
    rw [h3]
    omega
  rw [h]
  have : v % 2 = 0 ∨ v % 2 = 1 := by omega
  rcases this with h | h <;> rw [h] <;> decide
/-- The lowest bits of a number, one by one. -/
theorem low_bits (v : Int) (l : List Int) (bit : Nat) : ∀ n, (∀ i, i < n → bL l (bit + i) = oddB (v / 2 ^ i)) → (sumB l bit n : Int) = v % 2 ^ n
  | 0, _ => by simp [sumB, Int.emod_one]
  | n + 1, h => by
    have ih := low_bits v l bit n (fun i hi => h i (by omega))
    have hp : (0 : Int) < 2 ^ n := Int.pow_pos (by decide)
    rw [sumB, h n (by omega), oddB_eq]
    have hm : v % 2 ^ (n + 1) = v % 2 ^ n + 2 ^ n * ((v / 2 ^ n) % 2) := by
      have e1 := Int.mul_ediv_add_emod v (2 ^ n)
      have e2 := Int.mul_ediv_add_emod (v / 2 ^ n) 2
      have r1 := Int.emod_nonneg v (Int.ne_of_gt hp)
      have r2 := Int.emod_lt_of_pos v hp
      have hv : v = (2 ^ n * 2) * (v / 2 ^ n / 2) + (v % 2 ^ n + 2 ^ n * ((v / 2 ^ n) % 2)) := by
        have e3 : 2 ^ n * (v / 2 ^ n) = 2 ^ n * (2 * (v / 2 ^ n / 2)) + 2 ^ n * ((v / 2 ^ n) % 2) := by rw [← Int.mul_add, e2]
        rw [Int.mul_assoc]
        omega
      have hb : v / 2 ^ n % 2 = 0 ∨ v / 2 ^ n % 2 = 1 := by omega
      rw [Int.pow_succ]
      conv => lhs; rw [hv]
      rw [Int.mul_add_emod_self_left, Int.emod_eq_of_lt]
      · rcases hb with e | e <;> rw [e] <;> omega
      · rcases hb with e | e <;> rw [e] <;> omega
    rw [hm, ← ih]
    have h2 : v / 2 ^ n % 2 = 0 ∨ v / 2 ^ n % 2 = 1 := by omega
    rcases h2 with e | e
    · rw [e]; simp
    · rw [e]; simp
theorem byM_of (T : ByteArray) (i : Nat) : byM T i = (ofB T).getD i 0 := by
  unfold byM ofB
  rw [List.getD_eq_getElem?_getD, List.getD_eq_getElem?_getD, List.getElem?_map]
  cases T.data.toList[i]? <;> rfl
theorem wr_add (x c : Int) : wrap64 (x + 18446744073709551616 * c) = wrap64 x := by unfold wrap64; omega
theorem wr_form (x : Int) : ∃ c, wrap64 x = x + 18446744073709551616 * c := ⟨-((x + 9223372036854775808) / 18446744073709551616), by unfold wrap64; omega⟩
theorem wr_mul (a m : Int) : wrap64 (wrap64 a * m) = wrap64 (a * m) := by
  obtain ⟨c, hc⟩ := wr_form a
  rw [hc, Int.add_mul, show 18446744073709551616 * c * m = 18446744073709551616 * (c * m) by rw [Int.mul_assoc], wr_add]
theorem ofInt_wr (a : Nat) (h : a < 18446744073709551616) : (BitVec.ofInt 64 (wrap64 (a : Int))).toNat = a := by
  rw [BitVec.toNat_ofInt]
  obtain ⟨c, hc⟩ := wr_form (a : Int)
  rw [hc]
  omega
theorem or_top (V n : Nat) (hn : n < 64) (h : V < 2 ^ n) : bits .or .i64 (wrap64 (V : Int)) (wrap64 ((2 ^ n : Nat) : Int)) = wrap64 ((V + 2 ^ n : Nat) : Int) := by
  have hp : 2 ^ n ≤ 2 ^ 63 := Nat.pow_le_pow_right (by decide) (by omega)
  show IntKind.i64.wrap ((BitVec.ofInt 64 (wrap64 (V : Int)) ||| BitVec.ofInt 64 (wrap64 ((2 ^ n : Nat) : Int))).toNat : Int) = _
  rw [BitVec.toNat_or, ofInt_wr V (by omega), ofInt_wr (2 ^ n) (by omega), IntKind.wrap_i64]
  have h1 := Nat.two_pow_add_eq_or_of_lt h 1
  rw [Nat.mul_one] at h1
  rw [Nat.or_comm, ← h1, Nat.add_comm (2 ^ n) V]
  unfold wrap64
  omega
theorem rdF_eq (T : ByteArray) (bit : Nat) : ∀ n : Nat, n ≤ 64 → rdF T (bitL bit n) = (wrap64 (sumB (ofB T) bit n : Int), wrap64 ((2 ^ n : Nat) : Int))
  | 0, _ => by
    simp only [bitL, List.range_zero, List.map_nil, rdF, List.foldl_nil, sumB]
    unfold wrap64
    decide
  | n + 1, h => by
    have ih := rdF_eq T bit n (by omega)
    rw [bitL_succ]
    have hs : rdF T (bitL bit n ++ [bit + n]) = rdSt T (rdF T (bitL bit n)) (bit + n) := by unfold rdF; rw [List.foldl_append]; rfl
    rw [hs, ih]
    unfold rdSt
    rw [byM_of]
    have hb : (bits .and .u8 ((ofB T).getD ((bit + n) / 8) 0) (mskM (bit + n)) != 0) = bL (ofB T) (bit + n) := rfl
    rw [hb]
    simp only
    rw [sumB]
    refine Prod.ext ?_ ?_
    · simp only
      cases bL (ofB T) (bit + n)
      · simp
      · simp only [if_true]
        exact or_top _ n (by omega) (sumB_lt _ _ _)
    · simp only
      rw [wr_mul, Nat.pow_succ]
      congr 1
theorem sgn_eq (V nb : Nat) (h1 : 1 ≤ nb) (h2 : nb ≤ 64) (h : V < 2 ^ nb) : wrap64 (wrap64 (V : Int) * 2 ^ (64 - nb)) / 2 ^ (64 - nb) = if 2 ^ (nb - 1) ≤ V then (V : Int) - ((2 ^ nb : Nat) : Int) else (V : Int) := by
  rw [wr_mul]
  obtain ⟨m, hm⟩ : ∃ m, 64 - nb = m := ⟨_, rfl⟩
  have e1 : 2 ^ nb * 2 ^ m = 18446744073709551616 := by rw [← Nat.pow_add, show nb + m = 64 by omega]
  have e2 : 2 ^ (nb - 1) * 2 ^ m = 9223372036854775808 := by rw [← Nat.pow_add, show nb - 1 + m = 63 by omega]
  have hM : 0 < 2 ^ m := Nat.pow_pos (by decide)
  rw [hm]
  have hc : ((2 : Int) ^ m) = ((2 ^ m : Nat) : Int) := by rw [Int.natCast_pow]; rfl
  rw [hc]
  generalize 2 ^ m = M at *
  generalize 2 ^ nb = N at *
  generalize 2 ^ (nb - 1) = H at *
  have hMi : (0 : Int) < (M : Int) := by omega
  have hVM : V * M < N * M := (Nat.mul_lt_mul_right hM).2 h
  by_cases hh : H ≤ V
  · have hl : H * M ≤ V * M := Nat.mul_le_mul_right M hh
    rw [if_pos hh]
    have : wrap64 ((V : Int) * (M : Int)) = ((V : Int) - (N : Int)) * (M : Int) := by
      rw [Int.sub_mul]
      have a1 : (V : Int) * (M : Int) = ((V * M : Nat) : Int) := by push_cast; rfl
      have a2 : (N : Int) * (M : Int) = ((N * M : Nat) : Int) := by push_cast; rfl
      rw [a1, a2]
      unfold wrap64
      omega
    rw [this, Int.mul_ediv_cancel _ (by omega)]
  · have hl : V * M < H * M := (Nat.mul_lt_mul_right hM).2 (by omega)
    rw [if_neg hh]
    have : wrap64 ((V : Int) * (M : Int)) = (V : Int) * (M : Int) := by
      have a1 : (V : Int) * (M : Int) = ((V * M : Nat) : Int) := by push_cast; rfl
      rw [a1]
      unfold wrap64
      omega
    rw [this, Int.mul_ediv_cancel _ (by omega)]
/-- What read tells, by the bits. -/
theorem rdM_eq (T : ByteArray) (bit nb : Nat) (k : Int) (h1 : 1 ≤ nb) (h2 : nb ≤ 64) : rdM T bit nb k = if unsM k then wrap64 (sumB (ofB T) bit nb : Int) else (if 2 ^ (nb - 1) ≤ sumB (ofB T) bit nb then (sumB (ofB T) bit nb : Int) - ((2 ^ nb : Nat) : Int) else (sumB (ofB T) bit nb : Int)) := by
  unfold rdM
  rw [rdF_eq T bit nb h2]
  split
  · rfl
  · exact sgn_eq _ nb h1 h2 (sumB_lt _ _ _)
theorem rdM_mod (T : ByteArray) (bit nb : Nat) (k : Int) (h1 : 1 ≤ nb) (h2 : nb ≤ 64) : rdM T bit nb k % ((2 ^ nb : Nat) : Int) = (sumB (ofB T) bit nb : Int) := by
  have hlt := sumB_lt (ofB T) bit nb
  rw [rdM_eq T bit nb k h1 h2]
  generalize sumB (ofB T) bit nb = V at *
  split
  · obtain ⟨c, hc⟩ := wr_form (V : Int)
    have e1 : 2 ^ nb * 2 ^ (64 - nb) = 18446744073709551616 := by rw [← Nat.pow_add, show nb + (64 - nb) = 64 by omega]
    rw [hc]
    have : (18446744073709551616 : Int) * c = ((2 ^ nb : Nat) : Int) * (((2 ^ (64 - nb) : Nat) : Int) * c) := by
      rw [← Int.mul_assoc, ← Int.natCast_mul, e1]
      rfl
    rw [this, Int.add_mul_emod_self_left, Int.emod_eq_of_lt (by omega) (by omega)]
  · split
    · rw [show (V : Int) - ((2 ^ nb : Nat) : Int) = V + ((2 ^ nb : Nat) : Int) * (-1) by omega, Int.add_mul_emod_self_left, Int.emod_eq_of_lt (by omega) (by omega)]
    · exact Int.emod_eq_of_lt (by omega) (by omega)
/-- What is put is read, as far as its bits go. -/
theorem put_read {l : List Int} (hl : OkB l) (v : Int) (bit nb : Nat) (k : Int) (h1 : 1 ≤ nb) (h2 : nb ≤ 64) (hf : bit + nb ≤ 8 * l.length) : rdM (toB (wrF l v (bitL bit nb)).1) bit nb k % ((2 ^ nb : Nat) : Int) = v % ((2 ^ nb : Nat) : Int) := by
  rw [rdM_mod _ _ _ _ h1 h2, ofB_to (wrF_ok hl v _)]
  have := low_bits v (wrF l v (bitL bit nb)).1 bit nb (fun i hi => by
    rw [wrF_bit hl v bit nb hf, if_pos (by omega), show bit + i - bit = i by omega])
  rw [this, Int.natCast_pow]
  rfl
/-- What shares no bit with what is written stays. -/
theorem put_other {l : List Int} (hl : OkB l) (v : Int) (bit nb : Nat) (hf : bit + nb ≤ 8 * l.length) (b2 n2 : Nat) (k : Int) (h1 : 1 ≤ n2) (h2 : n2 ≤ 64) (hd : b2 + n2 ≤ bit ∨ bit + nb ≤ b2) : rdM (toB (wrF l v (bitL bit nb)).1) b2 n2 k = rdM (toB l) b2 n2 k := by
  have he : sumB (wrF l v (bitL bit nb)).1 b2 n2 = sumB l b2 n2 := sumB_congr (fun i hi => by
    rw [wrF_bit hl v bit nb hf, if_neg (by omega)])
  rw [rdM_eq _ _ _ _ h1 h2, rdM_eq _ _ _ _ h1 h2, ofB_to (wrF_ok hl v _), ofB_to hl, he]
end Go.Proofs.Ytkiebejidpebdaa
