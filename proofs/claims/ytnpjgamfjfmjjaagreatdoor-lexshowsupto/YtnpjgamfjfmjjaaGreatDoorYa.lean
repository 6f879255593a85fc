/-
  On lists: a decimal number with its suffix is read as it is.
-/
import Derived.Test.YtnpjgamfjfmjjaaGreatDoorXq
namespace Go.Proofs.YtnpjgamfjfmjjaaGreatDoor
open Go Go.RowKit
set_option linter.unusedVariables false
set_option linter.unusedSimpArgs false

theorem puM_app (base cut : Int) : ∀ (l m : List UInt8) (a b : Int), puM base cut a l = (b, 0) → puM base cut a (l ++ m) = puM base cut b m
  | [], m, a, b, h => by
    rw [puM] at h
    obtain rfl : a = b := (Prod.mk.inj h).1
    rfl
  | c :: r, m, a, b, h => by
    rw [List.cons_append, puM]
    rw [puM] at h
    split
    · rename_i h1; rw [if_pos h1] at h; exact absurd (Prod.mk.inj h).2 (by decide)
    · rename_i h1
      rw [if_neg h1] at h
      split
      · rename_i h2; rw [if_pos h2] at h; exact absurd (Prod.mk.inj h).2 (by decide)
      · rename_i h2
        rw [if_neg h2] at h
        split
        · rename_i h3; rw [if_pos h3] at h; exact absurd (Prod.mk.inj h).2 (by decide)
        · rename_i h3
          rw [if_neg h3] at h
          exact puM_app base cut r m _ b h
theorem digN_app (base : Int) : ∀ (l m : List UInt8), (∀ c ∈ l, digM (c.toNat : Int) base = true) → digN base m = 0 → digN base (l ++ m) = l.length
  | [], m, _, h => h
  | c :: r, m, hl, h => by
    rw [List.cons_append, digN, if_pos (hl c (by simp)), digN_app base r m (fun x hx => hl x (by simp [hx])) h]
    rfl
/-- A digit. -/
def dgt (d : Nat) : UInt8 := UInt8.ofNat (48 + d)
theorem dgt_facts : ∀ d, d < 10 → dvM ((dgt d).toNat : Int) = (d : Nat) ∧ digM ((dgt d).toNat : Int) 10 = true ∧ Tk.dg (dgt d) = true ∧ (d ≠ 0 → dgt d ≠ 48) ∧ dgt d ≠ 117 ∧ dgt d ≠ 85 ∧ dgt d ≠ 108 ∧ dgt d ≠ 76 := by decide
theorem dec_small {n : Nat} (h : n < 10) : Lib.decDigits n = [dgt n] := Lib.decDigits_one h
theorem dec_big {n : Nat} (h : ¬ n < 10) : Lib.decDigits n = Lib.decDigits (n / 10) ++ [dgt (n % 10)] := by
  rw [Lib.decDigits, dif_neg h]; rfl
theorem dec_all : ∀ (f n : Nat), n < 10 ^ f → ∀ c ∈ Lib.decDigits n, ∃ d, d < 10 ∧ c = dgt d
  | 0, n, h, c, hc => by
    obtain rfl : n = 0 := by omega
    rw [dec_small (by decide)] at hc
    exact ⟨0, by decide, by simpa using hc⟩
  | f + 1, n, h, c, hc => by
    by_cases hn : n < 10
    · rw [dec_small hn] at hc
      exact ⟨n, hn, by simpa using hc⟩
    · rw [dec_big hn] at hc
      rcases List.mem_append.1 hc with h1 | h1
      · exact dec_all f (n / 10) (by rw [Nat.pow_succ] at h; omega) c h1
      · exact ⟨n % 10, Nat.mod_lt _ (by decide), by simpa using h1⟩
theorem dec_head : ∀ (f n : Nat), n < 10 ^ f → 0 < n → ∃ d r, Lib.decDigits n = dgt d :: r ∧ d < 10 ∧ d ≠ 0
  | 0, n, h, h0 => by omega
  | f + 1, n, h, h0 => by
    by_cases hn : n < 10
    · exact ⟨n, [], dec_small hn, hn, by omega⟩
    · obtain ⟨d, r, h1, h2⟩ := dec_head f (n / 10) (by rw [Nat.pow_succ] at h; omega) (by omega)
      exact ⟨d, r ++ [dgt (n % 10)], by rw [dec_big hn, h1]; rfl, h2⟩
theorem dec_ne (n : Nat) : Lib.decDigits n ≠ [] := by
  by_cases hn : n < 10
  · rw [dec_small hn]; simp
  · rw [dec_big hn]; simp
theorem pu_dec : ∀ (f n : Nat), n < 10 ^ f → n < 18446744073709551616 → puM 10 1844674407370955162 0 (Lib.decDigits n) = ((n : Int), 0)
  | 0, n, h, _ => by
    obtain rfl : n = 0 := by omega
    rw [dec_small (by decide)]; decide
  | f + 1, n, h, hb => by
    by_cases hn : n < 10
    · rw [dec_small hn]
      have hf := (dgt_facts n hn).1
      rw [puM, puM, hf, if_neg (by omega), if_neg (by omega), if_neg (by omega)]
      simp
    · have ih := pu_dec f (n / 10) (by rw [Nat.pow_succ] at h; omega) (by omega)
      rw [dec_big hn, puM_app _ _ _ _ _ _ ih]
      have hf := (dgt_facts (n % 10) (Nat.mod_lt _ (by decide))).1
      rw [puM, puM, hf, if_neg (by omega), if_neg (by omega), if_neg (by omega)]
      have : ((n / 10 : Nat) : Int) * 10 + ((n % 10 : Nat) : Int) = (n : Int) := by omega
      rw [this]
theorem sufE_is (k : Int) (hk : 5 ≤ k ∧ k ≤ 8) : sufM (sufE k) = (k == 6 || k == 8, true) ∧ (∀ b, b = 8 ∨ b = 10 → digN b (sufE k) = 0) ∧ (∀ c ∈ sufE k, c = 117 ∨ c = 108) ∧ hasM 117 85 (sufE k) = (k == 6 || k == 8) ∧ hasM 108 76 (sufE k) = (k == 7 || k == 8) := by
  have : k = 5 ∨ k = 6 ∨ k = 7 ∨ k = 8 := by omega
  rcases this with rfl | rfl | rfl | rfl
  all_goals exact ⟨by decide, by rintro b (rfl | rfl) <;> decide, by decide, by decide, by decide⟩
theorem pow20 {n : Nat} (h : n < 18446744073709551616) : n < 10 ^ 20 := by omega
theorem num_dec (n : Nat) (hn : n < 18446744073709551616) (k : Int) (hk : 5 ≤ k ∧ k ≤ 8) : ∃ u, numM (Lib.decDigits n ++ sufE k) = (⟨(n : Int), u⟩, true) ∧ ((Lib.decDigits n ++ sufE k).head? != some 48) = decide (n ≠ 0) := by
  obtain ⟨h1, h2, h3, h4, h5⟩ := sufE_is k hk
  by_cases h0 : n = 0
  · subst h0
    have hd : Lib.decDigits 0 = [48] := by rw [dec_small (by decide)]; rfl
    rw [hd]
    have : k = 5 ∨ k = 6 ∨ k = 7 ∨ k = 8 := by omega
    rcases this with rfl | rfl | rfl | rfl
    · exact ⟨false, by decide, by decide⟩
    · exact ⟨true, by decide, by decide⟩
    · exact ⟨false, by decide, by decide⟩
    · exact ⟨true, by decide, by decide⟩
  · obtain ⟨d, r, hd, hd1, hd2⟩ := dec_head 20 n (pow20 hn) (by omega)
    have hdf := dgt_facts d hd1
    have hb : baseM (Lib.decDigits n ++ sufE k) = 10 := by
      have hne : dgt d ≠ 48 := hdf.2.2.2.1 hd2
      rw [hd]
      unfold baseM
      have p1 : ∀ a b, Tk.pre [48, a] (dgt d :: r ++ b) = false := fun a b => by simp [Tk.pre, List.isPrefixOf]; intro h; exact absurd h.symm hne
      have p2 : ∀ b, Tk.pre [48] (dgt d :: r ++ b) = false := fun b => by simp [Tk.pre, List.isPrefixOf]; exact fun h => hne h.symm
      rw [p1, p1, p2]; rfl
    have hall : ∀ c ∈ Lib.decDigits n, digM (c.toNat : Int) 10 = true := fun c hc => by
      obtain ⟨e, he, rfl⟩ := dec_all 20 n (pow20 hn) c hc
      exact (dgt_facts e he).2.1
    have hdn := digN_app 10 (Lib.decDigits n) (sufE k) hall (h2 10 (.inr rfl))
    refine ⟨(k == 6 || k == 8) || (decide ((9223372036854775808 : Int) ≤ (n : Int)) && (10 : Int) != 10), ?_, ?_⟩
    · unfold numM restM
      rw [hb]
      simp only [show ((10 : Int) == 16) = false from rfl, Bool.false_eq_true, if_false]
      rw [hdn, List.take_left' rfl, List.drop_left' rfl]
      have hp : puS 10 (baseC 10) (Lib.decDigits n) = ((n : Int), 0) := by
        unfold puS
        rw [if_neg (dec_ne n), show baseC 10 = 1844674407370955162 from rfl]
        exact pu_dec 20 n (pow20 hn) hn
      rw [hp, h1]
      simp
    · rw [hd]
      have hne : dgt d ≠ 48 := hdf.2.2.2.1 hd2
      simp [h0, hne]
end Go.Proofs.YtnpjgamfjfmjjaaGreatDoor
