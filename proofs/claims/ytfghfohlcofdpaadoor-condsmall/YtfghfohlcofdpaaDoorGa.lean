/-
  Decimal numbers, and lines of them, on lists.
-/
import Derived.Test.YtfghfohlcofdpaaDoorE1
namespace Go.Proofs.YtfghfohlcofdpaaDoor
open Go Go.RowKit
set_option linter.unusedVariables false
set_option linter.unusedSimpArgs false

def dgt (n : Nat) : UInt8 := UInt8.ofNat (48 + n % 10)
/-- A number's decimal digits. -/
def dgF : Nat → Nat → List UInt8
  | 0, _ => []
  | f + 1, n => (if n / 10 = 0 then [] else dgF f (n / 10)) ++ [dgt n]
theorem dgt_facts (n : Nat) : dvM ((dgt n).toNat : Int) = (n % 10 : Nat) ∧ digM ((dgt n).toNat : Int) 10 = true ∧ Tk.dg (dgt n) = true ∧ (n % 10 ≠ 0 → dgt n ≠ 48) := by
  have h : ∀ k : Fin 10, dvM ((UInt8.ofNat (48 + k.1)).toNat : Int) = (k.1 : Nat) ∧ digM ((UInt8.ofNat (48 + k.1)).toNat : Int) 10 = true ∧ Tk.dg (UInt8.ofNat (48 + k.1)) = true ∧ (k.1 ≠ 0 → UInt8.ofNat (48 + k.1) ≠ 48) := by decide +kernel
  exact h ⟨n % 10, Nat.mod_lt _ (by decide)⟩
theorem dgF_all : ∀ (f n : Nat), ∀ c ∈ dgF f n, digM (c.toNat : Int) 10 = true ∧ Tk.dg c = true
  | 0, n, c, h => by simp [dgF] at h
  | f + 1, n, c, h => by
    rw [dgF, List.mem_append] at h
    rcases h with h | h
    · split at h
      · simp at h
      · exact dgF_all f (n / 10) c h
    · obtain rfl := List.mem_singleton.1 h
      exact ⟨(dgt_facts n).2.1, (dgt_facts n).2.2.1⟩
theorem dgF_ne (f n : Nat) : dgF (f + 1) n ≠ [] := by rw [dgF]; simp
theorem dgF_len : ∀ (f n : Nat), (dgF f n).length ≤ f
  | 0, n => Nat.le_refl _
  | f + 1, n => by
    rw [dgF, List.length_append]
    split
    · simp
    · have := dgF_len f (n / 10); simp; omega
theorem dgF_head : ∀ (f n : Nat), 0 < n → n < 10 ^ f → (dgF f n).head? ≠ some 48
  | 0, n, h0, h1 => by simp at h1; omega
  | f + 1, n, h0, h1 => by
    rw [dgF]
    split
    · rename_i hz
      have : n % 10 ≠ 0 := by omega
      simp [(dgt_facts n).2.2.2 this]
    · rename_i hz
      have ih := dgF_head f (n / 10) (by omega) (by rw [Nat.pow_succ] at h1; omega)
      cases hd : dgF f (n / 10) with
      | nil =>
        exfalso
        cases f with
        | zero => simp at h1; omega
        | succ f => exact dgF_ne f _ hd
      | cons x y => rw [hd] at ih; simpa using ih
theorem pu_dgF : ∀ (f n : Nat), n < 10 ^ f → 0 < f → n < 1048577 → puM 10 1844674407370955162 0 (dgF f n) = ((n : Int), 0)
  | 0, n, h1, h2, _ => absurd h2 (by decide)
  | f + 1, n, h1, h2, h3 => by
    obtain ⟨d1, _⟩ := dgt_facts n
    have step : ∀ a : Int, a = ((n / 10 : Nat) : Int) → puM 10 1844674407370955162 a [dgt n] = ((n : Int), 0) := fun a ha => by
      subst ha
      rw [puM, d1, if_neg (by omega), if_neg (by omega), if_neg (by omega), puM]
      congr 1
      omega
    rw [dgF]
    split
    · rename_i hz
      rw [List.nil_append]
      exact step 0 (by rw [hz]; rfl)
    · rename_i hz
      have hf : 0 < f := by
        cases f with
        | zero => simp at h1; omega
        | succ f => omega
      rw [puM_app _ _ _ _ _ _ (pu_dgF f (n / 10) (by rw [Nat.pow_succ] at h1; omega) hf (by omega))]
      exact step _ rfl
theorem num_dgF (f n : Nat) (h1 : n < 10 ^ f) (h2 : 0 < f) (h3 : n < 1048577) : numM (dgF f n) = (⟨(n : Int), false⟩, true) := by
  by_cases h0 : n = 0
  · subst h0
    obtain ⟨g, rfl⟩ : ∃ g, f = g + 1 := ⟨f - 1, by omega⟩
    have : dgF (g + 1) 0 = [48] := by rw [dgF]; rfl
    rw [this]
    decide +kernel
  · have hh := dgF_head f n (by omega) h1
    have hall := dgF_all f n
    have hpu := pu_dgF f n h1 h2 h3
    have hne : dgF f n ≠ [] := by
      obtain ⟨g, rfl⟩ : ∃ g, f = g + 1 := ⟨f - 1, by omega⟩
      exact dgF_ne g n
    generalize dgF f n = D at *
    have hb : baseM D = 10 := by
      cases D with
      | nil => exact absurd rfl hne
      | cons x y =>
        have hx : ¬ 48 = x := fun h => hh (by simp [← h])
        unfold baseM
        simp [Tk.pre, List.isPrefixOf, hx]
    have hr : restM D = D := by unfold restM; rw [hb]; rfl
    have hd : digN 10 D = D.length := by
      have := digN_app 10 D [] (fun c hc => (hall c hc).1) rfl
      simpa using this
    unfold numM
    simp only [hb, hr, hd]
    rw [List.take_of_length_le (Nat.le_refl _), List.drop_of_length_le (Nat.le_refl _), puS, if_neg hne, show baseC 10 = 1844674407370955162 from rfl, hpu]
    have hs : sufM [] = (false, true) := rfl
    rw [hs]
    simp
theorem op_dgF (f n : Nat) (h1 : n < 10 ^ f) (h2 : 0 < f) (h3 : n < 1048577) (fl : List UInt8) (li : Int) (sp fi : Bool) : opT ⟨2, dgF f n, fl, li, sp, fi⟩ = (⟨(n : Int), false⟩, true) := by
  unfold opT
  simp only [num_dgF f n h1 h2 h3]
  have : (n : Int) < 9223372036854775808 := by omega
  simp [this]
namespace Tk
/-- A byte that ends a number which ends in a digit. -/
def nsep (c : UInt8) : Bool := !(c == 46 || nm c)
theorem nuL_digits : ∀ (D v : List UInt8) (a : UInt8), dg a = true → (∀ c ∈ D, dg c = true) → (v = [] ∨ ∃ c r, v = c :: r ∧ nsep c = true) → nuL a (D ++ v) = D.length
  | [], v, a, ha, _, hv => by
    rcases hv with rfl | ⟨c, r, rfl, hc⟩
    · rfl
    · have hx : ex a = false := by
        have : ∀ n : Fin 256, dg (UInt8.ofNat n.1) = true → ex (UInt8.ofNat n.1) = false := by decide +kernel
        have := this ⟨a.toNat, a.toNat_lt⟩
        simp only [UInt8.ofNat_toNat] at this
        exact this ha
      simp [nsep] at hc
      simp [nuL, nu, hx, hc]
  | d :: D, v, a, ha, hD, hv => by
    have hd := hD d (by simp)
    have hnu : nu a d = true := by
      have : ∀ n : Fin 256, dg (UInt8.ofNat n.1) = true → (UInt8.ofNat n.1 == 43 || UInt8.ofNat n.1 == 45) = false := by decide +kernel
      have := this ⟨d.toNat, d.toNat_lt⟩
      simp only [UInt8.ofNat_toNat] at this
      unfold nu
      rw [this hd]
      simp [nm, hd]
    rw [List.cons_append, nuL, if_pos hnu, nuL_digits D v d hd (fun c hc => hD c (by simp [hc])) hv]
    rfl
theorem ev_num (D v : List UInt8) (hne : D ≠ []) (hD : ∀ c ∈ D, dg c = true) (hv : v = [] ∨ ∃ c r, v = c :: r ∧ nsep c = true) (sp fi : Bool) :
    ev [(1, D ++ v)] sp fi = (⟨2, D, 1, sp, fi⟩, 0) :: ev [(1, v)] false false := by
  obtain ⟨d, E, rfl⟩ : ∃ d E, D = d :: E := by
    cases D with
    | nil => exact absurd rfl hne
    | cons d E => exact ⟨d, E, rfl⟩
  have hd := hD d (by simp)
  have hm : ms ((d :: E) ++ v) = (2, (d :: E).length) := by
    rw [List.cons_append, ms, hd, nuL_digits E v d hd (fun c hc => hD c (by simp [hc])) hv]
    rfl
  have ht : isT ((d :: E) ++ v) = true := by
    have : ∀ n : Fin 256, dg (UInt8.ofNat n.1) = true → UInt8.ofNat n.1 ≠ 47 ∧ bl (UInt8.ofNat n.1) = false := by decide +kernel
    have := this ⟨d.toNat, d.toNat_lt⟩
    simp only [UInt8.ofNat_toNat] at this
    obtain ⟨h47, hb⟩ := this hd
    rw [List.cons_append, isT_iff]
    simp [pre, List.isPrefixOf, Ne.symm h47, hb]
  rw [ev_tok [] sp fi ht (by rw [hm]; simp), hm]
  simp only [List.take_left, List.drop_left]
/-- A byte that goes on with no sign. -/
def nsig (x : UInt8) : Bool := !(x == 62 || x == 43 || x == 45 || x == 60 || x == 61 || x == 38 || x == 124 || x == 46 || x == 35)
theorem pn_two (c x : UInt8) (r : List UInt8) (hx : nsig x = true) : pn (c :: x :: r) = false := by
  simp [nsig] at hx
  simp [pn, signs, hx]
theorem ev_sgn (c : UInt8) (v : List UInt8) (hc : c = 43 ∨ c = 60 ∨ c = 42 ∨ c = 45 ∨ c = 37 ∨ c = 40 ∨ c = 41) (hv : v = [] ∨ ∃ x r, v = x :: r ∧ nsig x = true) (sp fi : Bool) :
    ev [(1, c :: v)] sp fi = (⟨5, [c], 1, sp, fi⟩, 0) :: ev [(1, v)] false false := by
  have hs : sgL (c :: v) = 1 := by
    have h1 : pn [c] = true := by rcases hc with rfl | rfl | rfl | rfl | rfl | rfl | rfl <;> decide
    unfold sgL
    rcases hv with rfl | ⟨x, r, rfl, hx⟩
    · simp [h1]
    · have h2 : pn [c, x] = false := pn_two c x [] hx
      cases r with
      | nil => simp [h1, h2]
      | cons y z =>
        have h3 : pn [c, x, y] = false := pn_two c x [y] hx
        simp [h1, h2, h3]
  have hq : dg c = false ∧ (c == 46) = false ∧ nm c = false ∧ (c == 39) = false ∧ (c == 34) = false ∧ c ≠ 47 ∧ bl c = false := by
    rcases hc with rfl | rfl | rfl | rfl | rfl | rfl | rfl <;> decide
  obtain ⟨q1, q2, q3, q4, q5, q6, q7⟩ := hq
  have hm : ms (c :: v) = (5, 1) := by
    rw [ms, hs]
    simp [q1, q2, q3, q4, q5]
  have ht : isT (c :: v) = true := by
    rw [isT_iff]
    simp [pre, List.isPrefixOf, Ne.symm q6, q7]
  rw [ev_tok [] sp fi ht (by rw [hm]; decide), hm]
  simp
end Tk
end Go.Proofs.YtfghfohlcofdpaaDoor
