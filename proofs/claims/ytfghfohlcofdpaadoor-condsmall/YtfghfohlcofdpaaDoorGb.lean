/-
  What small conditions are worth, on lists.
-/
import Derived.Test.YtfghfohlcofdpaaDoorGa
namespace Go.Proofs.YtfghfohlcofdpaaDoor
open Go Go.RowKit
set_option linter.unusedVariables false
set_option linter.unusedSimpArgs false

theorem lx_of {s : List UInt8} {e : List (Tk.T × Int)} (h : Tk.ev [(1, s)] false true = e) (hf : ∀ x ∈ e, x.2 = 0) (hl : e.length ≤ 20000) : lx s = (e.map Prod.fst).map Tk.T.g := by
  unfold lx Tk.lex
  rw [h, Tk.col_of_fine e [] hf (by simpa using hl)]
  rfl
/-- A decimal number as the lexer takes it. -/
structure Dn (D : List UInt8) (n : Nat) : Prop where
  ne : D ≠ []
  all : ∀ c ∈ D, Tk.dg c = true
  op : ∀ fl li sp fi, opT ⟨2, D, fl, li, sp, fi⟩ = (⟨(n : Int), false⟩, true)
theorem dn_dgF (f n : Nat) (h1 : n < 10 ^ (f + 1)) (h3 : n < 1048577) : Dn (dgF (f + 1) n) n :=
  ⟨dgF_ne f n, fun c hc => (dgF_all _ _ c hc).2, fun fl li sp fi => op_dgF (f + 1) n h1 (by omega) h3 fl li sp fi⟩
theorem Dn.head {D : List UInt8} {n : Nat} (h : Dn D n) (v : List UInt8) : ∃ x r, D ++ v = x :: r ∧ Tk.nsig x = true := by
  cases D with
  | nil => exact absurd rfl h.ne
  | cons d E =>
    have hd := h.all d (by simp)
    have : ∀ n : Fin 256, Tk.dg (UInt8.ofNat n.1) = true → Tk.nsig (UInt8.ofNat n.1) = true := by decide +kernel
    have := this ⟨d.toNat, d.toNat_lt⟩
    simp only [UInt8.ofNat_toNat] at this
    exact ⟨d, E ++ v, rfl, this hd⟩
theorem two_ev {A B : List UInt8} {a b : Nat} (hA : Dn A a) (hB : Dn B b) (c : UInt8) (hc : c = 43 ∨ c = 60) :
    Tk.ev [(1, A ++ c :: B)] false true = [(⟨2, A, 1, false, true⟩, 0), (⟨5, [c], 1, false, false⟩, 0), (⟨2, B, 1, false, false⟩, 0)] := by
  rw [Tk.ev_num A (c :: B) hA.ne hA.all (.inr ⟨c, B, rfl, by rcases hc with rfl | rfl <;> decide⟩)]
  rw [Tk.ev_sgn c B (by rcases hc with rfl | rfl <;> simp) (.inr (by simpa using hB.head []))]
  have := Tk.ev_num B [] hB.ne hB.all (.inl rfl) false false
  rw [List.append_nil] at this
  rw [this, Tk.ev_end, Tk.ev_nil]
theorem sum_is {A B : List UInt8} {a b : Nat} (hA : Dn A a) (hB : Dn B b) (ha : a < 1048576) (hb : b < 1048576) : evM (lx (A ++ 43 :: B)) = (⟨((a + b : Nat) : Int), false⟩, true) := by
  rw [lx_of (two_ev hA hB 43 (.inl rfl)) (by simp) (by simp)]
  have e1 := hA.op [] 1 false true
  have e2 := hB.op [] 1 false false
  have hw : IntKind.u64.wrap ((a : Int) + (b : Int)) = (a : Int) + (b : Int) := by rw [IntKind.wrap_u64]; omega
  simp [evM, Tk.T.g, reckM, aheadM, behindM, settleM, finM, ofM, joinM, levM, skipsM, skN, e1, e2, hw]
theorem less_is {A B : List UInt8} {a b : Nat} (hA : Dn A a) (hB : Dn B b) (ha : a < 1048576) (hb : b < 1048576) : evM (lx (A ++ 60 :: B)) = (⟨if a < b then 1 else 0, false⟩, true) := by
  rw [lx_of (two_ev hA hB 60 (.inr rfl)) (by simp) (by simp)]
  have e1 := hA.op [] 1 false true
  have e2 := hB.op [] 1 false false
  have w1 : wrap64 (a : Int) = a := by unfold wrap64; omega
  have w2 : wrap64 (b : Int) = b := by unfold wrap64; omega
  have hm : decide (cmpM (a : Int) (b : Int) < 0) = decide (a < b) := by
    unfold cmpM
    by_cases h : a < b
    · have : (a : Int) < (b : Int) := by omega
      simp [this, h]
    · have h1 : ¬ (a : Int) < (b : Int) := by omega
      by_cases h2 : b < a
      · have h3 : (b : Int) < (a : Int) := by omega
        simp [h1, h3, h]
      · have h3 : ¬ (b : Int) < (a : Int) := by omega
        simp [h1, h3, h]
  simp [evM, Tk.T.g, reckM, aheadM, behindM, settleM, finM, ofM, ordM, levM, skipsM, skN, truthM, e1, e2, w1, w2, hm]
def prodT (A B : List UInt8) : List UInt8 := A ++ 42 :: (B ++ 45 :: (B ++ 42 :: (A ++ 43 :: 32 :: (B ++ 37 :: 40 :: (A ++ [43, 49, 41])))))
theorem prod_ev {A B : List UInt8} {a b : Nat} (hA : Dn A a) (hB : Dn B b) : Tk.ev [(1, prodT A B)] false true =
    [(⟨2, A, 1, false, true⟩, 0), (⟨5, [42], 1, false, false⟩, 0), (⟨2, B, 1, false, false⟩, 0), (⟨5, [45], 1, false, false⟩, 0), (⟨2, B, 1, false, false⟩, 0), (⟨5, [42], 1, false, false⟩, 0), (⟨2, A, 1, false, false⟩, 0), (⟨5, [43], 1, false, false⟩, 0),
     (⟨2, B, 1, true, false⟩, 0), (⟨5, [37], 1, false, false⟩, 0), (⟨5, [40], 1, false, false⟩, 0), (⟨2, A, 1, false, false⟩, 0), (⟨5, [43], 1, false, false⟩, 0), (⟨2, [49], 1, false, false⟩, 0), (⟨5, [41], 1, false, false⟩, 0)] := by
  unfold prodT
  rw [Tk.ev_num A _ hA.ne hA.all (.inr ⟨42, _, rfl, by decide⟩), Tk.ev_sgn 42 _ (by simp) (.inr (hB.head _)), Tk.ev_num B _ hB.ne hB.all (.inr ⟨45, _, rfl, by decide⟩), Tk.ev_sgn 45 _ (by simp) (.inr (hB.head _)),
    Tk.ev_num B _ hB.ne hB.all (.inr ⟨42, _, rfl, by decide⟩), Tk.ev_sgn 42 _ (by simp) (.inr (hA.head _)), Tk.ev_num A _ hA.ne hA.all (.inr ⟨43, _, rfl, by decide⟩), Tk.ev_sgn 43 _ (by simp) (.inr ⟨32, _, rfl, by decide⟩),
    Tk.ev_blank [] false false (by decide), Tk.ev_num B _ hB.ne hB.all (.inr ⟨37, _, rfl, by decide⟩), Tk.ev_sgn 37 _ (by simp) (.inr ⟨40, _, rfl, by decide⟩), Tk.ev_sgn 40 _ (by simp) (.inr (hA.head _)),
    Tk.ev_num A _ hA.ne hA.all (.inr ⟨43, _, rfl, by decide⟩), Tk.ev_sgn 43 _ (by simp) (.inr ⟨49, _, rfl, by decide⟩)]
  have h49 : Tk.ev [(1, [49, 41])] false false = (⟨2, [49], 1, false, false⟩, 0) :: Tk.ev [(1, [41])] false false := Tk.ev_num [49] [41] (by simp) (by decide) (.inr ⟨41, [], rfl, by decide⟩) false false
  rw [h49, Tk.ev_sgn 41 [] (by simp) (.inl rfl), Tk.ev_end, Tk.ev_nil]
theorem prod_is {A B : List UInt8} {a b : Nat} (hA : Dn A a) (hB : Dn B b) (ha : a < 1048576) (hb : b < 1048576) : evM (lx (prodT A B)) = (⟨((b % (a + 1) : Nat) : Int), false⟩, true) := by
  rw [lx_of (prod_ev hA hB) (by simp) (by simp)]
  have e1 := hA.op [] 1 false true
  have e2 := hA.op [] 1 false false
  have e3 := hB.op [] 1 false false
  have e4 := hB.op [] 1 true false
  have e5 : opT ⟨2, [49], [], 1, false, false⟩ = (⟨1, false⟩, true) := by decide +kernel
  have hP : 0 ≤ (a : Int) * (b : Int) ∧ (a : Int) * (b : Int) < 1099511627776 := by
    have h1 : a * b ≤ 1048576 * b := Nat.mul_le_mul_right b (by omega)
    have h2 : (a : Int) * (b : Int) = ((a * b : Nat) : Int) := by simp
    rw [h2]; omega
  have hwP : IntKind.u64.wrap ((a : Int) * (b : Int)) = (a : Int) * (b : Int) := by rw [IntKind.wrap_u64]; omega
  have hw1 : IntKind.u64.wrap ((a : Int) + 1) = (a : Int) + 1 := by rw [IntKind.wrap_u64]; omega
  have w2 : wrap64 (b : Int) = b := by unfold wrap64; omega
  have w3 : wrap64 ((a : Int) + 1) = (a : Int) + 1 := by unfold wrap64; omega
  have hne : ¬ (a : Int) + 1 = 0 := by omega
  have hmod : (b : Int).tmod ((a : Int) + 1) = ((b % (a + 1) : Nat) : Int) := by
    rw [Int.tmod_eq_emod_of_nonneg (by omega)]
    simp
  have hml : b % (a + 1) < 1048576 := Nat.lt_of_le_of_lt (Nat.mod_le _ _) hb
  have hwm : IntKind.u64.wrap ((b % (a + 1) : Nat) : Int) = ((b % (a + 1) : Nat) : Int) := by rw [IntKind.wrap_u64]; omega
  have hw0 : IntKind.u64.wrap 0 = 0 := by rw [IntKind.wrap_u64]; rfl
  have hcm : (b : Int) * (a : Int) = (a : Int) * (b : Int) := Int.mul_comm _ _
  generalize ((b % (a + 1) : Nat) : Int) = M at *
  simp [evM, Tk.T.g, reckM, aheadM, behindM, closeM, leaveM, settleM, finM, ofM, joinM, divM, levM, skipsM, skN, e1, e2, e3, e4, e5, hcm, hwP, hw1, w2, w3, hne, hmod, hwm, hw0]
end Go.Proofs.YtfghfohlcofdpaaDoor
