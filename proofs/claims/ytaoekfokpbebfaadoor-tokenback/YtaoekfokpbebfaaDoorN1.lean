/-
  Plain lists: tokens of a text, spelt, parted into lines, and read once more.
-/
import Derived.Test.YtaoekfokpbebfaaDoorLa
import Derived.Test.YtaoekfokpbebfaaDoorTz
import Derived.Test.YtaoekfokpbebfaaDoorC2
import Derived.Test.YtaoekfokpbebfaaDoorJ1
import Derived.Test.YtaoekfokpbebfaaDoorM1
namespace Go.Proofs.YtaoekfokpbebfaaDoor
set_option linter.unusedSimpArgs false
set_option linter.unusedVariables false
open Tk

/-- Rows' texts, a line end between two. -/
def jr : List (List T) → List UInt8
  | [] => []
  | a :: b => match b with
    | [] => tx [32] [] a
    | _ :: _ => tx [32] [] a ++ 10 :: jr b
def num (n : Nat) : List (List T) → List (Nat × List UInt8)
  | [] => []
  | a :: b => (n + 1, tx [32] [] a) :: num (n + 1) b
theorem jr_two (a b : List T) (c : List (List T)) : jr (a :: b :: c) = tx [32] [] a ++ 10 :: jr (b :: c) := rfl
/-- The text of tokens, from the left. -/
def sQ : Bool → List T → List UInt8
  | _, [] => []
  | f, t :: r => (if f then [] else if t.fi then [10] else if t.sp then [32] else []) ++ (t.s ++ sQ false r)
theorem sQ_snoc : ∀ (l : List T) (f : Bool) (t : T), sQ f (l ++ [t]) = sQ f l ++ ((if f && l.isEmpty then [] else if t.fi then [10] else if t.sp then [32] else []) ++ t.s)
  | [], f, t => by simp [sQ]
  | x :: r, f, t => by
    rw [List.cons_append, sQ, sQ, sQ_snoc r false t]
    simp
theorem sQ_spP (L : List T) : ∀ k, k ≤ L.length → spP (L.map T.g) k = sQ true (L.take k) := by
  intro k
  induction k with
  | zero => intro _; rfl
  | succ k ih =>
    intro hk
    have hlt : k < L.length := by omega
    rw [spP_succ (by simpa using hlt), ih (by omega), List.take_succ_eq_append_getElem hlt, sQ_snoc]
    congr 2
    · have hemp : (L.take k).isEmpty = decide (k = 0) := by
        cases k with
        | zero => simp
        | succ k =>
          have : L ≠ [] := fun e => by subst e; simp at hlt
          simp [this]
      rw [hemp]
      unfold sepG
      by_cases hk0 : k = 0
      · simp [hk0]
      · simp [hk0, T.g]
    · simp [T.g]
theorem sQ_spG (L : List T) : spG (L.map T.g) = sQ true L := by
  have := sQ_spP L L.length (Nat.le_refl _)
  rw [List.take_length] at this
  unfold spG
  rw [List.length_map]
  exact this
theorem sQ_rws : ∀ (r : List T) (t : T), sQ true (t :: r) = jr (rws (t :: r))
  | [], t => by simp [sQ, rws, push, jr, tx]
  | t2 :: r, t => by
    have ih := sQ_rws r t2
    have h1 : sQ true (t :: t2 :: r) = t.s ++ ((if t2.fi then [10] else if t2.sp then [32] else []) ++ sQ true (t2 :: r)) := by simp [sQ]
    rw [h1, ih]
    obtain ⟨h2, _⟩ := rws_row (t2 :: r)
    rw [show rws (t :: t2 :: r) = push t (hdf (t2 :: r)) (rws (t2 :: r)) from rfl]
    cases hx : rws (t2 :: r) with
    | nil =>
      have := rws_flat (t2 :: r)
      rw [hx] at this
      simp at this
    | cons a b =>
      obtain ⟨_, t0, r0, r2, e1, e2⟩ := h2 a b hx
      simp only [List.cons.injEq] at e2
      obtain ⟨rfl, _⟩ := e2
      subst e1
      rw [push]
      by_cases hf : hdf (t2 :: r) = true
      · have hf' : t2.fi = true := hf
        rw [if_pos hf, jr_two, hf']
        simp [tx]
      · have hf' : t2.fi = false := by simpa using (show ¬ (t2.fi = true) from hf)
        rw [if_neg hf, hf']
        have key : ∀ z, jr ((t2 :: r0) :: b) = tx [32] [] (t2 :: r0) ++ z → jr ((t :: t2 :: r0) :: b) = tx [32] [] (t :: t2 :: r0) ++ z := by
          intro z hz
          cases b with
          | nil =>
            have : z = [] := by
              have e : jr [t2 :: r0] = tx [32] [] (t2 :: r0) := rfl
              rw [e] at hz
              simpa using hz.symm
            subst this
            simp [jr]
          | cons c d =>
            rw [jr_two] at hz ⊢
            have := List.append_cancel_left hz
            rw [this]
        obtain ⟨z, hz⟩ : ∃ z, jr ((t2 :: r0) :: b) = tx [32] [] (t2 :: r0) ++ z := by
          cases b with
          | nil => exact ⟨[], by simp [jr]⟩
          | cons c d => exact ⟨_, jr_two _ _ _⟩
        rw [key z hz, hz, tx_two]
        by_cases hsp : t2.sp = true
        · simp [hsp]
        · simp [hsp]
/-- The rows of a text whose rows are that. -/
theorem lg_jr : ∀ (rs : List (List T)) (n : Nat), (∀ a ∈ rs, (∀ c ∈ tx [32] [] a, c ≠ 13 ∧ c ≠ 10) ∧ Sx.Tx.bsB (tx [32] [] a) = false ∧ tx [32] [] a ≠ []) → Sx.Tx.lg n (n + 1) [] (Sx.Tx.pl [] (jr rs)) = num n rs
  | [], n, _ => by simp [jr, num, Sx.Tx.pl_nil, Sx.Tx.lg]
  | [a], n, h => by
    obtain ⟨h1, h2, h3⟩ := h a (by simp)
    have e : Sx.Tx.pl [] (jr [a]) = [tx [32] [] a] := by
      have := Sx.Tx.pl_chars (tx [32] [] a) [] [] h1
      rw [List.append_nil, List.nil_append, Sx.Tx.pl_nil, if_neg h3] at this
      exact this
    rw [e]
    simp [Sx.Tx.lg, num]
  | a :: b :: c, n, h => by
    obtain ⟨h1, h2, h3⟩ := h a (by simp)
    have ih := lg_jr (b :: c) (n + 1) (fun x hx => h x (List.mem_cons_of_mem _ hx))
    rw [jr_two, Sx.Tx.pl_chars _ _ _ h1, List.nil_append, Sx.Tx.pl_lf, Sx.Tx.lg, h2]
    simp only [Bool.false_and, Bool.false_eq_true, if_false, List.nil_append]
    rw [ih]
    rfl
theorem lines_jr (rs : List (List T)) (h : ∀ a ∈ rs, (∀ c ∈ tx [32] [] a, c ≠ 13 ∧ c ≠ 10) ∧ Sx.Tx.bsB (tx [32] [] a) = false ∧ tx [32] [] a ≠ []) : Sx.Tx.lines (jr rs) = num 0 rs := by
  rw [Sx.Tx.lines_lg]
  exact lg_jr rs 0 h
def ntr (n : Nat) : List (List T) → List (T × Int)
  | [] => []
  | a :: b => nt ((n + 1 : Nat) : Int) false true a ++ ntr (n + 1) b
def numL (n : Nat) (rs : List (List T)) : List Ln := (num n rs).map fun x => ((x.1 : Int), x.2)
theorem ev_num : ∀ (rs : List (List T)) (n : Nat), (∀ a ∈ rs, a ≠ [] ∧ row a ∧ ∃ s, Og s a) → ev (numL n rs) false true = ntr n rs
  | [], n, _ => rfl
  | a :: b, n, h => by
    obtain ⟨h1, h2, s, h3⟩ := h a (by simp)
    have ih := ev_num b (n + 1) (fun x hx => h x (List.mem_cons_of_mem _ hx))
    have e : numL n (a :: b) = (((n + 1 : Nat) : Int), tx [32] [] a) :: numL (n + 1) b := rfl
    rw [e, ev_tx _ [32] [] (numL (n + 1) b) rfl (by simp) rfl (fun z sp fi => ev_blank _ sp fi (by decide)) a s false true h3 h1 h2, ev_end, ih]
    rfl
theorem ntr_fine : ∀ (rs : List (List T)) (n : Nat), fine (ntr n rs)
  | [], n => fun x hx => by simp [ntr] at hx
  | a :: b, n => fun x hx => by
    rw [ntr, List.mem_append] at hx
    rcases hx with hx | hx
    · cases a with
      | nil => simp [nt] at hx
      | cons t r =>
        simp only [nt, List.mem_cons, List.mem_map] at hx
        rcases hx with rfl | ⟨y, _, rfl⟩ <;> rfl
    · exact ntr_fine b (n + 1) x hx
theorem nt_length (n : Int) (sp fi : Bool) (a : List T) : (nt n sp fi a).length = a.length := by cases a <;> simp [nt]
theorem ntr_length : ∀ (rs : List (List T)) (n : Nat), (ntr n rs).length = rs.flatten.length
  | [], n => rfl
  | a :: b, n => by simp [ntr, ntr_length b (n + 1), nt_length]
theorem Alk.app {A B C D : List Gt} (h : Alk A B) (g : Alk C D) : Alk (A ++ C) (B ++ D) := by
  refine ⟨by rw [List.length_append, List.length_append, h.1, g.1], fun i h1 h2 => ?_⟩
  by_cases hi : i < A.length
  · rw [List.getElem_append_left hi, List.getElem_append_left (by rw [← h.1]; exact hi)]
    exact h.2 i hi (by rw [← h.1]; exact hi)
  · have hA : A.length ≤ i := by omega
    rw [List.getElem_append_right hA, List.getElem_append_right (by rw [← h.1]; exact hA)]
    have e : i - B.length = i - A.length := by rw [h.1]
    simp only [e]
    rw [List.length_append] at h1 h2
    have := h.1
    exact g.2 (i - A.length) (by omega) (by omega)
theorem alk_ntr : ∀ (rs : List (List T)) (n : Nat), (∀ a ∈ rs, ∃ t r, a = t :: r ∧ t.fi = true ∧ ∀ x ∈ r, x.fi = false) → Alk (rs.flatten.map T.g) (((ntr n rs).map Prod.fst).map T.g)
  | [], n, _ => ⟨rfl, fun i h => by simp at h⟩
  | a :: b, n, h => by
    have ih := alk_ntr b (n + 1) (fun x hx => h x (List.mem_cons_of_mem _ hx))
    rw [List.flatten_cons, List.map_append, ntr, List.map_append, List.map_append]
    refine Alk.app ?_ ih
    obtain ⟨t, r, rfl, h1, h2⟩ := h a (by simp)
    refine ⟨by simp [nt], fun i hi hj => ?_⟩
    cases i with
    | zero => simp [nt, T.g, h1]
    | succ i =>
      have hir : i < r.length := by simpa using hi
      have hf := h2 r[i] (List.getElem_mem hir)
      simp [nt, T.g, hf]
/-- The last byte of tokens laid out is that of the last one. -/
theorem tx_last : ∀ (a : List T), a ≠ [] → (∀ t ∈ a, t.s ≠ []) → ∃ t ∈ a, (tx [32] [] a).getLast? = t.s.getLast?
  | [], h, _ => absurd rfl h
  | [t], _, h => ⟨t, by simp, by simp [tx]⟩
  | t :: t2 :: r, _, h => by
    obtain ⟨u, hu, e⟩ := tx_last (t2 :: r) (by simp) (fun x hx => h x (List.mem_cons_of_mem _ hx))
    refine ⟨u, List.mem_cons_of_mem _ hu, ?_⟩
    have hne : tx [32] [] (t2 :: r) ≠ [] := by
      rw [tx_tlx]
      have := h t2 (by simp)
      simp [this]
    rw [tx_two]
    have hl : ∀ z : List UInt8, (z ++ tx [32] [] (t2 :: r)).getLast? = (tx [32] [] (t2 :: r)).getLast? := fun z => by
      rw [List.getLast?_append]
      cases hg : (tx [32] [] (t2 :: r)).getLast? with
      | none => rw [List.getLast?_eq_none_iff] at hg; exact absurd hg hne
      | some c => rfl
    split
    · rw [← List.append_assoc, hl, e]
    · rw [hl, e]
theorem tx_bytes (p : UInt8 → Prop) (h32 : p 32) : ∀ (a : List T), (∀ t ∈ a, ∀ c ∈ t.s, p c) → ∀ c ∈ tx [32] [] a, p c
  | [], h, c, hc => by simp [tx] at hc
  | [t], h, c, hc => by simp [tx] at hc; exact h t (by simp) c hc
  | t :: t2 :: r, h, c, hc => by
    have ih := tx_bytes p h32 (t2 :: r) (fun x hx => h x (List.mem_cons_of_mem _ hx))
    rw [tx_two, List.mem_append] at hc
    rcases hc with hc | hc
    · exact h t (by simp) c hc
    · split at hc
      · rw [List.mem_append] at hc
        rcases hc with hc | hc
        · simp at hc; subst hc; exact h32
        · exact ih c hc
      · exact ih c hc
end Go.Proofs.YtaoekfokpbebfaaDoor
