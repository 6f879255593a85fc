/-
  On lists: what is shown of a word is a token that comes to the word.
-/
import Derived.Test.YtnpjgamfjfmjjaaGreatDoorYa
namespace Go.Proofs.YtnpjgamfjfmjjaaGreatDoor
open Go Go.RowKit
set_option linter.unusedVariables false
set_option linter.unusedSimpArgs false

/-- The kind of the token that a word is shown as. -/
def tkK (x : Wd) : Nat := if x.kind == 3 then (if x.t == 5 && decide (x.v < 0) then 3 else 2) else if x.kind == 4 then 4 else if x.kind == 5 then 5 else 1
def okV64 (v : Int) : Prop := -9223372036854775808 ≤ v ∧ v ≤ 9223372036854775807
/-- A text is the one token of that kind. -/
def IsTok (s : List UInt8) (k : Nat) : Prop := s ≠ [] ∧ Tk.isT s = true ∧ Tk.ms s = (k, s.length)
def keyL : List (List UInt8) := [[99, 104, 97, 114], [115, 104, 111, 114, 116], [105, 110, 116], [108, 111, 110, 103], [115, 105, 103, 110, 101, 100], [117, 110, 115, 105, 103, 110, 101, 100], [118, 111, 105, 100], [105, 102], [101, 108, 115, 101], [119, 104, 105, 108, 101], [114, 101, 116, 117, 114, 110], [98, 114, 101, 97, 107], [99, 111, 110, 116, 105, 110, 117, 101], [115, 116, 114, 117, 99, 116], [117, 110, 105, 111, 110], [101, 120, 116, 101, 114, 110]]
theorem keyM_mem {s : List UInt8} (h : keyM s = true) : s ∈ keyL := by
  unfold keyM at h
  simp only [Bool.or_eq_true, beq_iff_eq] at h
  simp only [keyL, List.mem_cons, List.mem_nil_iff, or_false]
  simpa [or_assoc] using h
theorem key_tok : ∀ s ∈ keyL, s ≠ [] ∧ Tk.isT s = true ∧ Tk.ms s = (1, s.length) := by decide
theorem sign_tok : ∀ s ∈ Tk.signs, s ≠ [] ∧ Tk.isT s = true ∧ Tk.ms s = (5, s.length) := by decide +kernel
theorem octE_facts (c : UInt8) : rdM (39 :: (octE c ++ [39])) = ((c.toNat : Int), true) ∧ Tk.isT (39 :: (octE c ++ [39])) = true ∧ Tk.ms (39 :: (octE c ++ [39])) = (3, 6) := by
  have h : ∀ n : Fin 256, rdM (39 :: (octE (UInt8.ofNat n.1) ++ [39])) = (((UInt8.ofNat n.1).toNat : Int), true) ∧ Tk.isT (39 :: (octE (UInt8.ofNat n.1) ++ [39])) = true ∧ Tk.ms (39 :: (octE (UInt8.ofNat n.1) ++ [39])) = (3, 6) := by decide +kernel
  have := h ⟨c.toNat, c.toNat_lt⟩
  simpa only [UInt8.ofNat_toNat] using this
theorem oct_digits (c : UInt8) : ∃ a b d, octE c = [92, a, b, d] ∧ a ≠ 34 ∧ b ≠ 34 ∧ d ≠ 34 ∧ a ≠ 92 ∧ b ≠ 92 ∧ d ≠ 92 ∧ a ≠ 120 ∧ digM (a.toNat : Int) 8 = true ∧ digM (b.toNat : Int) 8 = true ∧ digM (d.toNat : Int) 8 = true ∧ (a ≠ 10 ∧ b ≠ 10 ∧ d ≠ 10 ∧ a ≠ 13 ∧ b ≠ 13 ∧ d ≠ 13) := by
  refine ⟨_, _, _, rfl, ?_⟩
  have h : ∀ n : Fin 256, (fun (a b d : UInt8) => a ≠ 34 ∧ b ≠ 34 ∧ d ≠ 34 ∧ a ≠ 92 ∧ b ≠ 92 ∧ d ≠ 92 ∧ a ≠ 120 ∧ digM (a.toNat : Int) 8 = true ∧ digM (b.toNat : Int) 8 = true ∧ digM (d.toNat : Int) 8 = true ∧ (a ≠ 10 ∧ b ≠ 10 ∧ d ≠ 10 ∧ a ≠ 13 ∧ b ≠ 13 ∧ d ≠ 13)) (UInt8.ofNat (48 + n.1 / 64)) (UInt8.ofNat (48 + n.1 / 8 % 8)) (UInt8.ofNat (48 + n.1 % 8)) := by decide +kernel
  exact h ⟨c.toNat, c.toNat_lt⟩
theorem qu_octs : ∀ (s z : List UInt8), Tk.quL 34 false (octs s ++ 34 :: z) = (octs s).length + 1
  | [], z => by simp [octs, Tk.quL]
  | c :: r, z => by
    obtain ⟨a, b, d, he, h1, h2, h3, h4, h5, h6, _⟩ := oct_digits c
    have ih := qu_octs r z
    have e : octs (c :: r) = 92 :: a :: b :: d :: octs r := by simp [octs, he]
    have hb : (b == 92) = false := by simpa using h5
    have hb2 : (b == 34) = false := by simpa using h2
    have hd : (d == 92) = false := by simpa using h6
    have hd2 : (d == 34) = false := by simpa using h3
    rw [e]
    simp only [List.cons_append, Tk.quL, beq_self_eq_true, if_true, hb, hb2, hd, hd2, Bool.false_eq_true, if_false, ih]
    simp [Tk.up]
theorem quo_tok (s : List UInt8) : IsTok (quoM s) 4 := by
  refine ⟨by simp [quoM], ?_, ?_⟩
  · rw [quoM, Tk.isT_iff]; simp [Tk.pre, List.isPrefixOf, Tk.bl]
  · unfold quoM
    have e1 : (Tk.dg 34 || ((34 : UInt8) == 46 && Tk.dig1 (octs s ++ [34]))) = false := by rw [show Tk.dg 34 = false from rfl, show ((34 : UInt8) == 46) = false from rfl]; rfl
    rw [Tk.ms, e1, if_neg (by decide), if_neg (by decide), if_neg (by decide), if_pos (by decide), qu_octs]
    simp [Tk.up]
theorem fb_oct (c : UInt8) (z : List UInt8) : fbM (octE c ++ z) = (c, 4, true) := by
  obtain ⟨a, b, d, he, h1, h2, h3, h4, h5, h6, h7, g1, g2, g3, _⟩ := oct_digits c
  have hf := (octE_facts c).1
  have hx : (a == 120) = false := by simpa using h7
  have hes : escN (octE c ++ z) = 4 := by
    rw [he]
    show escN (92 :: a :: b :: d :: z) = 4
    rw [escN, hx]
    simp only [Bool.false_eq_true, if_false, List.take_succ_cons, List.take_zero, digN, g1, g2, g3, if_true]
    rfl
  have ht : (octE c ++ z).take 4 = octE c := by rw [he]; rfl
  rw [he] at hes ht ⊢
  show fbM (92 :: a :: b :: d :: z) = (c, 4, true)
  have hes' : escN (92 :: a :: b :: d :: z) = 4 := hes
  have ht' : (92 :: a :: b :: d :: z).take 4 = [92, a, b, d] := rfl
  rw [fbM, if_pos (by decide), hes', ht', ← he, hf]
  simp
theorem un_octs : ∀ (s : List UInt8) (f : Nat), s.length ≤ f → unM f (octs s) = (s, true)
  | [], 0, _ => rfl
  | [], f + 1, _ => rfl
  | c :: r, f + 1, h => by
    have e : octs (c :: r) = octE c ++ octs r := by simp [octs]
    have hb := fb_oct c (octs r)
    have hd : (octE c ++ octs r).drop 4 = octs r := List.drop_left' rfl
    rw [e]
    have hne : octE c ++ octs r = 92 :: ((octE c ++ octs r).drop 1) := rfl
    rw [hne, unM, ← hne, hb]
    simp only [if_true, hd]
    rw [un_octs r f (by simpa using h)]
theorem quo_inn (s : List UInt8) : innM (quoM s) = octs s := by simp [innM, quoM]
theorem octs_no (s : List UInt8) : hasM 13 10 (quoM s) = false := by
  have h : ∀ s : List UInt8, hasM 13 10 (octs s) = false := by
    intro s
    induction s with
    | nil => rfl
    | cons c r ih =>
      obtain ⟨a, b, d, he, _, _, _, _, _, _, _, _, _, _, q1, q2, q3, q4, q5, q6⟩ := oct_digits c
      have e : octs (c :: r) = 92 :: a :: b :: d :: octs r := by simp [octs, he]
      rw [e]
      unfold hasM at ih ⊢
      simp only [List.any_cons, ih]
      simp [q1, q2, q3, q4, q5, q6]
  have h1 := h s
  unfold hasM quoM at *
  simp only [List.any_cons, List.any_append, h1, List.any_nil]
  decide
theorem tok_spelt {s : List UInt8} {k : Nat} (h : IsTok s k) (hn : s ≠ []) : speltM s (k : Int) = true := by
  obtain ⟨h1, h2, h3⟩ := h
  have hev : Tk.ev [(1, s)] false true = [(⟨k, s, 1, false, true⟩, 0)] := by
    have hl : 0 < s.length := List.length_pos_iff.2 h1
    have hd : s.drop s.length = [] := by simp
    rw [Tk.ev_tok [] false true h2 (by rw [h3]; simp only; omega), h3]
    simp only [List.take_length, hd]
    rw [Tk.ev_end, Tk.ev_nil]
  have hl : (Tk.lex [(1, s)]).1 = [⟨k, s, 1, false, true⟩] := by
    unfold Tk.lex
    rw [hev]
    rfl
  unfold speltM
  rw [hl]
  simp
theorem unq_quo (s : List UInt8) : unqM (quoM s) = (s, true) := by
  have hs := tok_spelt (quo_tok s) (by simp [quoM])
  have hs' : speltM (quoM s) 4 = true := hs
  have hu := un_octs s (octs s).length (by rw [octs_len]; omega)
  unfold unqM
  rw [hs', octs_no, quo_inn, hu]
  rfl
end Go.Proofs.YtnpjgamfjfmjjaaGreatDoor
