/-
  Package cond: readNumber, Number.
-/
import Derived.Test.YtfghfohlcofdpaaDoorC4
import Derived.Test.YtfghfohlcofdpaaDoorC2
namespace Go.Proofs.YtfghfohlcofdpaaDoor
open Go Go.RowKit
set_option linter.unusedVariables false
set_option linter.unusedSimpArgs false

theorem ext_list (l : List UInt8) (a b : Nat) : (⟨l.toArray⟩ : ByteArray).extract a b = ⟨((l.take b).drop a).toArray⟩ := by
  apply ByteArray.ext
  rw [ByteArray.data_extract]
  apply Array.toList_inj.1
  rw [Array.toList_extract]
  simp [List.extract, List.drop_take]
/-- How many digits of a base a text begins with. -/
def digN (base : Int) : List UInt8 → Nat
  | [] => 0
  | c :: r => if digM c.toNat base then digN base r + 1 else 0
theorem digN_le (base : Int) : ∀ l, digN base l ≤ l.length
  | [] => Nat.le_refl _
  | c :: r => by
    rw [digN]
    split
    · have := digN_le base r; simp; omega
    · simp
/-- A text without what a base opens it with. -/
def restM (s : List UInt8) : List UInt8 := if baseM s == 16 then s.drop 2 else s
/-- The number that a text is, and whether it is one. -/
def numM (s : List UInt8) : Vl × Bool :=
  let b := baseM s
  let r := restM s
  let n := digN b r
  if (puS b (baseC b) (r.take n)).2 ≠ 0 then (⟨0, false⟩, false)
  else (⟨(puS b (baseC b) (r.take n)).1, (sufM (r.drop n)).1 || (decide (9223372036854775808 ≤ (puS b (baseC b) (r.take n)).1) && b != 10)⟩, (sufM (r.drop n)).2)
theorem baseM_is (s : List UInt8) : baseM s = 16 ∨ baseM s = 8 ∨ baseM s = 10 := by
  unfold baseM
  split
  · exact .inl rfl
  · split
    · exact .inl rfl
    · split
      · exact .inr (.inl rfl)
      · exact .inr (.inr rfl)
theorem pre2_len {a b : UInt8} {s : List UInt8} (h : Tk.pre [a, b] s = true) : 2 ≤ s.length := by
  match s, h with
  | [], h => simp [Tk.pre] at h
  | [x], h => simp [Tk.pre] at h
  | x :: y :: r, _ => simp
theorem base16_len {s : List UInt8} (h : baseM s = 16) : 2 ≤ s.length := by
  unfold baseM at h
  split at h
  · rename_i h1; exact pre2_len h1
  · split at h
    · rename_i h1; exact pre2_len h1
    · split at h
      · cases h
      · cases h
end Go.Proofs.YtfghfohlcofdpaaDoor
