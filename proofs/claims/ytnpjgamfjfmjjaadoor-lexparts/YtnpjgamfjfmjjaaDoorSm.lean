/-
  strings.IndexAny and ContainsAny of "\r\n", of whatever text.
-/
import Derived.Test.YtnpjgamfjfmjjaaDoorSn
import Derived.Lib.FieldsU
namespace Go.Proofs.YtnpjgamfjfmjjaaDoor
open Go Go.RowKit Go.Shelf
set_option linter.unusedVariables false
set_option linter.unusedSimpArgs false

theorem get_lt (s : ByteArray) (j : Nat) (h : j < s.size) : s.get! j = s[j]'h := by
  simp [ByteArray.get!, getElem!_pos, h]
  rfl
/-- What a rune of a byte of 128 and above covers. -/
theorem dec_facts (s : ByteArray) (p : Nat) (hp : p < s.size) (h : 128 ≤ (s[p]'hp).toNat) :
    1 ≤ (Utf8.decode s p).2 ∧ p + (Utf8.decode s p).2 ≤ s.size ∧ ∀ j (hj : j < s.size), p ≤ j → j < p + (Utf8.decode s p).2 → 128 ≤ (s[j]'hj).toNat := by
  have hg := get_lt s p hp
  have key : ∀ j (hj : j < s.size), (s.get! j).toNat = (s[j]'hj).toNat := fun j hj => by rw [get_lt s j hj]
  rw [Lib.decode_at]
  rcases Lib.decodeN_shape (s.size - p) (s.get! p).toNat (s.get! (p + 1)).toNat (s.get! (p + 2)).toNat (s.get! (p + 3)).toNat with h1 | h1 | h1 | h1 | h1
  · rw [hg] at h1; omega
  · obtain ⟨_, hn, hb1, _, he⟩ := h1
    rw [he]
    refine ⟨by omega, by simp only; omega, fun j hj a b => ?_⟩
    simp only at b
    have : j = p ∨ j = p + 1 := by omega
    rcases this with rfl | rfl
    · exact h
    · have := key (p + 1) hj; omega
  · obtain ⟨_, hn, hb1, hb2, _, _, he⟩ := h1
    rw [he]
    refine ⟨by omega, by simp only; omega, fun j hj a b => ?_⟩
    simp only at b
    have : j = p ∨ j = p + 1 ∨ j = p + 2 := by omega
    rcases this with rfl | rfl | rfl
    · exact h
    · have := key (p + 1) hj; omega
    · have := key (p + 2) hj; omega
  · obtain ⟨_, hn, hb1, hb2, hb3, _, _, he⟩ := h1
    rw [he]
    refine ⟨by omega, by simp only; omega, fun j hj a b => ?_⟩
    simp only at b
    have : j = p ∨ j = p + 1 ∨ j = p + 2 ∨ j = p + 3 := by omega
    rcases this with rfl | rfl | rfl | rfl
    · exact h
    · have := key (p + 1) hj; omega
    · have := key (p + 2) hj; omega
    · have := key (p + 3) hj; omega
  · rw [h1]
    refine ⟨by omega, by simp only; omega, fun j hj a b => ?_⟩
    simp only at b
    obtain rfl : j = p := by omega
    exact h
/-- An iterator over a text, put on. -/
def setIt (W : World) (A : Nat) (s : ByteArray) (p : Nat) : World := { W with heap := W.heap.setIfInBounds A (.stringIter s p) }
theorem next_at {P : Program} (W : World) (A : Nat) (s : ByteArray) (p : Nat) (ty : TypeId) (hA : W.heap[A]? = some (.stringIter s p)) (h : p < s.size) :
    (Instr.next (.pointer (some ⟨A, 0, none⟩)) true ty).run P W = .ok (.tuple #[.bool true, .int .i64 p, .int .i32 (Utf8.decode s p).1]) (setIt W A s (p + (Utf8.decode s p).2)) := by
  simp only [Instr.next, getObj, setObj, Sem.run_bind, Sem.run, hA, Result.andThen, h, if_true]
  simp [goInt, setIt]
theorem next_end {P : Program} (W : World) (A : Nat) (s : ByteArray) (p : Nat) (ty : TypeId) (hA : W.heap[A]? = some (.stringIter s p)) (h : ¬ p < s.size) :
    (Instr.next (.pointer (some ⟨A, 0, none⟩)) true ty).run P W = .ok (.tuple #[.bool false]) W := by
  simp [Instr.next, getObj, Sem.run, hA, h]
theorem setIt_at {W : World} {A : Nat} {s : ByteArray} {p q : Nat} (hA : W.heap[A]? = some (.stringIter s p)) : (setIt W A s q).heap[A]? = some (.stringIter s q) := by
  have := (Array.getElem?_eq_some_iff.1 hA).1
  simp [setIt, this]
theorem setIt_below {W w : World} {n A : Nat} {s : ByteArray} {q : Nat} (hb : Below n w W) (hn : n ≤ A) : Below n w (setIt W A s q) := by
  refine ⟨hb.os, hb.tape, hb.output, by simp [setIt]; exact hb.size, fun j hj => ?_⟩
  rw [← hb.block j hj]
  simp only [setIt]
  rw [Array.getElem?_setIfInBounds_ne (by omega)]
end Go.Proofs.YtnpjgamfjfmjjaaDoor
