/-
  strings.HasPrefix, for every string.
-/
import Derived.Test.YtaoekfokpbebfaaDoorPz
namespace Go.Proofs.YtaoekfokpbebfaaDoor
open Go Go.RowKit
set_option linter.unusedVariables false

theorem Tk.pre_iff (p l : List UInt8) : Tk.pre p l = true ↔ p <+: l := List.isPrefixOf_iff_prefix
theorem pre_eq (s p : ByteArray) (h : p.size ≤ s.size) : ((s.extract 0 p.size).toList == p.toList) = Tk.pre p.data.toList s.data.toList := by
  rw [ByteArray.toList_eq, ByteArray.toList_eq, Bool.eq_iff_iff, beq_iff_eq, Tk.pre_iff, List.prefix_iff_eq_take]
  have e : (s.extract 0 p.size).data.toList = s.data.toList.take p.data.toList.length := by
    rw [ByteArray.data_extract, Array.toList_extract]; simp [List.extract]
  rw [e]
  exact eq_comm
theorem pre_long (s p : ByteArray) (h : ¬ p.size ≤ s.size) : false = Tk.pre p.data.toList s.data.toList := by
  symm
  rw [Bool.eq_false_iff]
  intro hp
  have := ((Tk.pre_iff _ _).1 hp).length_le
  simp at this
  exact h this

set_option maxHeartbeats 400000 in
theorem hasPre0 (s p : ByteArray) (w : World) (hs : s.size ≤ maxLen) (hp : p.size ≤ maxLen) :
    Calls Tryd.prog 53 #[.string s, .string p] w fun e w' => e = .returned (.bool (Tk.pre p.data.toList s.data.toList)) ∧ w' = w := by
  unfold maxLen at hs hp
  by_cases hl : p.size ≤ s.size
  · have H := hide (pre_eq s p hl)
    go_enter Tryd.func53, Tryd.ntmps53
    go_wp2
    go_ret
    exact ⟨by rw [← unhide H]; rfl, rfl⟩
  · have H := hide (pre_long s p hl)
    go_enter Tryd.func53, Tryd.ntmps53
    go_wp2
    go_ret
    exact ⟨by rw [← unhide H]; rfl, rfl⟩

set_option maxHeartbeats 400000 in
theorem hasPre (s p : ByteArray) (w : World) (hs : s.size ≤ maxLen) (hp : p.size ≤ maxLen) :
    Calls Tryd.prog 41 #[.string s, .string p] w fun e w' => e = .returned (.bool (Tk.pre p.data.toList s.data.toList)) ∧ w' = w := by
  go_enter Tryd.func41, Tryd.ntmps41
  go_wp2_with (go_at_call 53; refine (hasPre0 _ _ _ hs hp).mono ?_; rintro e w' ⟨rfl, rfl⟩)
  go_ret
  exact ⟨rfl, rfl⟩
theorem drop_data (s : ByteArray) (k : Nat) : (s.extract k s.size).data.toList = s.data.toList.drop k := by
  rw [ByteArray.data_extract, Array.toList_extract]; simp only [List.extract]; exact List.take_of_length_le (by simp)
/-- .. of a text's rest, held against two bytes. -/
theorem hasPre2 (s : ByteArray) (k : Nat) (a b : UInt8) (w : World) (hs : s.size ≤ 140737488355328) :
    Calls Tryd.prog 41 #[.string (s.extract k s.size), .string ⟨#[a, b]⟩] w fun e w' => e = .returned (.bool (Tk.pre [a, b] (s.data.toList.drop k))) ∧ w' = w := by
  rw [← drop_data]
  exact hasPre _ _ w (by unfold maxLen; simp; omega) (by unfold maxLen; show 2 ≤ _; omega)
end Go.Proofs.YtaoekfokpbebfaaDoor
