/-
  token.measure, in plain words.
-/
import Derived.Test.YtmpkgjonbjpohaaGreatDoorP5
namespace Go.Proofs.YtmpkgjonbjpohaaGreatDoor
open Go Go.RowKit
set_option linter.unusedVariables false
set_option linter.unusedSimpArgs false

def msV (s : ByteArray) : Value := pairV (Tk.ms s.data.toList)
theorem measure_any (s : ByteArray) (w : World) (hg : Sg w) (hs : s.size ≤ 140737488355328) (h0 : 0 < s.size) :
    Calls Tryz.prog 129 #[.string s] w fun e w' => e = .returned (msV s) ∧ ∃ m, w' = w.drewN m := by
  have key : ∀ B : Bool, B = (s[0] == 46 && Tk.dig1 (s.data.toList.drop 1)) → Tk.ms s.data.toList = if Tk.dg s[0] || B then (2, Tk.nuL s[0] (s.data.toList.drop 1) + 1) else cas (Tk.nm s[0]) (s[0].toNat : Int) (Tk.nmL (s.data.toList.drop 1) + 1) (qz s h0) (Tk.sgL s.data.toList) := by
    intro B hB
    cases hc : (Tk.dg s[0] || B)
    · rw [ms_rest s h0 (by rw [← hB]; exact hc)]
      simp only [Bool.false_eq_true, if_false]
      unfold cas
      have e39 : ((s[0].toNat : Int) == 39) = (s[0] == 39) := (byte_eq s[0] 39).symm
      have e34 : ((s[0].toNat : Int) == 34) = (s[0] == 34) := (byte_eq s[0] 34).symm
      rw [e39, e34]
      simp only [beq_iff_eq]
    · rw [ms_nu s h0 (by rw [← hB]; exact hc)]; rfl
  have fin : ∀ B : Bool, B = (s[0] == 46 && Tk.dig1 (s.data.toList.drop 1)) → ((B = false ∧ ¬ 1 < s.size) ∨ (B = false ∧ 1 < s.size ∧ ((s[0].toNat : Int) == 46) = false) ∨
      (1 < s.size ∧ ((s[0].toNat : Int) == 46) = true ∧ ∃ h : 1 < s.size, Hid (Calls Tryz.prog 140 #[.int .u8 (s[1].toNat : Int)] w fun e w' => e = .returned (.bool B) ∧ w' = w))) →
      Calls Tryz.prog 129 #[.string s] w fun e w' => e = .returned (msV s) ∧ ∃ m, w' = w.drewN m := by
    intro B hB hcs
    unfold msV
    rw [key B hB]
    exact measure_x s w h0 hs _ _ _ _ _ _ (fun w => isDigit_any s[0] w) (inName_any s[0] w) (numberSize_any s w (by unfold maxLen; omega) h0) (nameSize_any s w (by unfold maxLen; omega) h0) (quotedSize_any s w hs h0) (signSize_any s w hg hs) B hcs
  have e46 : ((s[0].toNat : Int) == 46) = (s[0] == 46) := (byte_eq s[0] 46).symm
  by_cases h1 : 1 < s.size
  · have hd := drop_at s 1 h1
    cases h46 : (s[0] == 46)
    · exact fin false (by rw [h46]; rfl) (.inr (.inl ⟨rfl, h1, by rw [e46, h46]⟩))
    · refine fin (Tk.dg s[1]) (by rw [h46, hd]; rfl) (.inr (.inr ⟨h1, by rw [e46, h46], h1, isDigit_any s[1] w⟩))
  · exact fin false (by rw [drop_end s 1 (by omega)]; simp [Tk.dig1]) (.inl ⟨rfl, h1⟩)
end Go.Proofs.YtmpkgjonbjpohaaGreatDoor
