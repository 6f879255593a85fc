/-
  strings.HasPrefix and text.lineEnd, for every string.
-/
import Derived.Test.YtaoekfokpbebfaaDoorChecked
import Derived.Test.YtaoekfokpbebfaaDoorTz
import Derived.WalkKit
import Derived.Below
namespace Go.Proofs.YtaoekfokpbebfaaDoor.Sx
open Go Go.RowKit
set_option linter.unusedVariables false

theorem hide {p : Prop} (h : p) : Hid p := h
theorem unhide {p : Prop} (h : Hid p) : p := h

theorem pre_eq (s p : ByteArray) (h : p.size ≤ s.size) : ((s.extract 0 p.size).toList == p.toList) = Tx.preB p.data.toList s.data.toList := by
  rw [ByteArray.toList_eq, ByteArray.toList_eq, Bool.eq_iff_iff, beq_iff_eq, Tx.preB_iff, List.prefix_iff_eq_take]
  have e : (s.extract 0 p.size).data.toList = s.data.toList.take p.data.toList.length := by
    rw [ByteArray.data_extract, Array.toList_extract]; simp [List.extract]
  rw [e]
  exact eq_comm
theorem pre_long (s p : ByteArray) (h : ¬ p.size ≤ s.size) : false = Tx.preB p.data.toList s.data.toList := by
  symm
  rw [Bool.eq_false_iff]
  intro hp
  have := ((Tx.preB_iff _ _).1 hp).length_le
  simp at this
  exact h this

set_option maxHeartbeats 400000 in
theorem hasPre0 (s p : ByteArray) (w : World) (hs : s.size ≤ maxLen) (hp : p.size ≤ maxLen) :
    Calls Tryd.prog 53 #[.string s, .string p] w fun e w' => e = .returned (.bool (Tx.preB p.data.toList s.data.toList)) ∧ w' = w := by
  unfold maxLen at hs hp
  by_cases hl : p.size ≤ s.size
  · have H := hide (pre_eq s p hl)
    go_enter Tryd.func53, Tryd.ntmps53
    go_wp2
    go_ret
    exact ⟨by rw [← unhide H]; rfl, rfl⟩
  · have H := hide (pre_long s p hl)
    go_enter Tryd.func53, Tryd.ntmps53
    go_wp2
    go_ret
    exact ⟨by rw [← unhide H]; rfl, rfl⟩

set_option maxHeartbeats 400000 in
theorem hasPre (s p : ByteArray) (w : World) (hs : s.size ≤ maxLen) (hp : p.size ≤ maxLen) :
    Calls Tryd.prog 41 #[.string s, .string p] w fun e w' => e = .returned (.bool (Tx.preB p.data.toList s.data.toList)) ∧ w' = w := by
  go_enter Tryd.func41, Tryd.ntmps41
  go_wp2_with (go_at_call 53; refine (hasPre0 _ _ _ hs hp).mono ?_; rintro e w' ⟨rfl, rfl⟩)
  go_ret
  exact ⟨rfl, rfl⟩

set_option maxHeartbeats 400000 in
theorem lineEnd_any (s : ByteArray) (w : World) (hs : s.size ≤ maxLen) :
    Calls Tryd.prog 50 #[.string s] w fun e w' => e = .returned (.int .i64 (Tx.ler s.data.toList)) ∧ w' = w := by
  have e1 : (⟨#[13, 10]⟩ : ByteArray).size ≤ maxLen := by decide
  have e2 : (⟨#[13]⟩ : ByteArray).size ≤ maxLen := by decide
  have e3 : (⟨#[10]⟩ : ByteArray).size ≤ maxLen := by decide
  have h1 := hasPre s ⟨#[13, 10]⟩ w hs e1
  have h2 := hasPre s ⟨#[13]⟩ w hs e2
  have h3 := hasPre s ⟨#[10]⟩ w hs e3
  cases c1 : Tx.preB [13, 10] s.data.toList
  · simp only [c1] at h1
    cases c2 : Tx.preB [13] s.data.toList
    · simp only [c2] at h2
      cases c3 : Tx.preB [10] s.data.toList
      · simp only [c3] at h3
        have L : Hid (Tx.ler s.data.toList = 0) := hide (by simp only [Tx.ler, c1, c2, c3]; rfl)
        have H1 := hide h1
        have H2 := hide h2
        have H3 := hide h3
        clear c1 c2 c3 h1 h2 h3
        go_enter Tryd.func50, Tryd.ntmps50
        go_wp2_with fail
        refine (unhide H1).mono ?_; rintro e w' ⟨rfl, rfl⟩
        go_wp2_with fail
        refine (unhide H2).mono ?_; rintro e w' ⟨rfl, rfl⟩
        go_wp2_with fail
        refine (unhide H3).mono ?_; rintro e w' ⟨rfl, rfl⟩
        go_wp2
        go_ret
        exact ⟨by rw [unhide L]; rfl, rfl⟩
      · simp only [c3] at h3
        have L : Hid (Tx.ler s.data.toList = 1) := hide (by simp only [Tx.ler, c1, c2, c3]; rfl)
        have H1 := hide h1
        have H2 := hide h2
        have H3 := hide h3
        clear c1 c2 c3 h1 h2 h3
        go_enter Tryd.func50, Tryd.ntmps50
        go_wp2_with fail
        refine (unhide H1).mono ?_; rintro e w' ⟨rfl, rfl⟩
        go_wp2_with fail
        refine (unhide H2).mono ?_; rintro e w' ⟨rfl, rfl⟩
        go_wp2_with fail
        refine (unhide H3).mono ?_; rintro e w' ⟨rfl, rfl⟩
        go_wp2
        go_ret
        exact ⟨by rw [unhide L]; rfl, rfl⟩
    · simp only [c2] at h2
      have L : Hid (Tx.ler s.data.toList = 1) := hide (by simp only [Tx.ler, c1, c2]; rfl)
      have H1 := hide h1
      have H2 := hide h2
      clear c1 c2 h1 h2 h3
      go_enter Tryd.func50, Tryd.ntmps50
      go_wp2_with fail
      refine (unhide H1).mono ?_; rintro e w' ⟨rfl, rfl⟩
      go_wp2_with fail
      refine (unhide H2).mono ?_; rintro e w' ⟨rfl, rfl⟩
      go_wp2
      go_ret
      exact ⟨by rw [unhide L]; rfl, rfl⟩
  · simp only [c1] at h1
    have L : Hid (Tx.ler s.data.toList = 2) := hide (by simp only [Tx.ler, c1]; rfl)
    have H1 := hide h1
    clear c1 h1 h2 h3
    go_enter Tryd.func50, Tryd.ntmps50
    go_wp2_with fail
    refine (unhide H1).mono ?_; rintro e w' ⟨rfl, rfl⟩
    go_wp2
    go_ret
    exact ⟨by rw [unhide L]; rfl, rfl⟩
end Go.Proofs.YtaoekfokpbebfaaDoor.Sx
