/-
  The document's own Same of words, at two lists that are the same.
-/
import Derived.Test.YtnpjgamfjfmjjaaDoorKw
import Derived.BigQuiet
namespace Go.Proofs.YtnpjgamfjfmjjaaDoor
open Go Go.RowKit
set_option linter.unusedVariables false
set_option linter.unusedSimpArgs false

set_option maxRecDepth 100000 in
set_option maxHeartbeats 4000000 in
theorem rsame_eq (va vb : Value) (A : List Wd) (Ba Bb : Nat) (w : World) (hsz : A.length ≤ 1000000) (ha : WdG Ba w va A) (hb : WdG Bb w vb A) :
    Calls Tryd.prog 7 #[va, vb] w fun e w' => e = .returned (.bool true) ∧ ∃ m, w' = w.drewN m := by
  have HA := hide ha
  have HB := hide hb
  obtain ⟨p, cap, rfl, _⟩ := ha
  obtain ⟨q, cbp, rfl, _⟩ := hb
  have i0 : (((A.length : Nat) : Int) != ((A.length : Nat) : Int)) = false := by simp
  go_enter Tryd.func7, Tryd.ntmps7
  go_wp2
  go_loopg [5] A.length (fun gk i wr => ∃ (k m : Nat), gk = A.length - k ∧ i = .int .i64 k ∧ k ≤ A.length ∧ Hid (wr = w.drewN m))
  case atStart => exact ⟨0, 0, rfl, rfl, by omega, rfl⟩
  case round =>
    obtain ⟨k, m, rfl, rfl, hk, hw⟩ := hrel
    by_cases hlt : k < A.length
    · have i1 : (k : Int) < (A.length : Int) := by omega
      obtain ⟨g, o, rfl, _, a0, a1, a2, a3, a4, a5⟩ := (unhide HA).at (i := k) hlt
      obtain ⟨g', o', rfl, _, b0, b1, b2, b3, b4, b5⟩ := (unhide HB).at (i := k) hlt
      have hww : ∀ a v, w.cell? a = some v → wr.cell? a = some v := fun a v h => by rw [unhide hw]; exact h
      replace a0 := hww _ _ a0
      replace a1 := hww _ _ a1
      replace a2 := hww _ _ a2
      replace a3 := hww _ _ a3
      replace a4 := hww _ _ a4
      replace a5 := hww _ _ a5
      replace b0 := hww _ _ b0
      replace b1 := hww _ _ b1
      replace b2 := hww _ _ b2
      replace b3 := hww _ _ b3
      replace b4 := hww _ _ b4
      replace b5 := hww _ _ b5
      clear hww
      generalize A[k] = x at *
      have hneq := fun W => wd_neq x x W
      simp only [decide_true, Bool.not_true] at hneq
      obtain ⟨xk, xs, xv, xt, xf, xl⟩ := x
      simp only at hneq a0 a1 a2 a3 a4 a5 b0 b1 b2 b3 b4 b5
      generalize (⟨xs.toArray⟩ : ByteArray) = XS at *
      generalize (⟨xf.toArray⟩ : ByteArray) = XF at *
      go_upto_region 6 with fail
      go_quiet (fail)
      go_wp2
      go_roundg (A.length - (k + 1))
      case measure => omega
      case rel => exact ⟨k + 1, _, rfl, by go_num, by omega, hide (Hdrew hw)⟩
    · have i1 : ¬ (k : Int) < (A.length : Int) := by omega
      go_wp2
      go_ret
      exact ⟨rfl, _, unhide hw⟩
end Go.Proofs.YtnpjgamfjfmjjaaDoor
