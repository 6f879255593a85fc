/-
  Package kind: the usual kind.
-/
import Derived.Test.YtmpkgjonbjpohaaGreatDoorHa
namespace Go.Proofs.YtmpkgjonbjpohaaGreatDoor
open Go Go.RowKit
set_option linter.unusedVariables false
set_option linter.unusedSimpArgs false

set_option maxRecDepth 100000 in
set_option maxHeartbeats 400000 in
theorem Usual_any (a b : Int) (w : World) : Calls Tryz.prog 86 #[.int .i64 a, .int .i64 b] w fun e w' => e = .returned (.tuple #[.int .i64 (usuM a b), .int .i64 (uerM a b)]) ∧ w' = w := by
  have HA := veil (Promoted_any a)
  have HB := veil (Promoted_any b)
  unfold usuM uerM
  unfold erM at HA HB
  generalize proM a = A at *
  generalize proM b = B at *
  generalize kiM a = KA at *
  generalize kiM b = KB at *
  cases KA
  · go_enter Tryz.func86, Tryz.ntmps86
    go_wp2_with (go_at_call 101; refine (unveil HA _).mono ?_; rintro e w' ⟨rfl, hw'⟩; obtain rfl := hw'.symm)
    go_ret2
    exact ⟨rfl, rfl⟩
  cases KB
  · go_enter Tryz.func86, Tryz.ntmps86
    go_wp2_with (go_at_call 101; (first | with_reducible refine (unveil HA _).mono ?_ | with_reducible refine (unveil HB _).mono ?_); rintro e w' ⟨rfl, hw'⟩; obtain rfl := hw'.symm)
    go_ret2
    exact ⟨rfl, rfl⟩
  have HS := veil Size_any
  have HU := veil (Unsigned_any B)
  unfold usu2
  generalize unsM B = U at *
  have HSA := veil (Size_any A)
  have HSB := veil (Size_any B)
  generalize sizM A = SA at *
  generalize sizM B = SB at *
  cases U
  · obtain ⟨R, hR⟩ : ∃ R, (if SB ≤ SA then A else B) = R := ⟨_, rfl⟩
    simp only [Bool.and_self, if_true, Bool.false_eq_true, if_false, hR]
    have HR := veil hR
    clear hR
    cases hq : decide (SB ≤ SA)
    all_goals (
      go_enter Tryz.func86, Tryz.ntmps86
      go_wp2_with (first
        | (go_at_call 101; (first | with_reducible refine (unveil HA _).mono ?_ | with_reducible refine (unveil HB _).mono ?_); rintro e w' ⟨rfl, hw'⟩; obtain rfl := hw'.symm)
        | (go_at_call 121; refine (unveil HU _).mono ?_; rintro e w' ⟨rfl, hw'⟩; obtain rfl := hw'.symm)
        | (go_at_call 35; (first | with_reducible refine (unveil HSA _).mono ?_ | with_reducible refine (unveil HSB _).mono ?_); rintro e w' ⟨rfl, hw'⟩; obtain rfl := hw'.symm))
      go_ret2
      refine ⟨?_, rfl⟩
      simp at hq
      rw [← unveil HR]
      first | (rw [if_pos hq]; rfl) | (rw [if_neg (by omega)]; rfl))
  · obtain ⟨R, hR⟩ : ∃ R, (if SA ≤ SB then B else A) = R := ⟨_, rfl⟩
    simp only [Bool.and_self, if_true, Bool.false_eq_true, if_false, hR]
    have HR := veil hR
    clear hR
    cases hq : decide (SA ≤ SB)
    all_goals (
      go_enter Tryz.func86, Tryz.ntmps86
      go_wp2_with (first
        | (go_at_call 101; (first | with_reducible refine (unveil HA _).mono ?_ | with_reducible refine (unveil HB _).mono ?_); rintro e w' ⟨rfl, hw'⟩; obtain rfl := hw'.symm)
        | (go_at_call 121; refine (unveil HU _).mono ?_; rintro e w' ⟨rfl, hw'⟩; obtain rfl := hw'.symm)
        | (go_at_call 35; (first | with_reducible refine (unveil HSA _).mono ?_ | with_reducible refine (unveil HSB _).mono ?_); rintro e w' ⟨rfl, hw'⟩; obtain rfl := hw'.symm))
      go_ret2
      refine ⟨?_, rfl⟩
      simp at hq
      rw [← unveil HR]
      first | (rw [if_pos hq]; rfl) | (rw [if_neg (by omega)]; rfl))
end Go.Proofs.YtmpkgjonbjpohaaGreatDoor
