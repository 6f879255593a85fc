/-
  Package kind: names; what begins every statement of layer 8.
-/
import Derived.Test.YtlhgkhhncgmpoaaDoorHb
namespace Go.Proofs.YtlhgkhhncgmpoaaDoor
open Go Go.RowKit
set_option linter.unusedVariables false
set_option linter.unusedSimpArgs false

def namM (k : Int) : List UInt8 := if k == 0 then [118, 111, 105, 100] else if k == 1 then [99, 104, 97, 114] else if k == 2 then [117, 110, 115, 105, 103, 110, 101, 100, 32, 99, 104, 97, 114] else if k == 3 then [115, 104, 111, 114, 116] else if k == 4 then [117, 110, 115, 105, 103, 110, 101, 100, 32, 115, 104, 111, 114, 116] else if k == 5 then [105, 110, 116] else if k == 6 then [117, 110, 115, 105, 103, 110, 101, 100, 32, 105, 110, 116] else if k == 7 then [108, 111, 110, 103] else if k == 8 then [117, 110, 115, 105, 103, 110, 101, 100, 32, 108, 111, 110, 103] else []
def NoN (k : Int) : Prop := (k == 0) = false ∧ NoK k
theorem ncases (k : Int) : k = 0 ∨ k = 1 ∨ k = 2 ∨ k = 3 ∨ k = 4 ∨ k = 5 ∨ k = 6 ∨ k = 7 ∨ k = 8 ∨ NoN k := by
  unfold NoN NoK
  simp only [beq_eq_false_iff_ne, ne_eq]
  omega
set_option maxRecDepth 100000 in
set_option maxHeartbeats 4000000 in
theorem Name_any (k : Int) (w : World) : Calls Tryd.prog 8 #[.int .i64 k] w fun e w' => e = .returned (.string ⟨(namM k).toArray⟩) ∧ w' = w := by
  rcases ncases k with rfl | rfl | rfl | rfl | rfl | rfl | rfl | rfl | rfl | ⟨h0, h1, h2, h3, h4, h5, h6, h7, h8⟩
  all_goals (
    go_enter Tryd.func8, Tryd.ntmps8
    go_wp2
    go_ret
    refine ⟨?_, rfl⟩
    first | rfl | simp [namM, *])
set_option maxRecDepth 100000 in
set_option maxHeartbeats 4000000 in
theorem kshown_any (w : World) : Calls Tryd.prog 5 #[] w fun e w' => e = .returned (.bool true) ∧ w' = w := by
  have HT := veil (To_any 200 1 w (by decide) (by decide))
  have HU := veil (Usual_any 6 7 w)
  have HS := veil (Size_any 4 w)
  rw [show toM 200 1 = -56 from rfl, show erM 1 = 0 from rfl] at HT
  rw [show usuM 6 7 = 7 from rfl, show uerM 6 7 = 0 from rfl] at HU
  rw [show sizM 4 = 2 from rfl] at HS
  go_enter Tryd.func5, Tryd.ntmps5
  go_wp2_with (first
    | (go_at_call 10; refine (unveil HT).mono ?_; rintro e w' ⟨rfl, hw'⟩; obtain rfl := hw'.symm)
    | (go_at_call 11; refine (unveil HU).mono ?_; rintro e w' ⟨rfl, hw'⟩; obtain rfl := hw'.symm)
    | (go_at_call 9; refine (unveil HS).mono ?_; rintro e w' ⟨rfl, hw'⟩; obtain rfl := hw'.symm))
  go_ret
  exact ⟨rfl, rfl⟩
end Go.Proofs.YtlhgkhhncgmpoaaDoor
