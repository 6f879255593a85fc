/-
  Package cond: baseOf, isDigit, readSuffix.
-/
import Derived.Test.YtfghfohlcofdpaaDoorB8
namespace Go.Proofs.YtfghfohlcofdpaaDoor
open Go Go.RowKit
set_option linter.unusedVariables false
set_option linter.unusedSimpArgs false

/-- A suffix: is it unsigned, and is it one? -/
def sufM (s : List UInt8) : Bool × Bool :=
  if s == [] || s == [108] || s == [76] || s == [108, 108] || s == [76, 76] then (false, true)
  else if s == [117] || s == [117, 108] || s == [117, 76] || s == [117, 108, 108] || s == [117, 76, 76] || s == [85] || s == [85, 108] || s == [85, 76] || s == [85, 108, 108] || s == [85, 76, 76] || s == [108, 117] || s == [76, 117] || s == [108, 108, 117] || s == [76, 76, 117] || s == [108, 85] || s == [76, 85] || s == [108, 108, 85] || s == [76, 76, 85] then (true, true)
  else (false, false)
set_option maxRecDepth 100000 in
set_option maxHeartbeats 16000000 in
theorem readSuffix_any (s : List UInt8) (w : World) : Calls Tryd.prog 30 #[.string ⟨s.toArray⟩] w fun e w' => e = .returned (.tuple #[.bool (sufM s).1, .bool (sufM s).2]) ∧ w' = w := by
  go_enter Tryd.func30, Tryd.ntmps30
  go_wp2
  all_goals go_ret2
  all_goals (refine ⟨?_, rfl⟩; first | (simp [sufM, *]; done) | (simp_all [sufM]; done))
/-- Is a byte a digit of a base? -/
def digM (c : Int) (base : Int) : Bool :=
  if base == 16 then (decide (48 ≤ c) && decide (c ≤ 57)) || (decide (97 ≤ c) && decide (c ≤ 102)) || (decide (65 ≤ c) && decide (c ≤ 70))
  else if base == 8 then decide (48 ≤ c) && decide (c ≤ 55) else decide (48 ≤ c) && decide (c ≤ 57)
set_option maxRecDepth 100000 in
set_option maxHeartbeats 8000000 in
theorem isDigitC_any (c base : Int) (w : World) : Calls Tryd.prog 28 #[.int .u8 c, .int .i64 base] w fun e w' => e = .returned (.bool (digM c base)) ∧ w' = w := by
  cases h16 : base == 16
  · cases h8 : base == 8
    · cases h1 : decide (48 ≤ c) <;> cases h2 : decide (c ≤ 57)
      all_goals (
        go_enter Tryd.func28, Tryd.ntmps28
        go_wp2
        go_ret
        exact ⟨by simp [digM, h16, h8, h1, h2], rfl⟩)
    · cases h1 : decide (48 ≤ c) <;> cases h2 : decide (c ≤ 55)
      all_goals (
        go_enter Tryd.func28, Tryd.ntmps28
        go_wp2
        go_ret
        exact ⟨by simp [digM, h16, h8, h1, h2], rfl⟩)
  · cases h1 : decide (48 ≤ c) <;> cases h2 : decide (c ≤ 57) <;> cases h3 : decide (97 ≤ c) <;> cases h4 : decide (c ≤ 102) <;> cases h5 : decide (65 ≤ c) <;> cases h6 : decide (c ≤ 70)
    all_goals (
      go_enter Tryd.func28, Tryd.ntmps28
      go_wp2
      go_ret
      exact ⟨by simp [digM, h16, h1, h2, h3, h4, h5, h6], rfl⟩)
end Go.Proofs.YtfghfohlcofdpaaDoor
