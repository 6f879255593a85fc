/-
  Package cond: baseOf, isDigit, readSuffix.
  Package cond: baseOf.
  Package cond: plainEscape.
-/
import Derived.Test.YtmpkgjonbjpohaaGreatDoorAv
namespace Go.Proofs.YtmpkgjonbjpohaaGreatDoor
open Go Go.RowKit
set_option linter.unusedVariables false
set_option linter.unusedSimpArgs false

/-- A suffix: is it unsigned, and is it one? -/
def sufM (s : List UInt8) : Bool × Bool :=
  if s == [] || s == [108] || s == [76] || s == [108, 108] || s == [76, 76] then (false, true)
  else if s == [117] || s == [117, 108] || s == [117, 76] || s == [117, 108, 108] || s == [117, 76, 76] || s == [85] || s == [85, 108] || s == [85, 76] || s == [85, 108, 108] || s == [85, 76, 76] || s == [108, 117] || s == [76, 117] || s == [108, 108, 117] || s == [76, 76, 117] || s == [108, 85] || s == [76, 85] || s == [108, 108, 85] || s == [76, 76, 85] then (true, true)
  else (false, false)
set_option maxRecDepth 100000 in
set_option maxHeartbeats 16000000 in
theorem readSuffix_any (s : List UInt8) (w : World) : Calls Tryz.prog 191 #[.string ⟨s.toArray⟩] w fun e w' => e = .returned (.tuple #[.bool (sufM s).1, .bool (sufM s).2]) ∧ w' = w := by
  go_enter Tryz.func191, Tryz.ntmps191
  go_wp2
  all_goals go_ret2
  all_goals (refine ⟨?_, rfl⟩; first | (simp [sufM, *]; done) | (simp_all [sufM]; done))
/-- Is a byte a digit of a base? -/
def digM (c : Int) (base : Int) : Bool :=
  if base == 16 then (decide (48 ≤ c) && decide (c ≤ 57)) || (decide (97 ≤ c) && decide (c ≤ 102)) || (decide (65 ≤ c) && decide (c ≤ 70))
  else if base == 8 then decide (48 ≤ c) && decide (c ≤ 55) else decide (48 ≤ c) && decide (c ≤ 57)
set_option maxRecDepth 100000 in
set_option maxHeartbeats 8000000 in
theorem isDigitC_any (c base : Int) (w : World) : Calls Tryz.prog 189 #[.int .u8 c, .int .i64 base] w fun e w' => e = .returned (.bool (digM c base)) ∧ w' = w := by
  cases h16 : base == 16
  · cases h8 : base == 8
    · cases h1 : decide (48 ≤ c) <;> cases h2 : decide (c ≤ 57)
      all_goals (
        go_enter Tryz.func189, Tryz.ntmps189
        go_wp2
        go_ret
        exact ⟨by simp [digM, h16, h8, h1, h2], rfl⟩)
    · cases h1 : decide (48 ≤ c) <;> cases h2 : decide (c ≤ 55)
      all_goals (
        go_enter Tryz.func189, Tryz.ntmps189
        go_wp2
        go_ret
        exact ⟨by simp [digM, h16, h8, h1, h2], rfl⟩)
  · cases h1 : decide (48 ≤ c) <;> cases h2 : decide (c ≤ 57) <;> cases h3 : decide (97 ≤ c) <;> cases h4 : decide (c ≤ 102) <;> cases h5 : decide (65 ≤ c) <;> cases h6 : decide (c ≤ 70)
    all_goals (
      go_enter Tryz.func189, Tryz.ntmps189
      go_wp2
      go_ret
      exact ⟨by simp [digM, h16, h1, h2, h3, h4, h5, h6], rfl⟩)
end Go.Proofs.YtmpkgjonbjpohaaGreatDoor
namespace Go.Proofs.YtmpkgjonbjpohaaGreatDoor
open Go Go.RowKit
set_option linter.unusedVariables false
set_option linter.unusedSimpArgs false

/-- A number's base. -/
def baseM (s : List UInt8) : Int := if Tk.pre [48, 120] s then 16 else if Tk.pre [48, 88] s then 16 else if Tk.pre [48] s then 8 else 10
set_option maxRecDepth 100000 in
set_option maxHeartbeats 4000000 in
theorem baseOf_any (s : List UInt8) (w : World) (hs : s.length ≤ maxLen) : Calls Tryz.prog 188 #[.string ⟨s.toArray⟩] w fun e w' => e = .returned (.int .i64 (baseM s)) ∧ w' = w := by
  have hsz : (⟨s.toArray⟩ : ByteArray).size ≤ maxLen := by show s.toArray.size ≤ _; simpa using hs
  have H1 := hide (fun W => hasPre ⟨s.toArray⟩ ⟨#[48, 120]⟩ W hsz (by unfold maxLen; decide))
  have H2 := hide (fun W => hasPre ⟨s.toArray⟩ ⟨#[48, 88]⟩ W hsz (by unfold maxLen; decide))
  have H3 := hide (fun W => hasPre ⟨s.toArray⟩ ⟨#[48]⟩ W hsz (by unfold maxLen; decide))
  simp only at H1 H2 H3
  have HR : Hid (baseM s = if Tk.pre [48, 120] s then 16 else if Tk.pre [48, 88] s then 16 else if Tk.pre [48] s then 8 else 10) := rfl
  generalize baseM s = R at *
  generalize Tk.pre [48, 120] s = p1 at *
  generalize Tk.pre [48, 88] s = p2 at *
  generalize Tk.pre [48] s = p3 at *
  clear hsz hs
  cases p1 <;> cases p2 <;> cases p3
  all_goals (
    simp only [Bool.false_eq_true, if_false, if_true] at HR
    obtain rfl := unhide HR
    go_enter Tryz.func188, Tryz.ntmps188
    go_wp2_with (first
      | (refine (unhide H1 _).mono ?_; rintro e w' ⟨rfl, hw'⟩; obtain rfl := hw'.symm)
      | (refine (unhide H2 _).mono ?_; rintro e w' ⟨rfl, hw'⟩; obtain rfl := hw'.symm)
      | (refine (unhide H3 _).mono ?_; rintro e w' ⟨rfl, hw'⟩; obtain rfl := hw'.symm))
    go_ret
    exact ⟨rfl, rfl⟩)
end Go.Proofs.YtmpkgjonbjpohaaGreatDoor
namespace Go.Proofs.YtmpkgjonbjpohaaGreatDoor
open Go Go.RowKit
set_option linter.unusedVariables false
set_option linter.unusedSimpArgs false

/-- An escape of one byte, and whether it is one. -/
def escM (c : Int) : Int × Bool :=
  if c == 110 then (10, true) else if c == 116 then (9, true) else if c == 118 then (11, true) else if c == 98 then (8, true) else if c == 114 then (13, true) else if c == 102 then (12, true) else if c == 97 then (7, true)
  else if c == 92 then (c, true) else if c == 39 then (c, true) else if c == 34 then (c, true) else if c == 63 then (c, true) else (0, false)
set_option maxRecDepth 100000 in
set_option maxHeartbeats 8000000 in
theorem plainEscape_any (c : Int) (w : World) : Calls Tryz.prog 193 #[.int .u8 c] w fun e w' => e = .returned (.tuple #[.int .u8 (escM c).1, .bool (escM c).2]) ∧ w' = w := by
  go_enter Tryz.func193, Tryz.ntmps193
  go_wp2
  all_goals go_ret2
  all_goals (refine ⟨?_, rfl⟩; first | (simp [escM, *]; done) | (simp_all [escM]; done))
end Go.Proofs.YtmpkgjonbjpohaaGreatDoor
