/-
  Package cond: baseOf.
-/
import Derived.Test.YtfghfohlcofdpaaDoorB9
namespace Go.Proofs.YtfghfohlcofdpaaDoor
open Go Go.RowKit
set_option linter.unusedVariables false
set_option linter.unusedSimpArgs false

/-- A number's base. -/
def baseM (s : List UInt8) : Int := if Tk.pre [48, 120] s then 16 else if Tk.pre [48, 88] s then 16 else if Tk.pre [48] s then 8 else 10
set_option maxRecDepth 100000 in
set_option maxHeartbeats 4000000 in
theorem baseOf_any (s : List UInt8) (w : World) (hs : s.length ≤ maxLen) : Calls Tryd.prog 27 #[.string ⟨s.toArray⟩] w fun e w' => e = .returned (.int .i64 (baseM s)) ∧ w' = w := by
  have hsz : (⟨s.toArray⟩ : ByteArray).size ≤ maxLen := by show s.toArray.size ≤ _; simpa using hs
  have H1 := hide (fun W => hasPre ⟨s.toArray⟩ ⟨#[48, 120]⟩ W hsz (by unfold maxLen; decide))
  have H2 := hide (fun W => hasPre ⟨s.toArray⟩ ⟨#[48, 88]⟩ W hsz (by unfold maxLen; decide))
  have H3 := hide (fun W => hasPre ⟨s.toArray⟩ ⟨#[48]⟩ W hsz (by unfold maxLen; decide))
  simp only at H1 H2 H3
  have HR : Hid (baseM s = if Tk.pre [48, 120] s then 16 else if Tk.pre [48, 88] s then 16 else if Tk.pre [48] s then 8 else 10) := rfl
  generalize baseM s = R at *
  generalize Tk.pre [48, 120] s = p1 at *
  generalize Tk.pre [48, 88] s = p2 at *
  generalize Tk.pre [48] s = p3 at *
  clear hsz hs
  cases p1 <;> cases p2 <;> cases p3
  all_goals (
    simp only [Bool.false_eq_true, if_false, if_true] at HR
    obtain rfl := unhide HR
    go_enter Tryd.func27, Tryd.ntmps27
    go_wp2_with (first
      | (refine (unhide H1 _).mono ?_; rintro e w' ⟨rfl, hw'⟩; obtain rfl := hw'.symm)
      | (refine (unhide H2 _).mono ?_; rintro e w' ⟨rfl, hw'⟩; obtain rfl := hw'.symm)
      | (refine (unhide H3 _).mono ?_; rintro e w' ⟨rfl, hw'⟩; obtain rfl := hw'.symm))
    go_ret
    exact ⟨rfl, rfl⟩)
end Go.Proofs.YtfghfohlcofdpaaDoor
