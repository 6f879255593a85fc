/-
  The program's and the document's words on single bytes.
-/
import Derived.Test.YtaoekfokpbebfaaDoorChecked
import Derived.Test.YtaoekfokpbebfaaDoorL1
import Derived.WalkKit
import Derived.Below
namespace Go.Proofs.YtaoekfokpbebfaaDoor
open Go Go.RowKit
set_option linter.unusedVariables false
set_option linter.unusedSimpArgs false

theorem hide {p : Prop} (h : p) : Hid p := h
theorem unhide {p : Prop} (h : Hid p) : p := h
abbrev byteV (c : UInt8) : Value := .int .u8 (c.toNat : Int)
theorem byte_le (a c : UInt8) : decide (a ≤ c) = decide ((a.toNat : Int) ≤ (c.toNat : Int)) := by
  rw [decide_eq_decide, UInt8.le_iff_toNat_le]; omega
theorem byte_eq (c a : UInt8) : (c == a) = ((c.toNat : Int) == (a.toNat : Int)) := by
  rw [Bool.eq_iff_iff, beq_iff_eq, beq_iff_eq]
  constructor
  · rintro rfl; rfl
  · intro h; exact UInt8.toNat_inj.1 (by omega)


set_option maxHeartbeats 400000 in
theorem isDigit_x (x : Int) (w : World) : Calls Tryd.prog 54 #[.int .u8 x] w fun e w' => e = .returned (.bool (decide (48 ≤ x) && decide (x ≤ 57))) ∧ w' = w := by
  cases h1 : decide ((48 : Int) ≤ x) <;> cases h2 : decide (x ≤ 57)
  all_goals
    go_enter Tryd.func54, Tryd.ntmps54
    go_wp2
    go_ret
    exact ⟨rfl, rfl⟩
theorem dg_x (c : UInt8) : Tk.dg c = (decide ((48 : Int) ≤ (c.toNat : Int)) && decide ((c.toNat : Int) ≤ 57)) := by unfold Tk.dg; rw [byte_le 48, byte_le c 57]; rfl
theorem isDigit_any (c : UInt8) (w : World) : Calls Tryd.prog 54 #[byteV c] w fun e w' => e = .returned (.bool (Tk.dg c)) ∧ w' = w := by
  rw [dg_x]; exact isDigit_x _ w
set_option maxHeartbeats 400000 in
theorem digit_x (x : Int) (w : World) : Calls Tryd.prog 61 #[.int .u8 x] w fun e w' => e = .returned (.bool (decide (48 ≤ x) && decide (x ≤ 57))) ∧ w' = w := by
  cases h1 : decide ((48 : Int) ≤ x) <;> cases h2 : decide (x ≤ 57)
  all_goals
    go_enter Tryd.func61, Tryd.ntmps61
    go_wp2
    go_ret
    exact ⟨rfl, rfl⟩
theorem digit_any (c : UInt8) (w : World) : Calls Tryd.prog 61 #[byteV c] w fun e w' => e = .returned (.bool (Tk.dg c)) ∧ w' = w := by
  rw [dg_x]; exact digit_x _ w
set_option maxHeartbeats 400000 in
theorem isBlank_x (x : Int) (w : World) : Calls Tryd.prog 43 #[.int .u8 x] w fun e w' => e = .returned (.bool (x == 32 || x == 9 || x == 11 || x == 12)) ∧ w' = w := by
  cases h1 : x == 32 <;> cases h2 : x == 9 <;> cases h3 : x == 11 <;> cases h4 : x == 12
  all_goals
    go_enter Tryd.func43, Tryd.ntmps43
    go_wp2
    go_ret
    exact ⟨rfl, rfl⟩
theorem bl_x (c : UInt8) : Tk.bl c = ((c.toNat : Int) == 32 || (c.toNat : Int) == 9 || (c.toNat : Int) == 11 || (c.toNat : Int) == 12) := by
  unfold Tk.bl; rw [byte_eq, byte_eq, byte_eq, byte_eq]; rfl
theorem isBlank_any (c : UInt8) (w : World) : Calls Tryd.prog 43 #[byteV c] w fun e w' => e = .returned (.bool (Tk.bl c)) ∧ w' = w := by
  rw [bl_x]; exact isBlank_x _ w
set_option maxHeartbeats 400000 in
theorem blank_x (x : Int) (w : World) : Calls Tryd.prog 35 #[.int .u8 x] w fun e w' => e = .returned (.bool (x == 32 || x == 9 || x == 11 || x == 12)) ∧ w' = w := by
  cases h1 : x == 32 <;> cases h2 : x == 9 <;> cases h3 : x == 11 <;> cases h4 : x == 12
  all_goals
    go_enter Tryd.func35, Tryd.ntmps35
    go_wp2
    go_ret
    exact ⟨rfl, rfl⟩
theorem blank_any (c : UInt8) (w : World) : Calls Tryd.prog 35 #[byteV c] w fun e w' => e = .returned (.bool (Tk.bl c)) ∧ w' = w := by
  rw [bl_x]; exact blank_x _ w
def leX (x : Int) : Bool := (decide (97 ≤ x) && decide (x ≤ 122)) || (decide (65 ≤ x) && decide (x ≤ 90)) || x == 95
theorem le_x (c : UInt8) : Tk.le c = leX (c.toNat : Int) := by
  unfold Tk.le leX; rw [byte_le 97, byte_le c 122, byte_le 65, byte_le c 90, byte_eq]; rfl
set_option maxHeartbeats 800000 in
theorem letter_x (x : Int) (w : World) : Calls Tryd.prog 60 #[.int .u8 x] w fun e w' => e = .returned (.bool (leX x)) ∧ w' = w := by
  unfold leX
  cases h1 : decide ((97 : Int) ≤ x) <;> cases h2 : decide (x ≤ 122) <;> cases h3 : decide ((65 : Int) ≤ x) <;> cases h4 : decide (x ≤ 90) <;> cases h5 : x == 95
  all_goals
    go_enter Tryd.func60, Tryd.ntmps60
    go_wp2
    go_ret
    exact ⟨rfl, rfl⟩
theorem letter_any (c : UInt8) (w : World) : Calls Tryd.prog 60 #[byteV c] w fun e w' => e = .returned (.bool (Tk.le c)) ∧ w' = w := by
  rw [le_x]; exact letter_x _ w
set_option maxHeartbeats 1600000 in
theorem inName_x (x : Int) (w : World) : Calls Tryd.prog 56 #[.int .u8 x] w fun e w' => e = .returned (.bool (leX x || (decide (48 ≤ x) && decide (x ≤ 57)))) ∧ w' = w := by
  have hd := hide (isDigit_x x w)
  unfold leX
  generalize (decide (48 ≤ x) && decide (x ≤ 57)) = dd at *
  cases h1 : decide ((97 : Int) ≤ x) <;> cases h2 : decide (x ≤ 122) <;> cases h3 : decide ((65 : Int) ≤ x) <;> cases h4 : decide (x ≤ 90) <;> cases h5 : x == 95
  all_goals
    go_enter Tryd.func56, Tryd.ntmps56
    go_wp2_with (refine (unhide hd).mono ?_; rintro e w' ⟨rfl, rfl⟩)
    go_ret
    exact ⟨rfl, rfl⟩
theorem inName_any (c : UInt8) (w : World) : Calls Tryd.prog 56 #[byteV c] w fun e w' => e = .returned (.bool (Tk.nm c)) ∧ w' = w := by
  unfold Tk.nm; rw [dg_x, le_x]; exact inName_x _ w
set_option maxHeartbeats 1600000 in
theorem inNumber_any (a c : UInt8) (w : World) : Calls Tryd.prog 62 #[byteV a, byteV c] w fun e w' => e = .returned (.bool (Tk.nu a c)) ∧ w' = w := by
  have hd := hide (inName_any c w)
  unfold Tk.nu Tk.ex
  rw [byte_eq, byte_eq, byte_eq, byte_eq, byte_eq, byte_eq, byte_eq]
  unfold byteV at *
  generalize Tk.nm c = dd at *
  generalize (c.toNat : Int) = x at *
  generalize (a.toNat : Int) = y at *
  show Calls Tryd.prog 62 #[.int .u8 y, .int .u8 x] w fun e w' => e = .returned (.bool (if x == 43 || x == 45 then y == 101 || y == 69 || y == 112 || y == 80 else x == 46 || dd)) ∧ w' = w
  cases h1 : x == 43 <;> cases h2 : x == 45
  all_goals simp only [Bool.false_or, Bool.true_or, Bool.or_true, Bool.false_eq_true, if_false, if_true, Bool.or_false]
  · cases h3 : x == 46
    all_goals
      go_enter Tryd.func62, Tryd.ntmps62
      go_wp2_with (refine (unhide hd).mono ?_; rintro e w' ⟨rfl, rfl⟩)
      go_ret
      exact ⟨rfl, rfl⟩
  all_goals
    cases h5 : y == 101 <;> cases h6 : y == 69 <;> cases h7 : y == 112 <;> cases h8 : y == 80
    all_goals
      go_enter Tryd.func62, Tryd.ntmps62
      go_wp2_with fail
      go_ret
      exact ⟨rfl, rfl⟩
end Go.Proofs.YtaoekfokpbebfaaDoor
