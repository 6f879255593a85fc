/-
  Package kind: what there is to a kind, and what numbers are made; the document's own.
-/
import Derived.Test.YtmpkgjonbjpohaaGreatDoorProg
import Derived.WalkKit
import Derived.Below
import Derived.Deep.QuietTactic
import Derived.BigQuiet
namespace Go.Proofs.YtmpkgjonbjpohaaGreatDoor
open Go Go.RowKit
set_option linter.unusedVariables false
set_option linter.unusedSimpArgs false

theorem veil {p : Prop} (h : p) : Hid p := h
theorem unveil {p : Prop} (h : Hid p) : p := h
def sizM (k : Int) : Int := if k == 1 then 1 else if k == 2 then 1 else if k == 3 then 2 else if k == 4 then 2 else if k == 5 then 4 else if k == 6 then 4 else if k == 7 then 8 else if k == 8 then 8 else 0
def unsM (k : Int) : Bool := if k == 2 then true else if k == 4 then true else if k == 6 then true else if k == 8 then true else false
def kiM (k : Int) : Bool := if k == 1 then true else if k == 2 then true else if k == 3 then true else if k == 4 then true else if k == 5 then true else if k == 6 then true else if k == 7 then true else if k == 8 then true else false
def erM (k : Int) : Int := if kiM k then 0 else 80
def proM (k : Int) : Int := if k == 1 then 5 else if k == 2 then 5 else if k == 3 then 5 else if k == 4 then 5 else if k == 5 then 5 else if k == 6 then 6 else if k == 7 then 7 else if k == 8 then 8 else 0
def toM (v k : Int) : Int := if k == 1 then (v + 128) % 256 - 128 else if k == 2 then v % 256 else if k == 3 then (v + 32768) % 65536 - 32768 else if k == 4 then v % 65536 else if k == 5 then (v + 2147483648) % 4294967296 - 2147483648 else if k == 6 then v % 4294967296 else if k == 7 then v else if k == 8 then v else 0
def NoK (k : Int) : Prop := (k == 1) = false ∧ (k == 2) = false ∧ (k == 3) = false ∧ (k == 4) = false ∧ (k == 5) = false ∧ (k == 6) = false ∧ (k == 7) = false ∧ (k == 8) = false
theorem i8w (v : Int) : IntKind.i8.wrap v = (v + 128) % 256 - 128 := by
  simp [IntKind.wrap, IntKind.bits, IntKind.signed]; split <;> omega
theorem i16w (v : Int) : IntKind.i16.wrap v = (v + 32768) % 65536 - 32768 := by
  simp [IntKind.wrap, IntKind.bits, IntKind.signed]; split <;> omega
theorem u16w (v : Int) : IntKind.u16.wrap v = v % 65536 := by
  simp [IntKind.wrap, IntKind.bits, IntKind.signed]
theorem kcases (k : Int) : k = 1 ∨ k = 2 ∨ k = 3 ∨ k = 4 ∨ k = 5 ∨ k = 6 ∨ k = 7 ∨ k = 8 ∨ NoK k := by
  unfold NoK
  simp only [beq_eq_false_iff_ne, ne_eq]
  omega
set_option maxRecDepth 100000 in
set_option maxHeartbeats 4000000 in
theorem Size_any (k : Int) (w : World) : Calls Tryz.prog 35 #[.int .i64 k] w fun e w' => e = .returned (.int .i64 (sizM k)) ∧ w' = w := by
  rcases kcases k with rfl | rfl | rfl | rfl | rfl | rfl | rfl | rfl | ⟨h1, h2, h3, h4, h5, h6, h7, h8⟩
  all_goals (
    go_enter Tryz.func35, Tryz.ntmps35
    go_wp2
    go_ret
    refine ⟨?_, rfl⟩
    first | rfl | simp [sizM, *])
set_option maxRecDepth 100000 in
set_option maxHeartbeats 4000000 in
theorem Unsigned_any (k : Int) (w : World) : Calls Tryz.prog 121 #[.int .i64 k] w fun e w' => e = .returned (.bool (unsM k)) ∧ w' = w := by
  rcases kcases k with rfl | rfl | rfl | rfl | rfl | rfl | rfl | rfl | ⟨h1, h2, h3, h4, h5, h6, h7, h8⟩
  all_goals (
    go_enter Tryz.func121, Tryz.ntmps121
    go_wp2
    go_ret
    refine ⟨?_, rfl⟩
    first | rfl | simp [unsM, *])
set_option maxRecDepth 100000 in
set_option maxHeartbeats 4000000 in
theorem Promoted_any (k : Int) (w : World) : Calls Tryz.prog 101 #[.int .i64 k] w fun e w' => e = .returned (.tuple #[.int .i64 (proM k), .int .i64 (erM k)]) ∧ w' = w := by
  rcases kcases k with rfl | rfl | rfl | rfl | rfl | rfl | rfl | rfl | ⟨h1, h2, h3, h4, h5, h6, h7, h8⟩
  all_goals (
    go_enter Tryz.func101, Tryz.ntmps101
    go_wp2
    go_ret2
    refine ⟨?_, rfl⟩
    first | rfl | simp [proM, erM, kiM, *])
theorem toM_in (v k : Int) (h1 : -9223372036854775808 ≤ v) (h2 : v ≤ 9223372036854775807) : -9223372036854775808 ≤ toM v k ∧ toM v k ≤ 9223372036854775807 := by
  unfold toM
  repeat' split
  all_goals omega
def liesM (v k : Int) : Bool := kiM k && (toM v k == v)
/-- The usual kind of two: as the document has it. -/
def usu2 (x y : Int) : Int := if unsM y then (if sizM x ≤ sizM y then y else x) else (if sizM y ≤ sizM x then x else y)
def usuM (a b : Int) : Int := if kiM a && kiM b then usu2 (proM a) (proM b) else 0
def uerM (a b : Int) : Int := if kiM a && kiM b then 0 else 80
end Go.Proofs.YtmpkgjonbjpohaaGreatDoor
