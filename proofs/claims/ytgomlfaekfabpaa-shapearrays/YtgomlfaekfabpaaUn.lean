/-
  Package shape: Right, Size.
-/
import Derived.Test.YtgomlfaekfabpaaUm
namespace Go.Proofs.Ytgomlfaekfabpaa
open Go Go.RowKit Go.Shelf
set_option linter.unusedVariables false
set_option linter.unusedSimpArgs false

set_option maxRecDepth 100000 in
set_option maxHeartbeats 8000000 in
theorem Right_any (t : ShT) (w : World) (hin : t.In w.heap.size w) :
    Calls Try.prog 20 #[t.v] w fun r w' => r = .returned (.int .i64 (chkM t).2) ∧ Below w.heap.size w w' := by
  have HC : Hid (∀ o, Calls Try.prog 40 #[t.v] (w.alloc o) fun r w' => r = .returned (.tuple #[extV (chkM t).1, .int .i64 (chkM t).2]) ∧ Below (w.alloc o).heap.size (w.alloc o) w') := fun o => checked_any t _ ((hin.below ((Below.refl _ w).alloc (Nat.le_refl _) o)).mono (by simp))
  clear hin
  generalize chkM t = C at *
  obtain ⟨⟨z, a⟩, e⟩ := C
  unfold extV ShT.v ShT.cs at *
  simp only at *
  go_enter Try.func20, Try.ntmps20
  go_wp2_with (go_at_call 40; refine (unveil HC _).mono ?_; rintro r w1 ⟨rfl, hb1⟩)
  go_ret
  exact ⟨rfl, (((Below.refl _ w).alloc (Nat.le_refl _) _).trans (hb1.mono (by simp))).alloc (by have := hb1.size; simp at this; omega) _⟩
set_option maxRecDepth 100000 in
set_option maxHeartbeats 8000000 in
theorem Size10_any (t : ShT) (w : World) (hin : t.In w.heap.size w) :
    Calls Try.prog 18 #[t.v] w fun r w' => r = .returned (.tuple #[.int .i64 (chkM t).1.1, .int .i64 (chkM t).1.2, .int .i64 (chkM t).2]) ∧ Below w.heap.size w w' := by
  have HC : Hid (∀ o, Calls Try.prog 40 #[t.v] (w.alloc o) fun r w' => r = .returned (.tuple #[extV (chkM t).1, .int .i64 (chkM t).2]) ∧ Below (w.alloc o).heap.size (w.alloc o) w') := fun o => checked_any t _ ((hin.below ((Below.refl _ w).alloc (Nat.le_refl _) o)).mono (by simp))
  clear hin
  generalize chkM t = C at *
  obtain ⟨⟨z, a⟩, e⟩ := C
  unfold extV ShT.v ShT.cs at *
  simp only at *
  go_enter Try.func18, Try.ntmps18
  go_upto_region 2 with (go_at_call 40; refine (unveil HC _).mono ?_; rintro r w1 ⟨rfl, hb1⟩)
  go_quiet (fail)
  go_wp2
  first
  | go_ret
  | refine bodyPost_ret (results_tmp3 rfl _ _ _) rfl ?_
  exact ⟨rfl, below_drewS ((((Below.refl _ w).alloc (Nat.le_refl _) _).trans (hb1.mono (by simp))).alloc (by have := hb1.size; simp at this; omega) _) _⟩
end Go.Proofs.Ytgomlfaekfabpaa
