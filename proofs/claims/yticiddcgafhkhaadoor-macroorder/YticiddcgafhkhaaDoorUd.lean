/-
  Package macro: what a nil table tells.
  Package macro: Get of a nil table.
-/
import Derived.Test.YticiddcgafhkhaaDoorUb
namespace Go.Proofs.YticiddcgafhkhaaDoor
open Go Go.RowKit
set_option linter.unusedVariables false
set_option linter.unusedSimpArgs false

set_option maxRecDepth 100000 in
set_option maxHeartbeats 2000000 in
theorem Undef_nil (s : ByteArray) (w : World) : Calls Tryd.prog 25 #[.pointer none, .string s] w fun e w' => e = .returned (.int .i64 1) ∧ w' = w := by
  go_enter Tryd.func25, Tryd.ntmps25
  go_wp2
  go_ret
  exact ⟨rfl, rfl⟩
set_option maxRecDepth 100000 in
set_option maxHeartbeats 2000000 in
theorem Names_nil (w : World) : Calls Tryd.prog 26 #[.pointer none] w fun e w' => e = .returned (.slice none 0 0) ∧ w' = w := by
  go_enter Tryd.func26, Tryd.ntmps26
  go_wp2
  go_ret
  exact ⟨rfl, rfl⟩
set_option maxRecDepth 100000 in
set_option maxHeartbeats 2000000 in
theorem Define_nil (nm pv bv : Value) (fn more : Bool) (w : World) : Calls Tryd.prog 23 #[.pointer none, .agg #[nm, .bool fn, pv, .bool more, bv]] w fun e w' => e = .returned (.int .i64 1) ∧ Below w.heap.size w w' := by
  have hb : ∀ o, Below w.heap.size w (w.alloc o) := fun o => (Below.refl _ w).alloc (Nat.le_refl _) o
  have HB := hide hb
  clear hb
  go_enter Tryd.func23, Tryd.ntmps23
  go_wp2
  go_ret
  exact ⟨rfl, unhide HB _⟩
end Go.Proofs.YticiddcgafhkhaaDoor
namespace Go.Proofs.YticiddcgafhkhaaDoor
open Go Go.RowKit
set_option linter.unusedVariables false
set_option linter.unusedSimpArgs false

def zeroM : Array Value := #[.string ⟨#[]⟩, .bool false, .slice none 0 0, .bool false, .slice none 0 0]
theorem res24 {tmps : Array Value} {w : World} {R : Nat} {cs : Array Value} (hp : tmps.getD 4 undef = .pointer (some ⟨R, 0, none⟩)) (hg : w.heap[R]? = some (.cells cs 25 (0, 0))) (hz : cs.size = 5) :
    (results Tryd.f24 tmps).run Tryd.prog w = .ok (.tuple #[.agg cs, tmps.getD 5 undef]) w := by
  rw [results_cell_tmp rfl, hp]
  have hi : (Tryd.prog.info? 25).map (·.size) = some cs.size := by rw [hz]; kernel_rfl
  simp [asAddr, run_loadVar_row w R 25 25 cs (0, 0) _ hg Tryd.underlying25 rfl hi]
set_option maxRecDepth 100000 in
set_option maxHeartbeats 2000000 in
theorem Get_nil (s : ByteArray) (w : World) : Calls Tryd.prog 24 #[.pointer none, .string s] w fun e w' => e = .returned (.tuple #[.agg zeroM, .bool false]) ∧ Below w.heap.size w w' := by
  have hb : ∀ o, Below w.heap.size w (w.alloc o) := fun o => (Below.refl _ w).alloc (Nat.le_refl _) o
  have HB := hide hb
  clear hb
  unfold zeroM
  go_enter Tryd.func24, Tryd.ntmps24
  go_wp2
  refine bodyPost_ret (res24 rfl (World.alloc_heap_new w _) rfl) rfl ⟨?_, unhide HB _⟩
  rfl
end Go.Proofs.YticiddcgafhkhaaDoor
