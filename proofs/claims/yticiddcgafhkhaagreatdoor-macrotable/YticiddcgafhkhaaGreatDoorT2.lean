/-
  Package macro: the table. New.
-/
import Derived.Test.YticiddcgafhkhaaGreatDoorT1
import Derived.Maps.OwnSet
namespace Go.Proofs.YticiddcgafhkhaaGreatDoor
open Go Go.RowKit
set_option linter.unusedVariables false
set_option linter.unusedSimpArgs false

/-- The values of a table's map, as they lie. -/
def rawE (v : Value) : Option (DataW Value × List MemPlace) := some (.held v, [])
/-- A table: its box b, its map in the next block but of number mb, what it holds. -/
def Tbl (W : World) (t mb n : Nat) (D : DataW Value) : Prop := W.heap[t]? = some (.cells #[.map (some mb)] 53 (0, 0)) ∧ W.ownsMap Tryz.prog 9 rawE mb n D ∧ mb < t

set_option maxRecDepth 100000 in
set_option maxHeartbeats 4000000 in
theorem New_any (w : World) : Calls Tryz.prog 5 #[] w fun e w' => e = .returned (.pointer (some ⟨w.heap.size + 1, 0, none⟩)) ∧ Tbl w' (w.heap.size + 1) w.heap.size 0 (.map []) ∧ Below w.heap.size w w' ∧ w'.heap.size = w.heap.size + 2 := by
  have hz : (w.alloc (.map #[] 0)).heap.size = w.heap.size + 1 := by simp
  have HT : Hid (Tbl ((w.alloc (.map #[] 0)).alloc (.cells #[.map (some w.heap.size)] 53)) (w.heap.size + 1) w.heap.size 0 (.map [])) := by
    refine ⟨?_, (World.ownsMap_made w _ _ _).alloc _, by omega⟩
    have a := World.alloc_heap_new (w.alloc (.map #[] 0)) (.cells #[.map (some w.heap.size)] 53)
    rw [hz] at a
    exact a
  have HB : Hid (Below w.heap.size w ((w.alloc (.map #[] 0)).alloc (.cells #[.map (some w.heap.size)] 53))) := ((Below.refl _ w).alloc (Nat.le_refl _) _).alloc (by rw [hz]; omega) _
  have HZ : Hid (((w.alloc (.map #[] 0)).alloc (.cells #[.map (some w.heap.size)] 53)).heap.size = w.heap.size + 2) := by simp [Hid]
  clear hz
  have hmm := @run_makeMap Tryz.prog
  go_enter Tryz.func5, Tryz.ntmps5
  go_wp2
  go_ret
  exact ⟨by simp, unhide HT, unhide HB, unhide HZ⟩
end Go.Proofs.YticiddcgafhkhaaGreatDoor
