/-
  A value of a condition in its box; what Eval and Number tell.
-/
import Derived.Test.YtmpkgjonbjpohaaGreatDoorY1
import Derived.Test.YtmpkgjonbjpohaaGreatDoorNa
import Derived.WalkKit
import Derived.Below
import Derived.BigRegion
import Derived.RangeFuncRecord
import Derived.Deep.RegionWith
import Derived.Deep.CutRange
import Derived.Deep.DeepCutAuto
import Derived.Deep.QuietTactic
import Derived.BigQuiet
namespace Go.Proofs.YtmpkgjonbjpohaaGreatDoor
open Go Go.RowKit
set_option linter.unusedVariables false
set_option linter.unusedSimpArgs false

/-- A value: its bits, and whether it is unsigned. -/
structure Vl where
  b : Int
  u : Bool
  deriving DecidableEq
def Vl.v (x : Vl) : Value := .agg #[.int .u64 x.b, .bool x.u]
/-- A value in its box. -/
def VBox (W : World) (M : Nat) (b : Value) (u : Bool) : Prop := W.heap[M]? = some (.cells #[b, .bool u] 222 (0, 0))
theorem VBox.lt {W : World} {M : Nat} {b : Value} {u : Bool} (h : VBox W M b u) : M < W.heap.size := (Array.getElem?_eq_some_iff.1 h).1
theorem VBox.below {W W' : World} {n M : Nat} {b : Value} {u : Bool} (h : VBox W M b u) (hb : Below n W W') (hn : M < n) : VBox W' M b u := (hb.block M hn).trans h
theorem VBox.two {W : World} {M : Nat} {b : Value} {u : Bool} (h : VBox W M b u) : W.cell? ⟨M, 0, none⟩ = some b ∧ W.cell? ⟨M, 1, none⟩ = some (.bool u) := by
  refine ⟨?_, ?_⟩ <;> (rw [World.cell?, show W.heap[M]? = _ from h]; rfl)
theorem VBox.frozen {W : World} {M : Nat} {b : Value} {u : Bool} (h : VBox W M b u) (i : Nat) : W.frozen? ⟨M, i, none⟩ = false := by
  simp [World.frozen?, show W.heap[M]? = _ from h]
theorem VBox.set0 {W : World} {M : Nat} {b : Value} {u : Bool} (h : VBox W M b u) (v : Value) : VBox (W.setCell ⟨M, 0, none⟩ v) M v u := by
  obtain ⟨hlt, hk⟩ := Array.getElem?_eq_some_iff.1 h
  show (W.heap.modify M _)[M]? = _
  rw [Array.getElem?_eq_getElem (by rw [Array.size_modify]; exact hlt), Array.getElem_modify_self, hk]
  rfl
theorem VBox.set1 {W : World} {M : Nat} {b : Value} {u : Bool} (h : VBox W M b u) (v : Bool) : VBox (W.setCell ⟨M, 1, none⟩ (.bool v)) M b v := by
  obtain ⟨hlt, hk⟩ := Array.getElem?_eq_some_iff.1 h
  show (W.heap.modify M _)[M]? = _
  rw [Array.getElem?_eq_getElem (by rw [Array.size_modify]; exact hlt), Array.getElem_modify_self, hk]
  rfl
theorem VBox.setCell {W : World} {M b' i : Nat} {b : Value} {u : Bool} (h : VBox W M b u) (hne : M ≠ b') (v : Value) : VBox (W.setCell ⟨b', i, none⟩ v) M b u := (Below.heap_setCell W ⟨b', i, none⟩ v M hne).trans h
def put2 (W : World) (M : Nat) (b : Value) (u : Bool) : World := (W.setCell ⟨M, 0, none⟩ b).setCell ⟨M, 1, none⟩ (.bool u)
theorem VBox.put {W : World} {M : Nat} {b : Value} {u : Bool} (h : VBox W M b u) (b' : Value) (u' : Bool) : VBox (put2 W M b' u') M b' u' := (h.set0 _).set1 _
theorem below_put2 {B M : Nat} {w W : World} (h : Below B w W) (hM : B ≤ M) (b : Value) (u : Bool) : Below B w (put2 W M b u) :=
  (h.setCell (p := ⟨M, 0, none⟩) hM _).setCell (p := ⟨M, 1, none⟩) hM _
theorem res_v {f : Func} {k : Nat} {tmps : Array Value} {w : World} {R : Nat} {cs : Array Value} (hr : f.results = #[.cell k 222]) (hp : tmps.getD k undef = .pointer (some ⟨R, 0, none⟩)) (hg : w.heap[R]? = some (.cells cs 222 (0, 0))) (hz : cs.size = 2) :
    (results f tmps).run Tryz.prog w = .ok (.agg cs) w := by
  have hi : (Tryz.prog.info? 222).map (·.size) = some cs.size := by rw [hz]; kernel_rfl
  have hp' : tmps[k]?.getD undef = .pointer (some ⟨R, 0, none⟩) := by simpa using hp
  simp [results, hr, hp', asAddr, run_loadVar_row w R 222 222 cs (0, 0) _ hg Tryz.underlying222 rfl hi]
theorem below_new (w : World) (o : Obj) : Below w.heap.size w (w.alloc o) := (Below.refl _ w).alloc (Nat.le_refl _) o
theorem res_vt {f : Func} {k j : Nat} {tmps : Array Value} {w : World} {R : Nat} {cs : Array Value} (hr : f.results = #[.cell k 222, .tmp j]) (hp : tmps.getD k undef = .pointer (some ⟨R, 0, none⟩)) (hg : w.heap[R]? = some (.cells cs 222 (0, 0))) (hz : cs.size = 2) :
    (results f tmps).run Tryz.prog w = .ok (.tuple #[.agg cs, tmps.getD j undef]) w := by
  have hi : (Tryz.prog.info? 222).map (·.size) = some cs.size := by rw [hz]; kernel_rfl
  have hp' : tmps[k]?.getD undef = .pointer (some ⟨R, 0, none⟩) := by simpa using hp
  simp [results, hr, hp', asAddr, run_loadVar_row w R 222 222 cs (0, 0) _ hg Tryz.underlying222 rfl hi]
theorem drewB {B : Nat} {W W' : World} (h : Below B W W') : Below B W W'.drew := ⟨h.os, h.tape, h.output, h.size, h.block⟩
theorem below_drewN {B : Nat} {w W : World} (h : Below B w W) (m : Nat) : Below B w (W.drewN m) := ⟨h.os, h.tape, h.output, h.size, h.block⟩
/-- What Eval tells: bits, kind, error. -/
def evalV (Z : Vl × Bool) : Value := if Z.2 then .tuple #[.int .u64 Z.1.b, .bool Z.1.u, .int .i64 0] else .tuple #[.int .u64 0, .bool false, .int .i64 50]
end Go.Proofs.YtmpkgjonbjpohaaGreatDoor
