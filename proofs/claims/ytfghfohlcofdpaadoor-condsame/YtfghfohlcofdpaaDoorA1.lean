/-
  Package cond: what a sign makes of its operands.
-/
import Derived.Test.YtfghfohlcofdpaaDoorChecked
import Derived.WalkKit
import Derived.Below
import Derived.BigRegion
import Derived.RangeFuncRecord
import Derived.Deep.RegionWith
import Derived.Test.YtfghfohlcofdpaaDoorReg
import Derived.Test.YtfghfohlcofdpaaDoorNx
import Derived.Test.YtfghfohlcofdpaaDoorMx
namespace Go.Proofs.YtfghfohlcofdpaaDoor
open Go Go.RowKit
set_option linter.unusedVariables false
set_option linter.unusedSimpArgs false

/-- How a sign between two operands binds; 0: it is none. -/
def levM (s : List UInt8) : Int :=
  if s == [124, 124] then 2 else if s == [38, 38] then 3 else if s == [124] then 4 else if s == [94] then 5 else if s == [38] then 6
  else if s == [61, 61] then 7 else if s == [33, 61] then 7 else if s == [60] then 8 else if s == [62] then 8 else if s == [60, 61] then 8 else if s == [62, 61] then 8
  else if s == [60, 60] then 9 else if s == [62, 62] then 9 else if s == [43] then 10 else if s == [45] then 10 else if s == [42] then 11 else if s == [47] then 11 else if s == [37] then 11 else 0
set_option maxRecDepth 100000 in
set_option maxHeartbeats 8000000 in
theorem levelOf_any (s : List UInt8) (w : World) : Calls Tryd.prog 50 #[.string ⟨s.toArray⟩] w fun e w' => e = .returned (.int .i64 (levM s)) ∧ w' = w := by
  go_enter Tryd.func50, Tryd.ntmps50
  go_wp2
  all_goals go_ret
  all_goals (refine ⟨?_, rfl⟩; first | (simp [levM, *]; done) | (simp_all [levM]; done))

/-- A value: its bits, and whether it is unsigned. -/
structure Vl where
  b : Int
  u : Bool
  deriving DecidableEq
def Vl.v (x : Vl) : Value := .agg #[.int .u64 x.b, .bool x.u]
/-- A value in its box. -/
def VBox (W : World) (M : Nat) (b : Value) (u : Bool) : Prop := W.heap[M]? = some (.cells #[b, .bool u] 44 (0, 0))
theorem VBox.lt {W : World} {M : Nat} {b : Value} {u : Bool} (h : VBox W M b u) : M < W.heap.size := (Array.getElem?_eq_some_iff.1 h).1
theorem VBox.below {W W' : World} {n M : Nat} {b : Value} {u : Bool} (h : VBox W M b u) (hb : Below n W W') (hn : M < n) : VBox W' M b u := (hb.block M hn).trans h
theorem VBox.two {W : World} {M : Nat} {b : Value} {u : Bool} (h : VBox W M b u) : W.cell? ⟨M, 0, none⟩ = some b ∧ W.cell? ⟨M, 1, none⟩ = some (.bool u) := by
  refine ⟨?_, ?_⟩ <;> (rw [World.cell?, show W.heap[M]? = _ from h]; rfl)
theorem VBox.frozen {W : World} {M : Nat} {b : Value} {u : Bool} (h : VBox W M b u) (i : Nat) : W.frozen? ⟨M, i, none⟩ = false := by
  simp [World.frozen?, show W.heap[M]? = _ from h]
theorem VBox.set0 {W : World} {M : Nat} {b : Value} {u : Bool} (h : VBox W M b u) (v : Value) : VBox (W.setCell ⟨M, 0, none⟩ v) M v u := by
  obtain ⟨hlt, hk⟩ := Array.getElem?_eq_some_iff.1 h
  show (W.heap.modify M _)[M]? = _
  rw [Array.getElem?_eq_getElem (by rw [Array.size_modify]; exact hlt), Array.getElem_modify_self, hk]
  rfl
theorem VBox.set1 {W : World} {M : Nat} {b : Value} {u : Bool} (h : VBox W M b u) (v : Bool) : VBox (W.setCell ⟨M, 1, none⟩ (.bool v)) M b v := by
  obtain ⟨hlt, hk⟩ := Array.getElem?_eq_some_iff.1 h
  show (W.heap.modify M _)[M]? = _
  rw [Array.getElem?_eq_getElem (by rw [Array.size_modify]; exact hlt), Array.getElem_modify_self, hk]
  rfl
theorem VBox.setCell {W : World} {M b' i : Nat} {b : Value} {u : Bool} (h : VBox W M b u) (hne : M ≠ b') (v : Value) : VBox (W.setCell ⟨b', i, none⟩ v) M b u := (Below.heap_setCell W ⟨b', i, none⟩ v M hne).trans h
def put2 (W : World) (M : Nat) (b : Value) (u : Bool) : World := (W.setCell ⟨M, 0, none⟩ b).setCell ⟨M, 1, none⟩ (.bool u)
theorem VBox.put {W : World} {M : Nat} {b : Value} {u : Bool} (h : VBox W M b u) (b' : Value) (u' : Bool) : VBox (put2 W M b' u') M b' u' := (h.set0 _).set1 _
theorem below_put2 {B M : Nat} {w W : World} (h : Below B w W) (hM : B ≤ M) (b : Value) (u : Bool) : Below B w (put2 W M b u) :=
  (h.setCell (p := ⟨M, 0, none⟩) hM _).setCell (p := ⟨M, 1, none⟩) hM _
theorem res_v {f : Func} {k : Nat} {tmps : Array Value} {w : World} {R : Nat} {cs : Array Value} (hr : f.results = #[.cell k 44]) (hp : tmps.getD k undef = .pointer (some ⟨R, 0, none⟩)) (hg : w.heap[R]? = some (.cells cs 44 (0, 0))) (hz : cs.size = 2) :
    (results f tmps).run Tryd.prog w = .ok (.agg cs) w := by
  have hi : (Tryd.prog.info? 44).map (·.size) = some cs.size := by rw [hz]; kernel_rfl
  have hp' : tmps[k]?.getD undef = .pointer (some ⟨R, 0, none⟩) := by simpa using hp
  simp [results, hr, hp', asAddr, run_loadVar_row w R 44 44 cs (0, 0) _ hg Tryd.underlying44 rfl hi]
theorem hide {p : Prop} (h : p) : Hid p := h
theorem unhide {p : Prop} (h : Hid p) : p := h

def truthM (b : Bool) : Vl := ⟨if b then 1 else 0, false⟩
theorem below_new (w : World) (o : Obj) : Below w.heap.size w (w.alloc o) := (Below.refl _ w).alloc (Nat.le_refl _) o
set_option maxRecDepth 100000 in
theorem truth_any (b : Bool) (w : World) : Calls Tryd.prog 65 #[.bool b] w fun e w' => e = .returned (truthM b).v ∧ Below w.heap.size w w' := by
  cases b
  · go_enter Tryd.func65, Tryd.ntmps65
    go_wp2
    refine bodyPost_ret (res_v (f := Tryd.f65) rfl rfl (World.alloc_heap_new w _) rfl) rfl ⟨rfl, below_new w _⟩
  · go_enter Tryd.func65, Tryd.ntmps65
    go_wp2
    refine bodyPost_ret (res_v (f := Tryd.f65) rfl rfl (World.alloc_heap_new w _) rfl) rfl ⟨rfl, below_new w _⟩
/-- Of those signs whose bits are the same, signed or not. -/
def joinM (s : List UInt8) (a b : Int) : Int :=
  if s == [42] then IntKind.u64.wrap (a * b) else if s == [43] then IntKind.u64.wrap (a + b) else if s == [45] then IntKind.u64.wrap (a - b)
  else if s == [38] then bits .and .u64 a b else if s == [94] then bits .xor .u64 a b else bits .or .u64 a b
set_option maxRecDepth 100000 in
theorem joined_any (s : List UInt8) (a b : Int) (w : World) : Calls Tryd.prog 69 #[.string ⟨s.toArray⟩, .int .u64 a, .int .u64 b] w fun e w' => e = .returned (.int .u64 (joinM s a b)) ∧ w' = w := by
  go_enter Tryd.func69, Tryd.ntmps69
  go_wp2
  all_goals go_ret
  all_goals (refine ⟨?_, rfl⟩; first | (simp [joinM, *]; done) | (simp_all [joinM]; done))
end Go.Proofs.YtfghfohlcofdpaaDoor
