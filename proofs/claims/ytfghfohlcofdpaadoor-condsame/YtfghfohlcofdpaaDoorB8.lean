/-
  Package cond: Eval, for whatever operands are.
-/
import Derived.Test.YtfghfohlcofdpaaDoorB7
namespace Go.Proofs.YtfghfohlcofdpaaDoor
open Go Go.RowKit
set_option linter.unusedVariables false
set_option linter.unusedSimpArgs false

theorem below_drewN {B : Nat} {w W : World} (h : Below B w W) (m : Nat) : Below B w (W.drewN m) := ⟨h.os, h.tape, h.output, h.size, h.block⟩
/-- What Eval tells: bits, kind, error. -/
def evalV (Z : Vl × Bool) : Value := if Z.2 then .tuple #[.int .u64 Z.1.b, .bool Z.1.u, .int .i64 0] else .tuple #[.int .u64 0, .bool false, .int .i64 50]
set_option maxRecDepth 100000 in
set_option maxHeartbeats 4000000 in
theorem Eval_any (opM : Gt → Vl × Bool) (p : Option Addr) (cap : Nat) (l : List Gt) (w : World) (hl : l.length ≤ 1000000) (hT : TkG w.heap.size w (.slice p l.length cap) l)
    (hop : ∀ t ∈ l, ∀ W, Below w.heap.size w W → OpC opM t W) :
    Calls Tryd.prog 15 #[.slice p l.length cap] w fun e w' => e = .returned (evalV (reckM opM l [] false none)) ∧ Below w.heap.size w w' := by
  have HR := hide (reckon_any opM p cap l w hl hT hop)
  generalize reckM opM l [] false none = Z at *
  obtain ⟨⟨b, u⟩, ok⟩ := Z
  simp only [evalV, Vl.v] at *
  clear hT hop
  go_enter Tryd.func15, Tryd.ntmps15
  go_wp2_with fail
  refine (unhide HR).mono ?_
  rintro e W1 ⟨rfl, hb1⟩
  have HB := hide (hb1.trans ((below_new W1 (.cells #[.int .u64 b, .bool u] 44)).mono hb1.size))
  have hn : VBox (W1.alloc (.cells #[.int .u64 b, .bool u] 44)) W1.heap.size (.int .u64 b) u := World.alloc_heap_new W1 _
  obtain ⟨c0, c1⟩ := hn.two
  clear hb1 HR hn
  cases ok
  · go_wp2
    go_ret3
    exact ⟨rfl, unhide HB⟩
  · go_upto_region 4 with fail
    go_quiet (fail)
    go_wp2
    go_ret3
    exact ⟨rfl, below_drewN (unhide HB) _⟩
end Go.Proofs.YtfghfohlcofdpaaDoor
