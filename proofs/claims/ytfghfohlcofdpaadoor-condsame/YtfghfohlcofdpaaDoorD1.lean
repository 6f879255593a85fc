/-
  Package cond: Number.
-/
import Derived.Test.YtfghfohlcofdpaaDoorC6
import Derived.Test.YtfghfohlcofdpaaDoorB8
namespace Go.Proofs.YtfghfohlcofdpaaDoor
open Go Go.RowKit
set_option linter.unusedVariables false
set_option linter.unusedSimpArgs false

set_option maxRecDepth 100000 in
set_option maxHeartbeats 4000000 in
theorem Number_any (s : List UInt8) (hs : s.length ≤ 140737488355328) (w : World) (hw : 1 < w.heap.size) (hg : Eg w) :
    Calls Tryd.prog 9 #[.string ⟨s.toArray⟩] w fun e w' => e = .returned (evalV (numM s)) ∧ Below w.heap.size w w' := by
  have HR := hide (readNumber_any s hs w hw hg)
  generalize numM s = Z at *
  obtain ⟨⟨b, u⟩, ok⟩ := Z
  simp only [evalV, Vl.v] at *
  clear hg hw hs
  go_enter Tryd.func9, Tryd.ntmps9
  go_wp2_with fail
  refine (unhide HR).mono ?_
  rintro e W1 ⟨rfl, hb1⟩
  have HB := hide (hb1.trans ((below_new W1 (.cells #[.int .u64 b, .bool u] 44)).mono hb1.size))
  have hn : VBox (W1.alloc (.cells #[.int .u64 b, .bool u] 44)) W1.heap.size (.int .u64 b) u := World.alloc_heap_new W1 _
  obtain ⟨c0, c1⟩ := hn.two
  clear hb1 HR hn
  cases ok
  · go_wp2
    go_ret3
    exact ⟨rfl, unhide HB⟩
  · go_upto_region 4 with fail
    go_quiet (fail)
    go_wp2
    go_ret3
    exact ⟨rfl, below_drewN (unhide HB) _⟩
end Go.Proofs.YtfghfohlcofdpaaDoor
