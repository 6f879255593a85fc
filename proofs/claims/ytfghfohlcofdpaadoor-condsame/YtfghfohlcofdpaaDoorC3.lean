/-
  strconv.ParseUint: its errors.
-/
import Derived.Test.YtfghfohlcofdpaaDoorB9
import Derived.Deep.RegionWith
namespace Go.Proofs.YtfghfohlcofdpaaDoor
open Go Go.RowKit
set_option linter.unusedVariables false
set_option linter.unusedSimpArgs false

/-- The two errors of the package are there to be read. -/
def Eg (w : World) : Prop := (∃ t v, w.cell? ⟨0, 0, none⟩ = some (.iface t v)) ∧ ∃ t v, w.cell? ⟨1, 0, none⟩ = some (.iface t v)
theorem Eg.below {w w' : World} {B : Nat} (h : Eg w) (hb : Below B w w') (hB : 1 < B) : Eg w' := by
  obtain ⟨⟨t, v, h0⟩, ⟨t', u, h1⟩⟩ := h
  exact ⟨⟨t, v, (hb.cell (p := ⟨0, 0, none⟩) (by show 0 < B; omega)).trans h0⟩, ⟨t', u, (hb.cell (p := ⟨1, 0, none⟩) hB).trans h1⟩⟩
/-- strconv's toError, handed one of its two errors: an error that is not nil. -/
theorem eqI (a b : Int) (w : World) : (binOp .eql 67 (.iface 102 (.int .i64 a)) (.iface 102 (.int .i64 b))).run Tryd.prog w = .ok (.bool (a == b)) w := by
  kernel_rfl
set_option maxRecDepth 100000 in
theorem syntaxError_any (HC : ∀ (s : ByteArray) (w : World), s.size ≤ 281474976710656 → Calls Tryd.prog 70 #[.string s] w fun e w' => e = .returned (.string s) ∧ Below w.heap.size w w')
    (f s : ByteArray) (w : World) (hs : s.size ≤ 281474976710656) (hw : 1 < w.heap.size) (hg : Eg w) :
    Calls Tryd.prog 57 #[.string f, .string s] w fun e w' => (∃ b, e = .returned (.pointer (some ⟨b, 0, none⟩))) ∧ Below w.heap.size w w' := by
  obtain ⟨⟨ti, v, g0⟩, _⟩ := hg
  have H := hide (HC s w.drew hs)
  have g0' : w.drew.cell? ⟨0, 0, none⟩ = some (.iface ti v) := g0
  go_enter Tryd.func57, Tryd.ntmps57
  go_upto_region 1 with fail
  go_region_with (
    (go_at_call 70
     refine (unhide H).mono ?_
     rintro e W1 ⟨rfl, hb1⟩
     have g1 : W1.cell? ⟨0, 0, none⟩ = some (.iface ti v) := (hb1.cell (p := ⟨0, 0, none⟩) (by show 0 < w.heap.size; omega)).trans g0
     have HB1 : Hid (Below w.heap.size w W1) := Below.trans (b := w.drew) (drewB (Below.refl _ w)) hb1))
  all_goals (
    have HB2 := hide ((unhide HB1).alloc (unhide HB1).size (.cells #[.string f, .string s, .iface ti v] 118))
    go_wp2
    go_ret
    exact ⟨⟨_, rfl⟩, unhide HB2⟩)
set_option maxRecDepth 100000 in
theorem rangeError_any (HC : ∀ (s : ByteArray) (w : World), s.size ≤ 281474976710656 → Calls Tryd.prog 70 #[.string s] w fun e w' => e = .returned (.string s) ∧ Below w.heap.size w w')
    (f s : ByteArray) (w : World) (hs : s.size ≤ 281474976710656) (hw : 1 < w.heap.size) (hg : Eg w) :
    Calls Tryd.prog 58 #[.string f, .string s] w fun e w' => (∃ b, e = .returned (.pointer (some ⟨b, 0, none⟩))) ∧ Below w.heap.size w w' := by
  obtain ⟨_, ⟨ti, v, g0⟩⟩ := hg
  have H := hide (HC s w.drew hs)
  have g0' : w.drew.cell? ⟨1, 0, none⟩ = some (.iface ti v) := g0
  go_enter Tryd.func58, Tryd.ntmps58
  go_upto_region 1 with fail
  go_region_with (
    (go_at_call 70
     refine (unhide H).mono ?_
     rintro e W1 ⟨rfl, hb1⟩
     have g1 : W1.cell? ⟨1, 0, none⟩ = some (.iface ti v) := (hb1.cell (p := ⟨1, 0, none⟩) (by show 1 < w.heap.size; omega)).trans g0
     have HB1 : Hid (Below w.heap.size w W1) := Below.trans (b := w.drew) (drewB (Below.refl _ w)) hb1))
  all_goals (
    have HB2 := hide ((unhide HB1).alloc (unhide HB1).size (.cells #[.string f, .string s, .iface ti v] 118))
    go_wp2
    go_ret
    exact ⟨⟨_, rfl⟩, unhide HB2⟩)
set_option maxRecDepth 100000 in
theorem toError_any (HC : ∀ (s : ByteArray) (w : World), s.size ≤ 281474976710656 → Calls Tryd.prog 70 #[.string s] w fun e w' => e = .returned (.string s) ∧ Below w.heap.size w w')
    (f s : ByteArray) (b z k : Int) (w : World) (hk : k = 1 ∨ k = 2) (hs : s.size ≤ 281474976710656) (hw : 1 < w.heap.size) (hg : Eg w) :
    Calls Tryd.prog 42 #[.string f, .string s, .int .i64 b, .int .i64 z, .iface 102 (.int .i64 k)] w fun e w' => (∃ v, e = .returned (.iface 105 v)) ∧ Below w.heap.size w w' := by
  have H1 := hide (syntaxError_any HC f s w hs hw hg)
  have H2 := hide (rangeError_any HC f s w hs hw hg)
  have heq := eqI
  rcases hk with rfl | rfl
  · go_enter Tryd.func42, Tryd.ntmps42
    go_wp2_with fail
    refine (unhide H2).mono ?_
    rintro e W1 ⟨⟨p, rfl⟩, hb1⟩
    have HB := hide hb1
    go_wp2
    go_ret
    exact ⟨⟨_, rfl⟩, unhide HB⟩
  · go_enter Tryd.func42, Tryd.ntmps42
    go_wp2_with fail
    refine (unhide H1).mono ?_
    rintro e W1 ⟨⟨p, rfl⟩, hb1⟩
    have HB := hide hb1
    go_wp2
    go_ret
    exact ⟨⟨_, rfl⟩, unhide HB⟩
end Go.Proofs.YtfghfohlcofdpaaDoor
