/-
  Package cond: what a sign makes of its operands.
-/
import Derived.Test.YtfghfohlcofdpaaDoorA1
namespace Go.Proofs.YtfghfohlcofdpaaDoor
open Go Go.RowKit
set_option linter.unusedVariables false
set_option linter.unusedSimpArgs false

def shiftM (s : List UInt8) (a : Vl) (y : Int) : Int × Bool :=
  if 64 ≤ y then (0, false) else if s == [60, 60] then (IntKind.u64.wrap (a.b * 2 ^ y.toNat), true)
  else if a.u then (a.b / 2 ^ y.toNat, true) else (IntKind.u64.wrap (wrap64 a.b / 2 ^ y.toNat), true)
set_option maxRecDepth 100000 in
theorem shifted_any (s : List UInt8) (a : Vl) (y : Int) (w : World) (h0 : 0 ≤ y) : Calls Tryd.prog 67 #[.string ⟨s.toArray⟩, a.v, .int .u64 y] w fun e w' => e = .returned (.tuple #[.int .u64 (shiftM s a y).1, .bool (shiftM s a y).2]) ∧ Below w.heap.size w w' := by
  obtain ⟨b, u⟩ := a
  simp only [Vl.v]
  by_cases h64 : 64 ≤ y
  · have hR : shiftM s ⟨b, u⟩ y = (0, false) := by rw [shiftM, if_pos h64]
    rw [hR]
    clear hR
    go_enter Tryd.func67, Tryd.ntmps67
    go_wp2
    all_goals go_ret2
    all_goals exact ⟨rfl, below_new _ _⟩
  · have hR : shiftM s ⟨b, u⟩ y = if s == [60, 60] then (IntKind.u64.wrap (b * 2 ^ y.toNat), true) else if u then (b / 2 ^ y.toNat, true) else (IntKind.u64.wrap (wrap64 b / 2 ^ y.toNat), true) := by rw [shiftM, if_neg h64]
    rw [hR]
    clear hR
    cases hs : s == [60, 60] <;> cases u
    all_goals (
      go_enter Tryd.func67, Tryd.ntmps67
      go_wp2
      go_ret2
      exact ⟨rfl, below_new _ _⟩)
def divM (s : List UInt8) (a b : Int) (u : Bool) : Int × Bool :=
  if b = 0 then (0, false) else if u then (if s == [47] then (IntKind.u64.wrap (a.tdiv b), true) else (a.tmod b, true))
  else if s == [47] then (IntKind.u64.wrap (wrap64 ((wrap64 a).tdiv (wrap64 b))), true) else (IntKind.u64.wrap ((wrap64 a).tmod (wrap64 b)), true)
theorem wrap64_zero {b : Int} (h0 : 0 ≤ b) (h1 : b < 18446744073709551616) : wrap64 b = 0 ↔ b = 0 := by
  unfold wrap64
  omega
set_option maxRecDepth 100000 in
theorem divided_any (s : List UInt8) (a b : Int) (u : Bool) (w : World) (h0 : 0 ≤ b) (h1 : b < 18446744073709551616) : Calls Tryd.prog 68 #[.string ⟨s.toArray⟩, .int .u64 a, .int .u64 b, .bool u] w fun e w' => e = .returned (.tuple #[.int .u64 (divM s a b u).1, .bool (divM s a b u).2]) ∧ w' = w := by
  by_cases hb : b = 0
  · subst hb
    go_enter Tryd.func68, Tryd.ntmps68
    go_wp2
    all_goals go_ret2
    all_goals (refine ⟨?_, rfl⟩; simp [divM])
  · have hw : ¬ wrap64 b = 0 := fun e => hb ((wrap64_zero h0 h1).1 e)
    have hbb : (b == 0) = false := by simpa using hb
    cases u
    · go_enter Tryd.func68, Tryd.ntmps68
      go_wp2
      all_goals go_ret2
      all_goals (refine ⟨?_, rfl⟩)
      all_goals first | (simp [divM, *]; done) | (simp_all [divM]; done)
    · go_enter Tryd.func68, Tryd.ntmps68
      go_wp2
      all_goals go_ret2
      all_goals (refine ⟨?_, rfl⟩)
      all_goals first | (simp [divM, *]; done) | (simp_all [divM]; done)
end Go.Proofs.YtfghfohlcofdpaaDoor
