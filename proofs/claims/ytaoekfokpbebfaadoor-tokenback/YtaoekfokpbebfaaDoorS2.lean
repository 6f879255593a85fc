/-
  burinlaw02.shown answers true.
-/
import Derived.Test.YtaoekfokpbebfaaDoorS1
namespace Go.Proofs.YtaoekfokpbebfaaDoor
open Go Go.RowKit
set_option linter.unusedVariables false
set_option linter.unusedSimpArgs false

def shownS : ByteArray := ⟨#[97, 43, 43, 43, 98]⟩
theorem shown_lex : lex1 shownS = ([⟨1, [97], 1, false, true⟩, ⟨5, [43, 43], 1, false, false⟩, ⟨5, [43], 1, false, false⟩, ⟨1, [98], 1, false, false⟩], 0, 0) := by
  unfold lex1 shownS
  kernel_rfl
set_option maxRecDepth 100000 in
set_option maxHeartbeats 4000000 in
theorem shown_any (w : World) (hw0 : 0 < w.heap.size) (hsg : Sg w) : Calls Tryd.prog 11 #[] w fun e w' => e = .returned (.bool true) ∧ Below w.heap.size w w' := by
  have h := Lex_one shownS w (by unfold shownS; decide) hw0 hsg
  rw [shown_lex] at h
  unfold shownS at h
  have HLX := hide h
  clear h
  go_enter Tryd.func11, Tryd.ntmps11
  go_wp2_with fail
  refine (unhide HLX).mono ?_
  rintro e W2 ⟨v', rfl, ⟨p, cap, rfl, hc⟩, hb2⟩
  obtain ⟨g, rfl, _, _, a0, a1, a2, a3, a4, a5⟩ := hc 0 (by decide)
  obtain ⟨g1, hg1, _, _, b0, b1, b2, b3, b4, b5⟩ := hc 1 (by decide)
  obtain rfl : g = g1 := by simpa using hg1
  obtain ⟨g1, hg1, _, _, d0, d1, d2, d3, d4, d5⟩ := hc 2 (by decide)
  obtain rfl : g = g1 := by simpa using hg1
  obtain ⟨g1, hg1, _, _, e0, e1, e2, e3, e4, e5⟩ := hc 3 (by decide)
  obtain rfl : g = g1 := by simpa using hg1
  simp only [List.getElem_cons_zero, List.getElem_cons_succ, Nat.zero_mul, Nat.zero_add, Nat.one_mul, Nat.reduceMul, Nat.reduceAdd, List.length_cons, List.length_nil] at *
  clear hc HLX
  have hb3 : Below w.heap.size w W2 := ((Below.refl _ w).alloc (Nat.le_refl _) _).trans (hb2.mono (by omega))
  go_wp2
  go_ret
  exact ⟨rfl, hb3⟩
end Go.Proofs.YtaoekfokpbebfaaDoor
