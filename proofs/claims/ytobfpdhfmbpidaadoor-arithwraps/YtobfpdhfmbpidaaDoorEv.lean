/-
  The package variable operators, as the program's text lays it; the start at which it holds.
-/
import Derived.Test.YtobfpdhfmbpidaaDoorEu
import Derived.Test.YtobfpdhfmbpidaaDoorRows
import Derived.Test.YtobfpdhfmbpidaaDoorCards
import Derived.Test.YtobfpdhfmbpidaaDoorTie
import Derived.ProofKit
import Derived.LaidMore
import Derived.OpenShut
import Derived.Stop.Joined
import Derived.LaidLaws
import Derived.SizedLaws
import Derived.SevenTiedAt
namespace Go.Proofs.YtobfpdhfmbpidaaDoor
open Go.ChangeShapes Go.WideShapes Go.ChangeAt Go.RowKit
set_option linter.unusedVariables false

theorem gOps : Tryd.prog.globalNamed "burin/arith.operators" = some 0 := by kernel_rfl
theorem tOps : (Tryd.prog.globals[0]?).map (·.type) = some 63 := by kernel_rfl
theorem cellsO : Tryd.prog.cellsOf 44 = 2 := by kernel_rfl
theorem cellsI : Tryd.prog.cellsOf 3 = 1 := by kernel_rfl
theorem cellsS : Tryd.prog.cellsOf 9 = 1 := by kernel_rfl
theorem var_ltO {W : World} {n : String} {g : Nat} {cs : Array Value} (hg : Tryd.prog.globalNamed n = some g) (hv : W.var? Tryd.prog n = some cs) : g < W.heap.size := by
  unfold World.var? at hv
  rw [hg] at hv
  rcases Nat.lt_or_ge g W.heap.size with h | h
  · exact h
  · simp [Array.getElem?_eq_none h] at hv
abbrev laid1 : List (String × DataW Unit) := [("burin/arith.operators", Rows.laid_burin_arith_operators)]
def opRow (k : Nat) : DataW Unit := .agg [.lit (.string (sigM k)), .lit (.int .i64 (ofM k))]
theorem ops_laid : (Rows.laid_burin_arith_operators : DataW Unit) = .agg ((List.range 18).map opRow) := by kernel_rfl
theorem ops_of_laid {W : World} (h : laidMetH Tryd.prog laid1 W) : Ops W ∧ 0 < W.heap.size := by
  rw [MakeChecks.laidMetH_plain _ _ _ (by kernel_rfl)] at h
  obtain ⟨ps, ⟨g0, t0, cs0, f0, p0, q0, hg0, ht0, hv0, hd0, _, _⟩, _⟩ := h
  obtain rfl := Option.some.inj (gOps.symm.trans hg0)
  obtain rfl := Option.some.inj (tOps.symm.trans ht0)
  refine ⟨?_, var_ltO hg0 hv0⟩
  obtain ⟨xs, m1, rfl, hx1, hlen, hn, hel⟩ := DataW.trod_array Tryd.underlying63 hd0
  rw [ops_laid] at hx1
  simp only [Prod.mk.injEq, DataW.agg.injEq] at hx1
  intro k hk
  have he := hel k hk
  obtain ⟨y, hy⟩ : ∃ y, xs[k]? = some y := ⟨_, List.getElem?_eq_getElem (by omega)⟩
  rw [hy, cellsO] at he
  have e4 : (xs.map (·.1))[k]? = some y.1 := by rw [List.getElem?_map, hy]; rfl
  rw [← hx1.1, List.getElem?_map, List.getElem?_range hk] at e4
  have ey : y.1 = opRow k := by simpa using e4.symm
  obtain ⟨y0, y1, n, hyy, hl, z0, z1⟩ := trod_struct2 Tryd.underlying44 he
  rw [hyy] at ey
  simp only [opRow, DataW.agg.injEq, List.cons.injEq, and_true] at ey
  obtain ⟨s, e0, d0, _⟩ := DataW.trod_string Tryd.underlying9 (by simpa [cellsS] using z0)
  obtain ⟨i, e1, d1, _⟩ := DataW.trod_int Tryd.underlying3 (by simpa [cellsI] using z1)
  have b0 : (((cs0.toList.drop (k * 2)).take 2))[0]? = some (.string s) := by
    have : ((cs0.toList.drop (k * 2)).take 2).take 1 = [.string s] := by simpa using e0
    have h2 : (((cs0.toList.drop (k * 2)).take 2).take 1)[0]? = some (.string s) := by rw [this]; rfl
    simpa using h2
  have b1 : (((cs0.toList.drop (k * 2)).take 2))[1]? = some (.int .i64 i) := by
    have : (((cs0.toList.drop (k * 2)).take 2).drop 1).take 1 = [.int .i64 i] := by simpa using e1
    have h2 : ((((cs0.toList.drop (k * 2)).take 2).drop 1).take 1)[0]? = some (.int .i64 i) := by rw [this]; rfl
    simpa using h2
  have q0 : s = ⟨(sigM k).toArray⟩ := by
    have := ey.1
    rw [d0] at this
    simp at this
    obtain ⟨⟨s⟩⟩ := s
    simp at this
    rw [this]
  have q1 : i = ofM k := by
    have := ey.2
    rw [d1] at this
    simpa using this
  subst q0 q1
  refine ⟨?_, ?_⟩
  · rw [World.var?_cell hg0 hv0 (k * 2), ← Array.getElem?_toList]
    simpa using b0
  · rw [World.var?_cell hg0 hv0 (k * 2 + 1), ← Array.getElem?_toList]
    simpa using b1
theorem own : ownKnob Tryd.prog.godebug = none := by kernel_rfl
theorem door_met (os : Os) (args : Array Value) : laidMetH Tryd.prog laid1 ((World.doorLaid Tryd.prog 400 os).forCall (fun _ _ => 0) ⟨#[], args, []⟩).memory :=
  laidMetH_of_parts3 (fuel := 8) (laidMet_of_run' 8 (by kernel_rfl) (by kernel_rfl)) (by kernel_rfl) (by kernel_rfl)
theorem i64_bnd {a : Int} (h : (Lit.int .i64 a).wf = true) : -9223372036854775808 ≤ a ∧ a ≤ 9223372036854775807 := by
  simp [Lit.wf, IntKind.min, IntKind.max, IntKind.bits, IntKind.signed] at h
  omega
end Go.Proofs.YtobfpdhfmbpidaaDoor
