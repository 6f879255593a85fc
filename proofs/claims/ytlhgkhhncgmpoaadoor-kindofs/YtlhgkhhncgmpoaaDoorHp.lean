/-
  The package variable most, as the program's text lays it; the start at which it holds.
-/
import Derived.Test.YtlhgkhhncgmpoaaDoorHn
import Derived.Test.YtlhgkhhncgmpoaaDoorRows
import Derived.Test.YtlhgkhhncgmpoaaDoorCards
import Derived.Test.YtlhgkhhncgmpoaaDoorTie
import Derived.ProofKit
import Derived.LaidMore
import Derived.OpenShut
import Derived.Stop.Joined
import Derived.LaidLaws
import Derived.SizedLaws
import Derived.SevenTiedAt
namespace Go.Proofs.YtlhgkhhncgmpoaaDoor
open Go.ChangeShapes Go.WideShapes Go.ChangeAt Go.RowKit
set_option linter.unusedVariables false

theorem gMost : Tryd.prog.globalNamed "burin/kind.most" = some 0 := by kernel_rfl
theorem tMost : (Tryd.prog.globals[0]?).map (·.type) = some 35 := by kernel_rfl
theorem cellsInt : Tryd.prog.cellsOf 3 = 1 := by kernel_rfl
theorem one_ofK {α : Type} {cs : List α} {i : Nat} {v : α} (h : (cs.drop (i * 1)).take 1 = [v]) : cs[i]? = some v := by
  rw [Nat.mul_one] at h
  have : ((cs.drop i).take 1)[0]? = some v := by rw [h]; rfl
  simpa using this
theorem var_ltK {W : World} {n : String} {g : Nat} {cs : Array Value} (hg : Tryd.prog.globalNamed n = some g) (hv : W.var? Tryd.prog n = some cs) : g < W.heap.size := by
  unfold World.var? at hv
  rw [hg] at hv
  rcases Nat.lt_or_ge g W.heap.size with h | h
  · exact h
  · simp [Array.getElem?_eq_none h] at hv
abbrev laid1 : List (String × DataW Unit) := [("burin/kind.most", Rows.laid_burin_kind_most)]
theorem mo_of_laid {W : World} (h : laidMetH Tryd.prog laid1 W) : Mo W ∧ 0 < W.heap.size := by
  rw [MakeChecks.laidMetH_plain _ _ _ (by kernel_rfl)] at h
  obtain ⟨ps, ⟨g0, t0, cs0, f0, p0, q0, hg0, ht0, hv0, hd0, _, _⟩, _⟩ := h
  obtain rfl := Option.some.inj (gMost.symm.trans hg0)
  obtain rfl := Option.some.inj (tMost.symm.trans ht0)
  refine ⟨?_, var_ltK hg0 hv0⟩
  obtain ⟨xs, m1, rfl, hx1, hlen, hn, hel⟩ := DataW.trod_array Tryd.underlying35 hd0
  simp only [Prod.mk.injEq, Rows.laid_burin_kind_most, DataW.agg.injEq] at hx1
  have key : ∀ (i : Nat) (x : Int), ([1, 1, 2, 1, 1, 1] : List Int)[i]? = some x → W.cell? ⟨0, i, none⟩ = some (.int .i64 x) := by
    intro i x hx
    have hi : i < 6 := (List.getElem?_eq_some_iff.1 hx).1
    have he := hel i hi
    obtain ⟨y, hy⟩ : ∃ y, xs[i]? = some y := ⟨_, List.getElem?_eq_getElem (by omega)⟩
    rw [hy, cellsInt] at he
    obtain ⟨n, e1, e2, _⟩ := DataW.trod_int Tryd.underlying3 he
    have hc := World.var?_cell hg0 hv0 i
    have e3 := one_ofK e1
    rw [hc, ← Array.getElem?_toList, e3]
    have e4 : (xs.map (·.1))[i]? = some y.1 := by rw [List.getElem?_map, hy]; rfl
    have e5 : ([.lit (.int .i64 1), .lit (.int .i64 1), .lit (.int .i64 2), .lit (.int .i64 1), .lit (.int .i64 1), .lit (.int .i64 1)] : List (DataW Unit)) = ([1, 1, 2, 1, 1, 1] : List Int).map fun x => .lit (.int .i64 x) := rfl
    rw [← hx1.1, e5, List.getElem?_map, hx, e2] at e4
    simp at e4
    rw [e4]
  exact ⟨key 0 1 rfl, key 1 1 rfl, key 2 2 rfl, key 3 1 rfl, key 4 1 rfl, key 5 1 rfl⟩
theorem own : ownKnob Tryd.prog.godebug = none := by kernel_rfl
theorem door_met (os : Os) (args : Array Value) : laidMetH Tryd.prog laid1 ((World.doorLaid Tryd.prog 400 os).forCall (fun _ _ => 0) ⟨#[], args, []⟩).memory :=
  laidMetH_of_parts3 (fuel := 8) (laidMet_of_run' 8 (by kernel_rfl) (by kernel_rfl)) (by kernel_rfl) (by kernel_rfl)
end Go.Proofs.YtlhgkhhncgmpoaaDoor
