/-
  The table of signs, as the program's text lays it.
-/
import Derived.Test.YtaoekfokpbebfaaDoorPz
import Derived.Test.YtaoekfokpbebfaaDoorRows
import Derived.ProofKit
import Derived.LaidMore
import Derived.OpenShut
import Derived.Stop.Joined
namespace Go.Proofs.YtaoekfokpbebfaaDoor
open Go.ChangeShapes Go.WideShapes Go.ChangeAt Go.RowKit
set_option linter.unusedVariables false

theorem gSigns : Tryd.prog.globalNamed "burin/token.signs" = some 0 := by kernel_rfl
theorem tSigns : (Tryd.prog.globals[0]?).map (·.type) = some 65 := by kernel_rfl
theorem cells9 : Tryd.prog.cellsOf 9 = 1 := by kernel_rfl
theorem signs_laid {H : Type} : (Rows.laid_burin_token_signs : DataW H) = .agg (Tk.signs.map fun x => .lit (.string x)) := rfl
theorem one_of {α : Type} {cs : List α} {i : Nat} {v : α} (h : (cs.drop (i * 1)).take 1 = [v]) : cs[i]? = some v := by
  rw [Nat.mul_one] at h
  have : ((cs.drop i).take 1)[0]? = some v := by rw [h]; rfl
  simpa using this
theorem sg_of_laid {W : World} (h : laidMetH Tryd.prog [("burin/token.signs", Rows.laid_burin_token_signs)] W) : Sg W ∧ 0 < W.heap.size := by
  rw [MakeChecks.laidMetH_plain _ _ _ (by kernel_rfl)] at h
  obtain ⟨ps, ⟨g0, t0, cs0, f0, p0, q0, hg0, ht0, hv0, hd0, _, _⟩, _, _⟩ := h
  obtain rfl := Option.some.inj (gSigns.symm.trans hg0)
  obtain rfl := Option.some.inj (tSigns.symm.trans ht0)
  obtain ⟨xs, m1, rfl, hx1, hlen, hn, hel⟩ := DataW.trod_array Tryd.underlying65 hd0
  simp only [Prod.mk.injEq, signs_laid, DataW.agg.injEq] at hx1
  have key : Sg W := by
    intro i x hx
    have hi : i < 48 := (List.getElem?_eq_some_iff.1 hx).1
    have he := hel i hi
    obtain ⟨y, hy⟩ : ∃ y, xs[i]? = some y := ⟨_, List.getElem?_eq_getElem (by omega)⟩
    rw [hy, cells9] at he
    obtain ⟨s, e1, e2, _⟩ := DataW.trod_string Tryd.underlying9 he
    have hc := World.var?_cell hg0 hv0 i
    have e3 := one_of e1
    rw [hc, ← Array.getElem?_toList, e3]
    have e4 : (xs.map (·.1))[i]? = some y.1 := by rw [List.getElem?_map, hy]; rfl
    rw [← hx1.1, List.getElem?_map, hx, e2] at e4
    simp at e4
    rw [e4]
  refine ⟨key, ?_⟩
  have := key 0 [91] rfl
  rw [World.cell?] at this
  rcases Nat.eq_zero_or_pos W.heap.size with h0 | h0
  · rw [Array.getElem?_eq_none (by omega)] at this; cases this
  · exact h0
end Go.Proofs.YtaoekfokpbebfaaDoor
