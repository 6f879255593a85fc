/-
  The package variables, as the program's text lays them: the two errors, the table of signs.
-/
import Derived.Test.YtfghfohlcofdpaaGreatDoorDb
import Derived.Test.YtfghfohlcofdpaaGreatDoorRows
import Derived.ProofKit
import Derived.LaidMore
import Derived.OpenShut
import Derived.Stop.Joined
import Derived.LaidLaws
namespace Go.Proofs.YtfghfohlcofdpaaGreatDoor
open Go.ChangeShapes Go.WideShapes Go.ChangeAt Go.RowKit
set_option linter.unusedVariables false

theorem gSyntax : Tryz.prog.globalNamed "strconv.ErrSyntax" = some 1 := by kernel_rfl
theorem gRange : Tryz.prog.globalNamed "strconv.ErrRange" = some 2 := by kernel_rfl
theorem gSigns : Tryz.prog.globalNamed "burin/token.signs" = some 0 := by kernel_rfl
theorem tSyntax : (Tryz.prog.globals[1]?).map (·.type) = some 90 := by kernel_rfl
theorem tRange : (Tryz.prog.globals[2]?).map (·.type) = some 90 := by kernel_rfl
theorem tSigns : (Tryz.prog.globals[0]?).map (·.type) = some 124 := by kernel_rfl
theorem cells9 : Tryz.prog.cellsOf 9 = 1 := by kernel_rfl
theorem signs_laid {H : Type} : (Rows.laid_burin_token_signs : DataW H) = .agg (Tk.signs.map fun x => .lit (.string x)) := rfl
theorem one_of {α : Type} {cs : List α} {i : Nat} {v : α} (h : (cs.drop (i * 1)).take 1 = [v]) : cs[i]? = some v := by
  rw [Nat.mul_one] at h
  have : ((cs.drop i).take 1)[0]? = some v := by rw [h]; rfl
  simpa using this
/-- The list of what is laid, as the rows have it. -/
abbrev laid6 : List (String × DataW Unit) := [("math/bits.deBruijn32tab", Rows.laid_math_bits_deBruijn32tab), ("math/bits.deBruijn64tab", Rows.laid_math_bits_deBruijn64tab), ("internal/strconv.uint64pow10", Rows.laid_internal_strconv_uint64pow10), ("strconv.ErrRange", Rows.laid_strconv_ErrRange), ("strconv.ErrSyntax", Rows.laid_strconv_ErrSyntax), ("burin/token.signs", Rows.laid_burin_token_signs)]
theorem iface_cell {W : World} {g : Nat} {n : String} {t : TypeId} {cs : Array Value} {f : Nat} {p : List MemPlace} {name : String} {d : DataW Unit} (hg : Tryz.prog.globalNamed n = some g) (hv : W.var? Tryz.prog n = some cs) (ht : t = 90)
    (hd : DataW.trod (fun _ => ()) Tryz.prog W 0 (fun _ => true) false f t cs.toList = some (.iface name d, p)) : ∃ u v, W.cell? ⟨g, 0, none⟩ = some (.iface u v) := by
  subst ht
  obtain ⟨_, u, v, hc, _, _⟩ := iface_of_trod Tryz.underlying90 hd
  refine ⟨u, v, ?_⟩
  rw [World.var?_cell hg hv 0, ← Array.getElem?_toList, hc]
  rfl
theorem gl_of_laid {W : World} (h : laidMetH Tryz.prog laid6 W) : Gl W := by
  rw [MakeChecks.laidMetH_plain _ _ _ (by kernel_rfl)] at h
  obtain ⟨ps, ⟨_, _, _, _, _, _, _, _, _, _, ⟨_, _, _, _, _, _, _, _, _, _, ⟨_, _, _, _, _, _, _, _, _, _, ⟨g1, t1, cs1, f1, p1, q1, hg1, ht1, hv1, hd1, ⟨g2, t2, cs2, f2, p2, q2, hg2, ht2, hv2, hd2, ⟨g0, t0, cs0, f0, p0, q0, hg0, ht0, hv0, hd0, _, _⟩, _⟩, _⟩, _⟩, _⟩, _⟩, _, _⟩ := h
  obtain rfl := Option.some.inj (gSigns.symm.trans hg0)
  obtain rfl := Option.some.inj (tSigns.symm.trans ht0)
  obtain rfl := Option.some.inj (gRange.symm.trans hg1)
  obtain rfl := Option.some.inj (tRange.symm.trans ht1)
  obtain rfl := Option.some.inj (gSyntax.symm.trans hg2)
  obtain rfl := Option.some.inj (tSyntax.symm.trans ht2)
  have e1 := iface_cell hg1 hv1 rfl hd1
  have e2 := iface_cell hg2 hv2 rfl hd2
  obtain ⟨xs, m1, rfl, hx1, hlen, hn, hel⟩ := DataW.trod_array Tryz.underlying124 hd0
  simp only [Prod.mk.injEq, signs_laid, DataW.agg.injEq] at hx1
  have key : Sg W := by
    intro i x hx
    have hi : i < 48 := (List.getElem?_eq_some_iff.1 hx).1
    have he := hel i hi
    obtain ⟨y, hy⟩ : ∃ y, xs[i]? = some y := ⟨_, List.getElem?_eq_getElem (by omega)⟩
    rw [hy, cells9] at he
    obtain ⟨s, e1, e2, _⟩ := DataW.trod_string Tryz.underlying9 he
    have hc := World.var?_cell hg0 hv0 i
    have e3 := one_of e1
    rw [hc, ← Array.getElem?_toList, e3]
    have e4 : (xs.map (·.1))[i]? = some y.1 := by rw [List.getElem?_map, hy]; rfl
    rw [← hx1.1, List.getElem?_map, hx, e2] at e4
    simp at e4
    rw [e4]
  refine ⟨?_, ⟨e2, e1⟩, key⟩
  obtain ⟨_, _, he⟩ := e1
  exact World.block_lt_of_cell? _ _ he
end Go.Proofs.YtfghfohlcofdpaaGreatDoor
