/-
  The package variables, as the program's text lays them: the two errors, the table of signs, the powers of ten; the start at which they hold.
-/
import Derived.Test.YtnpjgamfjfmjjaaDoorXi
import Derived.Test.YtnpjgamfjfmjjaaDoorRows
import Derived.Test.YtnpjgamfjfmjjaaDoorCards
import Derived.Test.YtnpjgamfjfmjjaaDoorTie
import Derived.ProofKit
import Derived.LaidMore
import Derived.OpenShut
import Derived.Stop.Joined
import Derived.LaidLaws
import Derived.SizedLaws
import Derived.SevenTiedAt
namespace Go.Proofs.YtnpjgamfjfmjjaaDoor
open Go.ChangeShapes Go.WideShapes Go.ChangeAt Go.RowKit
set_option linter.unusedVariables false

theorem gSyntax : Tryd.prog.globalNamed "strconv.ErrSyntax" = some 2 := by kernel_rfl
theorem gRange : Tryd.prog.globalNamed "strconv.ErrRange" = some 3 := by kernel_rfl
theorem gSigns : Tryd.prog.globalNamed "burin/token.signs" = some 0 := by kernel_rfl
theorem tSyntax : (Tryd.prog.globals[2]?).map (·.type) = some 76 := by kernel_rfl
theorem tRange : (Tryd.prog.globals[3]?).map (·.type) = some 76 := by kernel_rfl
theorem tSigns : (Tryd.prog.globals[0]?).map (·.type) = some 60 := by kernel_rfl
theorem cells9 : Tryd.prog.cellsOf 9 = 1 := by kernel_rfl
theorem signs_laid {H : Type} : (Rows.laid_burin_token_signs : DataW H) = .agg (Tk.signs.map fun x => .lit (.string x)) := rfl
theorem one_of {α : Type} {cs : List α} {i : Nat} {v : α} (h : (cs.drop (i * 1)).take 1 = [v]) : cs[i]? = some v := by
  rw [Nat.mul_one] at h
  have : ((cs.drop i).take 1)[0]? = some v := by rw [h]; rfl
  simpa using this
/-- The list of what is laid, as the rows have it. -/
abbrev laid6 : List (String × DataW Unit) := [("math/bits.deBruijn32tab", Rows.laid_math_bits_deBruijn32tab), ("math/bits.deBruijn64tab", Rows.laid_math_bits_deBruijn64tab), ("internal/strconv.uint64pow10", Rows.laid_internal_strconv_uint64pow10), ("strconv.ErrRange", Rows.laid_strconv_ErrRange), ("strconv.ErrSyntax", Rows.laid_strconv_ErrSyntax), ("burin/token.signs", Rows.laid_burin_token_signs)]
theorem iface_cell {W : World} {g : Nat} {n : String} {t : TypeId} {cs : Array Value} {f : Nat} {p : List MemPlace} {name : String} {d : DataW Unit} (hg : Tryd.prog.globalNamed n = some g) (hv : W.var? Tryd.prog n = some cs) (ht : t = 76)
    (hd : DataW.trod (fun _ => ()) Tryd.prog W 0 (fun _ => true) false f t cs.toList = some (.iface name d, p)) : ∃ u v, W.cell? ⟨g, 0, none⟩ = some (.iface u v) := by
  subst ht
  obtain ⟨_, u, v, hc, _, _⟩ := iface_of_trod Tryd.underlying76 hd
  refine ⟨u, v, ?_⟩
  rw [World.var?_cell hg hv 0, ← Array.getElem?_toList, hc]
  rfl
theorem gPow : Tryd.prog.globalNamed "internal/strconv.uint64pow10" = some 4 := by kernel_rfl
theorem gB32 : Tryd.prog.globalNamed "math/bits.deBruijn32tab" = some 5 := by kernel_rfl
theorem gB64 : Tryd.prog.globalNamed "math/bits.deBruijn64tab" = some 6 := by kernel_rfl
theorem var_lt {W : World} {n : String} {g : Nat} {cs : Array Value} (hg : Tryd.prog.globalNamed n = some g) (hv : W.var? Tryd.prog n = some cs) : g < W.heap.size := by
  unfold World.var? at hv
  rw [hg] at hv
  rcases Nat.lt_or_ge g W.heap.size with h | h
  · exact h
  · simp [Array.getElem?_eq_none h] at hv
theorem gl_of_laid {W : World} (h : laidMetH Tryd.prog laid6 W) : Gl W := by
  rw [MakeChecks.laidMetH_plain _ _ _ (by kernel_rfl)] at h
  obtain ⟨ps, ⟨g5, _, cs5, _, _, _, hg5, _, hv5, _, ⟨g6, _, cs6, _, _, _, hg6, _, hv6, _, ⟨g3, t3, cs3, f3, p3, q3, hg3, ht3, hv3, hd3, ⟨g1, t1, cs1, f1, p1, q1, hg1, ht1, hv1, hd1, ⟨g2, t2, cs2, f2, p2, q2, hg2, ht2, hv2, hd2, ⟨g0, t0, cs0, f0, p0, q0, hg0, ht0, hv0, hd0, _, _⟩, _⟩, _⟩, _⟩, _⟩, _⟩, _, _⟩ := h
  obtain rfl := Option.some.inj (gSigns.symm.trans hg0)
  obtain rfl := Option.some.inj (tSigns.symm.trans ht0)
  obtain rfl := Option.some.inj (gRange.symm.trans hg1)
  obtain rfl := Option.some.inj (tRange.symm.trans ht1)
  obtain rfl := Option.some.inj (gSyntax.symm.trans hg2)
  obtain rfl := Option.some.inj (tSyntax.symm.trans ht2)
  obtain rfl := Option.some.inj (gPow.symm.trans hg3)
  obtain rfl := Option.some.inj (gB32.symm.trans hg5)
  obtain rfl := Option.some.inj (gB64.symm.trans hg6)
  have hz : 6 < W.heap.size := by
    have := var_lt hg0 hv0
    have := var_lt hg1 hv1
    have := var_lt hg2 hv2
    have := var_lt hg3 hv3
    have := var_lt hg5 hv5
    have := var_lt hg6 hv6
    omega
  have e1 := iface_cell hg1 hv1 rfl hd1
  have e2 := iface_cell hg2 hv2 rfl hd2
  obtain ⟨xs, m1, rfl, hx1, hlen, hn, hel⟩ := DataW.trod_array Tryd.underlying60 hd0
  simp only [Prod.mk.injEq, signs_laid, DataW.agg.injEq] at hx1
  have key : Sg W := by
    intro i x hx
    have hi : i < 48 := (List.getElem?_eq_some_iff.1 hx).1
    have he := hel i hi
    obtain ⟨y, hy⟩ : ∃ y, xs[i]? = some y := ⟨_, List.getElem?_eq_getElem (by omega)⟩
    rw [hy, cells9] at he
    obtain ⟨s, e1, e2, _⟩ := DataW.trod_string Tryd.underlying9 he
    have hc := World.var?_cell hg0 hv0 i
    have e3 := one_of e1
    rw [hc, ← Array.getElem?_toList, e3]
    have e4 : (xs.map (·.1))[i]? = some y.1 := by rw [List.getElem?_map, hy]; rfl
    rw [← hx1.1, List.getElem?_map, hx, e2] at e4
    simp at e4
    rw [e4]
  exact ⟨hz, ⟨e2, e1⟩, key⟩
theorem own : ownKnob Tryd.prog.godebug = none := by kernel_rfl
theorem door_met (os : Os) (args : Array Value) : laidMetH Tryd.prog laid6 ((World.doorLaid Tryd.prog 400 os).forCall (fun _ _ => 0) ⟨#[], args, []⟩).memory :=
  laidMetH_of_parts3 (fuel := 8) (laidMet_of_run' 8 (by kernel_rfl) (by kernel_rfl)) (by kernel_rfl) (by kernel_rfl)
end Go.Proofs.YtnpjgamfjfmjjaaDoor
