/-
  Tokens of whatever fields, in memory; the document's own Same.
-/
import Derived.Test.YtmpkgjonbjpohaaGreatDoorS1
import Derived.Laws.StructEq
namespace Go.Proofs.YtmpkgjonbjpohaaGreatDoor
open Go Go.RowKit
set_option linter.unusedVariables false
set_option linter.unusedSimpArgs false

/-- A token of whatever fields. -/
structure Gt where
  kind : Int
  s : List UInt8
  f : List UInt8
  line : Int
  sp : Bool
  fi : Bool
  deriving DecidableEq
def Tk.T.g (t : Tk.T) : Gt := ⟨(t.kind : Nat), t.s, [], t.line, t.sp, t.fi⟩
/-- A slice value that reads as these tokens, in a block below B. -/
def TkG (B : Nat) (W : World) (v : Value) (l : List Gt) : Prop :=
  ∃ p cap, v = .slice p l.length cap ∧ ∀ (i : Nat) (h : i < l.length), ∃ g o, p = some ⟨g, o, none⟩ ∧ g < B ∧
    W.cell? ⟨g, o + i * 6, none⟩ = some (.int .i64 l[i].kind) ∧ W.cell? ⟨g, o + i * 6 + 1, none⟩ = some (.string ⟨l[i].s.toArray⟩) ∧ W.cell? ⟨g, o + i * 6 + 2, none⟩ = some (.string ⟨l[i].f.toArray⟩) ∧
    W.cell? ⟨g, o + i * 6 + 3, none⟩ = some (.int .i64 l[i].line) ∧ W.cell? ⟨g, o + i * 6 + 4, none⟩ = some (.bool l[i].sp) ∧ W.cell? ⟨g, o + i * 6 + 5, none⟩ = some (.bool l[i].fi)
theorem TkG.below {B : Nat} {W W' : World} {v : Value} {l : List Gt} (h : TkG B W v l) (hb : Below B W W') : TkG B W' v l := by
  obtain ⟨p, cap, rfl, hc⟩ := h
  refine ⟨p, cap, rfl, fun i hi => ?_⟩
  obtain ⟨g, o, rfl, h1, c0, c1, c2, c3, c4, c5⟩ := hc i hi
  have key : ∀ j u, W.cell? ⟨g, j, none⟩ = some u → W'.cell? ⟨g, j, none⟩ = some u := fun j u hu => (hb.cell (p := ⟨g, j, none⟩) h1).trans hu
  exact ⟨g, o, rfl, h1, key _ _ c0, key _ _ c1, key _ _ c2, key _ _ c3, key _ _ c4, key _ _ c5⟩
theorem TkG.mono {B B' : Nat} {W : World} {v : Value} {l : List Gt} (h : TkG B W v l) (hb : B ≤ B') : TkG B' W v l := by
  obtain ⟨p, cap, rfl, hc⟩ := h
  refine ⟨p, cap, rfl, fun i hi => ?_⟩
  obtain ⟨g, o, rfl, h1, hr⟩ := hc i hi
  exact ⟨g, o, rfl, by omega, hr⟩
theorem TkS.toG {base : Nat} {W : World} {v : Value} {l : List Tk.T} (h : TkS base W v l) : TkG W.heap.size W v (l.map Tk.T.g) := by
  obtain ⟨p, cap, rfl, hc⟩ := h
  refine ⟨p, cap, by simp, fun i hi => ?_⟩
  have hi' : i < l.length := by simpa using hi
  obtain ⟨g, rfl, h1, h2, c0, c1, c2, c3, c4, c5⟩ := hc i hi'
  refine ⟨g, 0, rfl, h2, ?_⟩
  simp only [List.getElem_map, Nat.zero_add, Tk.T.g]
  exact ⟨c0, c1, c2, c3, c4, c5⟩

end Go.Proofs.YtmpkgjonbjpohaaGreatDoor
