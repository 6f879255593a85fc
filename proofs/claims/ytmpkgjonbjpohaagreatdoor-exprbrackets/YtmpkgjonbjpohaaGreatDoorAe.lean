/-
  Package expr: Parse: its results' boxes.
-/
import Derived.Test.YtmpkgjonbjpohaaGreatDoorAa
import Derived.Test.YtmpkgjonbjpohaaGreatDoorR2
import Derived.Test.YtmpkgjonbjpohaaGreatDoorR3
namespace Go.Proofs.YtmpkgjonbjpohaaGreatDoor
open Go Go.RowKit
set_option linter.unusedVariables false
set_option linter.unusedSimpArgs false

theorem res_p {f : Func} {k1 k2 k3 k4 : Nat} {tmps : Array Value} {w : World} {R1 R2 R3 R4 : Nat} {cs : Array Value} {a e l : Value} (hr : f.results = #[.cell k1 24, .cell k2 3, .cell k3 27, .cell k4 3])
    (hp1 : tmps.getD k1 undef = .pointer (some ⟨R1, 0, none⟩)) (hp2 : tmps.getD k2 undef = .pointer (some ⟨R2, 0, none⟩)) (hp3 : tmps.getD k3 undef = .pointer (some ⟨R3, 0, none⟩)) (hp4 : tmps.getD k4 undef = .pointer (some ⟨R4, 0, none⟩))
    (hg1 : Bk w R1 24 cs) (hz : cs.size = 7) (hg2 : Bk w R2 3 #[a]) (hg3 : Bk w R3 27 #[e]) (hg4 : Bk w R4 3 #[l]) :
    (results f tmps).run Tryz.prog w = .ok (.tuple #[.agg cs, a, e, l]) w := by
  have hi : (Tryz.prog.info? 24).map (·.size) = some cs.size := by rw [hz]; kernel_rfl
  have hp1' : tmps[k1]?.getD undef = .pointer (some ⟨R1, 0, none⟩) := by simpa using hp1
  have hp2' : tmps[k2]?.getD undef = .pointer (some ⟨R2, 0, none⟩) := by simpa using hp2
  have hp3' : tmps[k3]?.getD undef = .pointer (some ⟨R3, 0, none⟩) := by simpa using hp3
  have hp4' : tmps[k4]?.getD undef = .pointer (some ⟨R4, 0, none⟩) := by simpa using hp4
  have c2 := hg2.cell 0
  have c3 := hg3.cell 0
  have c4 := hg4.cell 0
  simp only [List.getElem?_toArray, List.getElem?_cons_zero] at c2 c3 c4
  have h1 := run_loadVar_row w R1 24 24 cs (0, 0) _ hg1 Tryz.underlying24 rfl hi
  simp [results, hr, hp1', hp2', hp3', hp4', asAddr, h1]
  simp [loadVar, go_sem, c2, c3, c4, Tryz.underlying3, Tryz.underlying27]
/-- The boxes of the results. -/
structure PaS (w W : World) (cs : Array Value) (a e l : Value) : Prop where
  x : Bk W w.heap.size 24 cs
  a : Bk W (w.heap.size + 1) 3 #[a]
  e : Bk W (w.heap.size + 1 + 1) 27 #[e]
  l : Bk W (w.heap.size + 1 + 1 + 1) 3 #[l]
  be : Below w.heap.size w W
def zrE : Array Value := #[.int .i64 0, .int .i64 0, .int .i64 0, .int .i64 0, .string ⟨#[]⟩, .slice none 0 0, .int .i64 0]
theorem PaS.new (w : World) : PaS w ((((w.alloc (.cells zrE 24)).alloc (.cells #[.int .i64 0] 3)).alloc (.cells #[.int .i64 0] 27)).alloc (.cells #[.int .i64 0] 3)) zrE (.int .i64 0) (.int .i64 0) (.int .i64 0) := by
  have h1 := Bk.new w 24 zrE
  have h2 := Bk.new (w.alloc (.cells zrE 24)) 3 #[.int .i64 0]
  have h3 := Bk.new ((w.alloc (.cells zrE 24)).alloc (.cells #[.int .i64 0] 3)) 27 #[.int .i64 0]
  have h4 := Bk.new (((w.alloc (.cells zrE 24)).alloc (.cells #[.int .i64 0] 3)).alloc (.cells #[.int .i64 0] 27)) 3 #[.int .i64 0]
  simp only [World.size_alloc] at h2 h3 h4
  exact ⟨((h1.alloc _).alloc _).alloc _, (h2.alloc _).alloc _, h3.alloc _, h4, ((((Below.refl _ w).alloc (Nat.le_refl _) _).alloc (by simp) _).alloc (by simp; omega) _).alloc (by simp; omega) _⟩
theorem PaS.keep {w W W' : World} {cs : Array Value} {a e l : Value} (h : PaS w W cs a e l) (hb : Below (w.heap.size + 4) W W') : PaS w W' cs a e l :=
  ⟨(hb.block _ (by omega)).trans h.x, (hb.block _ (by omega)).trans h.a, (hb.block _ (by omega)).trans h.e, (hb.block _ (by omega)).trans h.l, h.be.trans (hb.mono (by omega))⟩
theorem PaS.cells {w W : World} {c0 c1 c2 c3 c4 c5 c6 : Value} {a e l : Value} (h : PaS w W #[c0, c1, c2, c3, c4, c5, c6] a e l) :
    (W.frozen? ⟨w.heap.size, 0, none⟩ = false ∧ W.frozen? ⟨w.heap.size, 1, none⟩ = false ∧ W.frozen? ⟨w.heap.size, 2, none⟩ = false ∧ W.frozen? ⟨w.heap.size, 3, none⟩ = false ∧ W.frozen? ⟨w.heap.size, 4, none⟩ = false ∧ W.frozen? ⟨w.heap.size, 5, none⟩ = false ∧ W.frozen? ⟨w.heap.size, 6, none⟩ = false) ∧
    (W.cell? ⟨w.heap.size, 0, none⟩ = some c0 ∧ W.cell? ⟨w.heap.size, 1, none⟩ = some c1 ∧ W.cell? ⟨w.heap.size, 2, none⟩ = some c2 ∧ W.cell? ⟨w.heap.size, 3, none⟩ = some c3 ∧ W.cell? ⟨w.heap.size, 4, none⟩ = some c4 ∧ W.cell? ⟨w.heap.size, 5, none⟩ = some c5 ∧ W.cell? ⟨w.heap.size, 6, none⟩ = some c6) ∧
    (W.frozen? ⟨w.heap.size + 1, 0, none⟩ = false ∧ W.frozen? ⟨w.heap.size + 1 + 1, 0, none⟩ = false ∧ W.frozen? ⟨w.heap.size + 1 + 1 + 1, 0, none⟩ = false) ∧
    (W.cell? ⟨w.heap.size + 1, 0, none⟩ = some a ∧ W.cell? ⟨w.heap.size + 1 + 1, 0, none⟩ = some e ∧ W.cell? ⟨w.heap.size + 1 + 1 + 1, 0, none⟩ = some l) ∧ w.heap.size + 1 + 1 + 1 < W.heap.size :=
  ⟨⟨h.x.frozen 0, h.x.frozen 1, h.x.frozen 2, h.x.frozen 3, h.x.frozen 4, h.x.frozen 5, h.x.frozen 6⟩, ⟨h.x.cell 0, h.x.cell 1, h.x.cell 2, h.x.cell 3, h.x.cell 4, h.x.cell 5, h.x.cell 6⟩, ⟨h.a.frozen 0, h.e.frozen 0, h.l.frozen 0⟩, ⟨h.a.cell 0, h.e.cell 0, h.l.cell 0⟩, h.l.lt⟩
/-- All results are put. -/
theorem PaS.put {w W : World} {c0 c1 c2 c3 c4 c5 c6 : Value} {a e l : Value} (h : PaS w W #[c0, c1, c2, c3, c4, c5, c6] a e l) (b0 b1 b2 b3 b4 b5 b6 a' e' l' : Value) : ∀ W', W' = ((((((((((W.setCell ⟨w.heap.size, 0, none⟩ b0).setCell ⟨w.heap.size, 1, none⟩ b1).setCell ⟨w.heap.size, 2, none⟩ b2).setCell ⟨w.heap.size, 3, none⟩ b3).setCell ⟨w.heap.size, 4, none⟩ b4).setCell ⟨w.heap.size, 5, none⟩ b5).setCell ⟨w.heap.size, 6, none⟩ b6).setCell ⟨w.heap.size + 1, 0, none⟩ a').setCell ⟨w.heap.size + 1 + 1, 0, none⟩ e').setCell ⟨w.heap.size + 1 + 1 + 1, 0, none⟩ l') →
    PaS w W' #[b0, b1, b2, b3, b4, b5, b6] a' e' l' ∧ (∀ (j : Nat) (o : Obj), w.heap.size + 4 ≤ j → W.heap[j]? = some o → W'.heap[j]? = some o) ∧ W'.heap.size = W.heap.size ∧ ∀ B, KeepsFrom B W W' := fun W' hW => by
  obtain ⟨r1, r2, r3, r4⟩ := ex_put h.x b0 b1 b2 b3 b4 b5 b6 _ rfl
  obtain ⟨V, hV⟩ : ∃ V, (((((((W.setCell ⟨w.heap.size, 0, none⟩ b0).setCell ⟨w.heap.size, 1, none⟩ b1).setCell ⟨w.heap.size, 2, none⟩ b2).setCell ⟨w.heap.size, 3, none⟩ b3).setCell ⟨w.heap.size, 4, none⟩ b4).setCell ⟨w.heap.size, 5, none⟩ b5).setCell ⟨w.heap.size, 6, none⟩ b6) = V := ⟨_, rfl⟩
  rw [hV] at r1 r2 r3 r4 hW
  have ha : Bk V (w.heap.size + 1) 3 #[a] := r3 _ _ (by omega) h.a
  have he : Bk V (w.heap.size + 1 + 1) 27 #[e] := r3 _ _ (by omega) h.e
  have hl : Bk V (w.heap.size + 1 + 1 + 1) 3 #[l] := r3 _ _ (by omega) h.l
  have hbe : Below w.heap.size w V := h.be.trans (r2 _ (Nat.le_refl _))
  have hkf : ∀ B, KeepsFrom B W V := fun B => by
    rw [← hV]
    exact ((((((((KeepsOthers.setCell _ _ _).from B).trans ((KeepsOthers.setCell _ _ _).from B)).trans ((KeepsOthers.setCell _ _ _).from B)).trans ((KeepsOthers.setCell _ _ _).from B)).trans ((KeepsOthers.setCell _ _ _).from B)).trans ((KeepsOthers.setCell _ _ _).from B)).trans ((KeepsOthers.setCell _ _ _).from B))
  subst hW
  refine ⟨⟨((r1.other 0 a' (by omega)).other 0 e' (by omega)).other 0 l' (by omega), ((ha.set 0 a').other 0 e' (by omega)).other 0 l' (by omega), ((he.other 0 a' (by omega)).set 0 e').other 0 l' (by omega), ((hl.other 0 a' (by omega)).other 0 e' (by omega)).set 0 l', ((hbe.setCell (p := ⟨w.heap.size + 1, 0, none⟩) (by show w.heap.size ≤ w.heap.size + 1; omega) a').setCell (p := ⟨w.heap.size + 1 + 1, 0, none⟩) (by show w.heap.size ≤ w.heap.size + 1 + 1; omega) e').setCell (p := ⟨w.heap.size + 1 + 1 + 1, 0, none⟩) (by show w.heap.size ≤ w.heap.size + 1 + 1 + 1; omega) l'⟩, fun j o hj ho => ?_, ?_, fun B => (((hkf B).trans ((KeepsOthers.setCell _ _ _).from B)).trans ((KeepsOthers.setCell _ _ _).from B)).trans ((KeepsOthers.setCell _ _ _).from B)⟩
  · exact (Below.heap_setCell _ ⟨w.heap.size + 1 + 1 + 1, 0, none⟩ l' j (by simp only [ne_eq]; omega)).trans ((Below.heap_setCell _ ⟨w.heap.size + 1 + 1, 0, none⟩ e' j (by simp only [ne_eq]; omega)).trans ((Below.heap_setCell _ ⟨w.heap.size + 1, 0, none⟩ a' j (by simp only [ne_eq]; omega)).trans (r3 j o (by omega) ho)))
  · simp only [World.size_setCell, r4]
theorem ko_of {B0 B : Nat} {W W' : World} (h : KeepsFrom B0 W W') (hB : B0 ≤ B) : KeepsO B 0 W W' := ⟨h.size, fun j o hj h0 ho => h.same j o (Nat.le_trans hB hj) h0 (ho.resolve_right (by omega))⟩
end Go.Proofs.YtmpkgjonbjpohaaGreatDoor
