/-
  Package lex: placed.
-/
import Derived.Test.YtmpkgjonbjpohaaGreatDoorXa
namespace Go.Proofs.YtmpkgjonbjpohaaGreatDoor
open Go Go.RowKit
set_option linter.unusedVariables false
set_option linter.unusedSimpArgs false

def gtC (t : Gt) : List Value := [.int .i64 t.kind, .string ⟨t.s.toArray⟩, .string ⟨t.f.toArray⟩, .int .i64 t.line, .bool t.sp, .bool t.fi]
def gtV (t : Gt) : Value := .agg (gtC t).toArray
/-- A word at the place of a token. -/
def plM (x : Wd) (t : Gt) : Wd := { x with f := t.f, line := t.line }
def zW : Wd := ⟨0, [], 0, 0, [], 0⟩
theorem WBox.set4 {W : World} {M : Nat} {x : Wd} (h : WBox W M x) (f : List UInt8) : WBox (W.setCell ⟨M, 4, none⟩ (.string ⟨f.toArray⟩)) M { x with f := f } := by
  obtain ⟨hlt, hk⟩ := Array.getElem?_eq_some_iff.1 h
  show (W.heap.modify M _)[M]? = _
  rw [Array.getElem?_eq_getElem (by rw [Array.size_modify]; exact hlt), Array.getElem_modify_self, hk]
  rfl
theorem WBox.set5 {W : World} {M : Nat} {x : Wd} (h : WBox W M x) (n : Int) : WBox (W.setCell ⟨M, 5, none⟩ (.int .i64 n)) M { x with line := n } := by
  obtain ⟨hlt, hk⟩ := Array.getElem?_eq_some_iff.1 h
  show (W.heap.modify M _)[M]? = _
  rw [Array.getElem?_eq_getElem (by rw [Array.size_modify]; exact hlt), Array.getElem_modify_self, hk]
  rfl
theorem WBox.setCell {W : World} {M b i : Nat} {x : Wd} (h : WBox W M x) (hne : M ≠ b) (v : Value) : WBox (W.setCell ⟨b, i, none⟩ v) M x := (Below.heap_setCell W ⟨b, i, none⟩ v M hne).trans h
/-- All six cells of a box written. -/
def put6 (W : World) (M : Nat) (a0 a1 a2 a3 a4 a5 : Value) : World := (((((W.setCell ⟨M, 0, none⟩ a0).setCell ⟨M, 1, none⟩ a1).setCell ⟨M, 2, none⟩ a2).setCell ⟨M, 3, none⟩ a3).setCell ⟨M, 4, none⟩ a4).setCell ⟨M, 5, none⟩ a5
theorem sixw_set {w : World} {R : Nat} {z0 z1 z2 z3 z4 z5 : Value} {ty : TypeId} (h : w.heap[R]? = some (.cells #[z0, z1, z2, z3, z4, z5] ty (0, 0))) (a0 a1 a2 a3 a4 a5 : Value) :
    (put6 w R a0 a1 a2 a3 a4 a5).heap[R]? = some (.cells #[a0, a1, a2, a3, a4, a5] ty (0, 0)) := by
  obtain ⟨hlt, hk⟩ := Array.getElem?_eq_some_iff.1 h
  simp [put6, World.setCell, Array.getElem?_modify, h]
theorem below_put6 {B M : Nat} {w W : World} (h : Below B w W) (hM : B ≤ M) (a0 a1 a2 a3 a4 a5 : Value) : Below B w (put6 W M a0 a1 a2 a3 a4 a5) :=
  (((((h.setCell (p := ⟨M, 0, none⟩) hM _).setCell (p := ⟨M, 1, none⟩) hM _).setCell (p := ⟨M, 2, none⟩) hM _).setCell (p := ⟨M, 3, none⟩) hM _).setCell (p := ⟨M, 4, none⟩) hM _).setCell (p := ⟨M, 5, none⟩) hM _
theorem res_w {f : Func} {k : Nat} {tmps : Array Value} {w : World} {R : Nat} {cs : Array Value} (hr : f.results = #[.cell k 42]) (hp : tmps.getD k undef = .pointer (some ⟨R, 0, none⟩)) (hg : w.heap[R]? = some (.cells cs 42 (0, 0))) (hz : cs.size = 6) :
    (results f tmps).run Tryz.prog w = .ok (.agg cs) w := by
  have hi : (Tryz.prog.info? 42).map (·.size) = some cs.size := by rw [hz]; kernel_rfl
  have hp' : tmps[k]?.getD undef = .pointer (some ⟨R, 0, none⟩) := by simpa using hp
  simp [results, hr, hp', asAddr, run_loadVar_row w R 42 42 cs (0, 0) _ hg Tryz.underlying42 rfl hi]
theorem res_wt {f : Func} {k j : Nat} {tmps : Array Value} {w : World} {R : Nat} {cs : Array Value} (hr : f.results = #[.cell k 42, .tmp j]) (hp : tmps.getD k undef = .pointer (some ⟨R, 0, none⟩)) (hg : w.heap[R]? = some (.cells cs 42 (0, 0))) (hz : cs.size = 6) :
    (results f tmps).run Tryz.prog w = .ok (.tuple #[.agg cs, tmps.getD j undef]) w := by
  have hi : (Tryz.prog.info? 42).map (·.size) = some cs.size := by rw [hz]; kernel_rfl
  have hp' : tmps[k]?.getD undef = .pointer (some ⟨R, 0, none⟩) := by simpa using hp
  simp [results, hr, hp', asAddr, run_loadVar_row w R 42 42 cs (0, 0) _ hg Tryz.underlying42 rfl hi]
theorem res_wtt {f : Func} {k j i : Nat} {tmps : Array Value} {w : World} {R : Nat} {cs : Array Value} (hr : f.results = #[.cell k 42, .tmp j, .tmp i]) (hp : tmps.getD k undef = .pointer (some ⟨R, 0, none⟩)) (hg : w.heap[R]? = some (.cells cs 42 (0, 0))) (hz : cs.size = 6) :
    (results f tmps).run Tryz.prog w = .ok (.tuple #[.agg cs, tmps.getD j undef, tmps.getD i undef]) w := by
  have hi : (Tryz.prog.info? 42).map (·.size) = some cs.size := by rw [hz]; kernel_rfl
  have hp' : tmps[k]?.getD undef = .pointer (some ⟨R, 0, none⟩) := by simpa using hp
  simp [results, hr, hp', asAddr, run_loadVar_row w R 42 42 cs (0, 0) _ hg Tryz.underlying42 rfl hi]
set_option maxRecDepth 100000 in
set_option maxHeartbeats 4000000 in
theorem placed_any (x : Wd) (t : Gt) (w : World) : Calls Tryz.prog 132 #[wdV x, gtV t] w fun e w' => e = .returned (wdV (plM x t)) ∧ Below w.heap.size w w' := by
  obtain ⟨k, s, v, ty, f, line⟩ := x
  obtain ⟨tk, ts, tf, tl, tsp, tfi⟩ := t
  have b1 : WBox (((w.alloc (.cells (wdC ⟨k, s, v, ty, f, line⟩).toArray 42)).alloc (.cells (gtC ⟨tk, ts, tf, tl, tsp, tfi⟩).toArray 115)).alloc (.cells (wdC zW).toArray 42)) w.heap.size ⟨k, s, v, ty, f, line⟩ :=
    WBox.below (WBox.below (WBox.new w _) (below_new _ _) (by simp)) (below_new _ _) (by simp; omega)
  have b2 : (((w.alloc (.cells (wdC ⟨k, s, v, ty, f, line⟩).toArray 42)).alloc (.cells (gtC ⟨tk, ts, tf, tl, tsp, tfi⟩).toArray 115)).alloc (.cells (wdC zW).toArray 42)).heap[w.heap.size + 1]? = some (.cells (gtC ⟨tk, ts, tf, tl, tsp, tfi⟩).toArray 115 (0, 0)) := by
    have := (below_new ((w.alloc (.cells (wdC ⟨k, s, v, ty, f, line⟩).toArray 42)).alloc (.cells (gtC ⟨tk, ts, tf, tl, tsp, tfi⟩).toArray 115)) (.cells (wdC zW).toArray 42)).block (w.heap.size + 1) (by simp)
    rw [this]
    have h := World.alloc_heap_new (w.alloc (.cells (wdC ⟨k, s, v, ty, f, line⟩).toArray 42)) (.cells (gtC ⟨tk, ts, tf, tl, tsp, tfi⟩).toArray 115)
    rwa [World.size_alloc] at h
  have b3 : WBox (((w.alloc (.cells (wdC ⟨k, s, v, ty, f, line⟩).toArray 42)).alloc (.cells (gtC ⟨tk, ts, tf, tl, tsp, tfi⟩).toArray 115)).alloc (.cells (wdC zW).toArray 42)) (w.heap.size + 1 + 1) zW := by
    have := WBox.new ((w.alloc (.cells (wdC ⟨k, s, v, ty, f, line⟩).toArray 42)).alloc (.cells (gtC ⟨tk, ts, tf, tl, tsp, tfi⟩).toArray 115)) zW
    rwa [World.size_alloc, World.size_alloc] at this
  have hb : Below w.heap.size w (((w.alloc (.cells (wdC ⟨k, s, v, ty, f, line⟩).toArray 42)).alloc (.cells (gtC ⟨tk, ts, tf, tl, tsp, tfi⟩).toArray 115)).alloc (.cells (wdC zW).toArray 42)) :=
    (((Below.refl _ w).alloc (Nat.le_refl _) _).alloc (by simp) _).alloc (by simp; omega) _
  simp only [wdV, gtV, wdC, gtC, zW, plM] at *
  go_enter Tryz.func132, Tryz.ntmps132
  go_upto_region 1 with fail
  generalize (((w.alloc _).alloc _).alloc _ : World) = W at *
  have hne : w.heap.size + 1 + 1 ≠ w.heap.size := by omega
  obtain ⟨c0, c1, c2, c3, c4, c5⟩ := WBox.six b1
  have f4 := WBox.frozen b1 4
  have f5 := WBox.frozen b1 5
  have d2 : W.cell? ⟨w.heap.size + 1, 2, none⟩ = some (.string ⟨tf.toArray⟩) := by rw [World.cell?, b2]; rfl
  have d3 : W.cell? ⟨w.heap.size + 1, 3, none⟩ = some (.int .i64 tl) := by rw [World.cell?, b2]; rfl
  have B1 := hide b1
  have B3 := hide b3
  have HB := hide hb
  clear b1 b2 b3 hb
  go_region
  all_goals (
    have q1 : WBox ((W.setCell ⟨w.heap.size, 4, none⟩ (.string ⟨tf.toArray⟩)).setCell ⟨w.heap.size, 5, none⟩ (.int .i64 tl)).drew w.heap.size ⟨k, s, v, ty, tf, tl⟩ := WBox.set5 (WBox.set4 (unhide B1) tf) tl
    have q3 : WBox ((W.setCell ⟨w.heap.size, 4, none⟩ (.string ⟨tf.toArray⟩)).setCell ⟨w.heap.size, 5, none⟩ (.int .i64 tl)).drew (w.heap.size + 1 + 1) ⟨0, [], 0, 0, [], 0⟩ := WBox.setCell (WBox.setCell (unhide B3) hne _) hne _
    have qb : Below w.heap.size w ((W.setCell ⟨w.heap.size, 4, none⟩ (.string ⟨tf.toArray⟩)).setCell ⟨w.heap.size, 5, none⟩ (.int .i64 tl)).drew := drewB (((unhide HB).setCell (p := ⟨w.heap.size, 4, none⟩) (Nat.le_refl _) _).setCell (p := ⟨w.heap.size, 5, none⟩) (Nat.le_refl _) _)
    generalize ((W.setCell _ _).setCell _ _).drew = W5 at *
    clear c0 c1 c2 c3 c4 c5 f4 f5 d2 d3 B1 B3 HB
    obtain ⟨c0, c1, c2, c3, c4, c5⟩ := WBox.six q1
    have z0 := WBox.frozen q3 0
    have z1 := WBox.frozen q3 1
    have z2 := WBox.frozen q3 2
    have z3 := WBox.frozen q3 3
    have z4 := WBox.frozen q3 4
    have z5 := WBox.frozen q3 5
    obtain ⟨y0, y1, y2, y3, y4, y5⟩ := WBox.six q3
    go_wp2
    refine bodyPost_ret (res_w (f := Tryz.f132) rfl rfl (sixw_set q3 _ _ _ _ _ _) rfl) rfl ⟨rfl, below_put6 qb (by omega) _ _ _ _ _ _⟩)
end Go.Proofs.YtmpkgjonbjpohaaGreatDoor
