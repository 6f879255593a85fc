/-
  Package expr: not, joined; slices.Contains on strings.
-/
import Derived.Test.YtmpkgjonbjpohaaGreatDoorRm
namespace Go.Proofs.YtmpkgjonbjpohaaGreatDoor
open Go Go.RowKit
set_option linter.unusedVariables false
set_option linter.unusedSimpArgs false

def setOp (x : PE) (op : Int) : PE := .mk x.is op x.k x.v x.nm x.l x.line
theorem Kids.op {W : World} {K : Nat → Prop} {x : PE} {q : Option Addr} (h : Kids W K x q) (op : Int) : Kids W K (setOp x op) q := Kids.of (by
  have := Kids.list h
  exact this)
def zeC : Array Value := #[.int .i64 0, .int .i64 0, .int .i64 0, .int .i64 0, .string ⟨#[]⟩, .slice none 0 0, .int .i64 0]
theorem ex_cells {W : World} {b : Nat} {c0 c1 c2 c3 c4 c5 c6 : Value} (h : Bk W b 24 #[c0, c1, c2, c3, c4, c5, c6]) : (W.cell? ⟨b, 0, none⟩ = some c0 ∧ W.cell? ⟨b, 1, none⟩ = some c1 ∧ W.cell? ⟨b, 2, none⟩ = some c2 ∧ W.cell? ⟨b, 3, none⟩ = some c3 ∧ W.cell? ⟨b, 4, none⟩ = some c4 ∧ W.cell? ⟨b, 5, none⟩ = some c5 ∧ W.cell? ⟨b, 6, none⟩ = some c6) ∧ b < W.heap.size ∧ (W.frozen? ⟨b, 0, none⟩ = false ∧ W.frozen? ⟨b, 1, none⟩ = false ∧ W.frozen? ⟨b, 2, none⟩ = false ∧ W.frozen? ⟨b, 3, none⟩ = false ∧ W.frozen? ⟨b, 4, none⟩ = false ∧ W.frozen? ⟨b, 5, none⟩ = false ∧ W.frozen? ⟨b, 6, none⟩ = false) :=
  ⟨⟨h.cell 0, h.cell 1, h.cell 2, h.cell 3, h.cell 4, h.cell 5, h.cell 6⟩, h.lt, ⟨h.frozen 0, h.frozen 1, h.frozen 2, h.frozen 3, h.frozen 4, h.frozen 5, h.frozen 6⟩⟩
/-- An expression is put into its box. -/
theorem ex_put {W : World} {b : Nat} {c0 c1 c2 c3 c4 c5 c6 : Value} (h : Bk W b 24 #[c0, c1, c2, c3, c4, c5, c6]) (a0 a1 a2 a3 a4 a5 a6 : Value) : ∀ W', W' = (((((((W.setCell ⟨b, 0, none⟩ a0).setCell ⟨b, 1, none⟩ a1).setCell ⟨b, 2, none⟩ a2).setCell ⟨b, 3, none⟩ a3).setCell ⟨b, 4, none⟩ a4).setCell ⟨b, 5, none⟩ a5).setCell ⟨b, 6, none⟩ a6) →
    Bk W' b 24 #[a0, a1, a2, a3, a4, a5, a6] ∧ (∀ n, n ≤ b → Below n W W') ∧ (∀ (j : Nat) (o : Obj), j ≠ b → W.heap[j]? = some o → W'.heap[j]? = some o) ∧ W'.heap.size = W.heap.size := fun W' e => by
  have z0 : Bk (W.setCell ⟨b, 0, none⟩ a0) b 24 #[a0, c1, c2, c3, c4, c5, c6] := h.set 0 _
  have z1 : Bk ((W.setCell ⟨b, 0, none⟩ a0).setCell ⟨b, 1, none⟩ a1) b 24 #[a0, a1, c2, c3, c4, c5, c6] := z0.set 1 _
  have z2 : Bk (((W.setCell ⟨b, 0, none⟩ a0).setCell ⟨b, 1, none⟩ a1).setCell ⟨b, 2, none⟩ a2) b 24 #[a0, a1, a2, c3, c4, c5, c6] := z1.set 2 _
  have z3 : Bk ((((W.setCell ⟨b, 0, none⟩ a0).setCell ⟨b, 1, none⟩ a1).setCell ⟨b, 2, none⟩ a2).setCell ⟨b, 3, none⟩ a3) b 24 #[a0, a1, a2, a3, c4, c5, c6] := z2.set 3 _
  have z4 : Bk (((((W.setCell ⟨b, 0, none⟩ a0).setCell ⟨b, 1, none⟩ a1).setCell ⟨b, 2, none⟩ a2).setCell ⟨b, 3, none⟩ a3).setCell ⟨b, 4, none⟩ a4) b 24 #[a0, a1, a2, a3, a4, c5, c6] := z3.set 4 _
  have z5 : Bk ((((((W.setCell ⟨b, 0, none⟩ a0).setCell ⟨b, 1, none⟩ a1).setCell ⟨b, 2, none⟩ a2).setCell ⟨b, 3, none⟩ a3).setCell ⟨b, 4, none⟩ a4).setCell ⟨b, 5, none⟩ a5) b 24 #[a0, a1, a2, a3, a4, a5, c6] := z4.set 5 _
  have z6 : Bk (((((((W.setCell ⟨b, 0, none⟩ a0).setCell ⟨b, 1, none⟩ a1).setCell ⟨b, 2, none⟩ a2).setCell ⟨b, 3, none⟩ a3).setCell ⟨b, 4, none⟩ a4).setCell ⟨b, 5, none⟩ a5).setCell ⟨b, 6, none⟩ a6) b 24 #[a0, a1, a2, a3, a4, a5, a6] := z5.set 6 _
  refine ⟨by rw [e]; exact z6, fun n hn => ?_, fun j o hj hb => ?_, by rw [e]; simp⟩
  · rw [e]
    have s : ∀ (X : World) i v, Below n W X → Below n W (X.setCell ⟨b, i, none⟩ v) := fun X i v hx => hx.setCell (p := ⟨b, i, none⟩) hn v
    exact s _ _ _ (s _ _ _ (s _ _ _ (s _ _ _ (s _ _ _ (s _ _ _ (s _ _ _ (Below.refl _ _)))))))
  · rw [e]
    have s : ∀ (X : World) i v, X.heap[j]? = some o → (X.setCell ⟨b, i, none⟩ v).heap[j]? = some o := fun X i v hx => (Below.heap_setCell X ⟨b, i, none⟩ v j hj).trans hx
    exact s _ _ _ (s _ _ _ (s _ _ _ (s _ _ _ (s _ _ _ (s _ _ _ (s _ _ _ hb))))))
set_option maxRecDepth 100000 in
set_option maxHeartbeats 8000000 in
theorem not_any (op : Int) (x : PE) (q : Option Addr) (c : Nat) (w : World) :
    Calls Tryz.prog 123 #[.int .i64 op, .agg (exC x q c)] w fun e w' => ∃ g, e = .returned (.agg (exC (.mk 3 17 0 0 [] [setOp x op] x.line) (some ⟨g, 0, none⟩) 1)) ∧ w.heap.size ≤ g ∧ Bk w' g 24 (exC (setOp x op) q c) ∧ Below w.heap.size w w' := by
  obtain ⟨a, b, cc, d, s, l, ln⟩ := x
  unfold exC
  simp only [PE.is, PE.op, PE.k, PE.v, PE.nm, PE.l, PE.line, setOp]
  have HX0 : Hid (Bk ((w.alloc (.cells #[.int .i64 a, .int .i64 b, .int .i64 cc, .int .i64 d, .string ⟨s.toArray⟩, .slice q l.length c, .int .i64 ln] 24)).alloc (.cells #[.int .i64 0, .int .i64 0, .int .i64 0, .int .i64 0, .string ⟨#[]⟩, .slice none 0 0, .int .i64 0] 24)) w.heap.size 24 #[.int .i64 a, .int .i64 b, .int .i64 cc, .int .i64 d, .string ⟨s.toArray⟩, .slice q l.length c, .int .i64 ln]) := (Bk.new w _ _).alloc _
  have HZ0 : Hid (Bk ((w.alloc (.cells #[.int .i64 a, .int .i64 b, .int .i64 cc, .int .i64 d, .string ⟨s.toArray⟩, .slice q l.length c, .int .i64 ln] 24)).alloc (.cells #[.int .i64 0, .int .i64 0, .int .i64 0, .int .i64 0, .string ⟨#[]⟩, .slice none 0 0, .int .i64 0] 24)) (w.heap.size + 1) 24 #[.int .i64 0, .int .i64 0, .int .i64 0, .int .i64 0, .string ⟨#[]⟩, .slice none 0 0, .int .i64 0]) := by
    have := Bk.new (w.alloc (.cells #[.int .i64 a, .int .i64 b, .int .i64 cc, .int .i64 d, .string ⟨s.toArray⟩, .slice q l.length c, .int .i64 ln] 24)) 24 #[.int .i64 0, .int .i64 0, .int .i64 0, .int .i64 0, .string ⟨#[]⟩, .slice none 0 0, .int .i64 0]
    rw [World.size_alloc] at this
    exact this
  have HB0 : Hid (Below w.heap.size w ((w.alloc (.cells #[.int .i64 a, .int .i64 b, .int .i64 cc, .int .i64 d, .string ⟨s.toArray⟩, .slice q l.length c, .int .i64 ln] 24)).alloc (.cells #[.int .i64 0, .int .i64 0, .int .i64 0, .int .i64 0, .string ⟨#[]⟩, .slice none 0 0, .int .i64 0] 24))) := ((Below.refl _ w).alloc (Nat.le_refl _) _).alloc (by simp) _
  go_enter Tryz.func123, Tryz.ntmps123
  go_upto_region 1 with fail
  generalize ((w.alloc (.cells #[.int .i64 a, .int .i64 b, .int .i64 cc, .int .i64 d, .string ⟨s.toArray⟩, .slice q l.length c, .int .i64 ln] 24)).alloc (.cells #[.int .i64 0, .int .i64 0, .int .i64 0, .int .i64 0, .string ⟨#[]⟩, .slice none 0 0, .int .i64 0] 24)) = W0 at *
  obtain ⟨⟨x0, x1, x2, x3, x4, x5, x6⟩, xl, ⟨g0, g1, g2, g3, g4, g5, g6⟩⟩ := ex_cells (unveil HX0)
  go_upto_region 2 with fail
  have HX1 : Hid (Bk (W0.setCell ⟨w.heap.size, 1, none⟩ (.int .i64 op)) w.heap.size 24 #[.int .i64 a, .int .i64 op, .int .i64 cc, .int .i64 d, .string ⟨s.toArray⟩, .slice q l.length c, .int .i64 ln]) := (unveil HX0).set 1 _
  have HZ1 := veil ((unveil HZ0).other 1 (.int .i64 op) (show w.heap.size + 1 ≠ w.heap.size by omega))
  have HB1 := veil ((unveil HB0).setCell (p := ⟨w.heap.size, 1, none⟩) (Nat.le_refl _) (.int .i64 op))
  clear x0 x1 x2 x3 x4 x5 x6 xl g0 g1 g2 g3 g4 g5 g6 HX0 HZ0 HB0
  generalize (W0.setCell ⟨w.heap.size, 1, none⟩ (.int .i64 op)) = W1 at *
  obtain ⟨⟨x0, x1, x2, x3, x4, x5, x6⟩, xl, _⟩ := ex_cells (unveil HX1)
  obtain ⟨⟨z0, z1, z2, z3, z4, z5, z6⟩, zl, ⟨g0, g1, g2, g3, g4, g5, g6⟩⟩ := ex_cells (unveil HZ1)
  go_wp2_with fail
  obtain ⟨r1, r2, r3, r4⟩ := ex_put (unveil HZ1) (.int .i64 3) (.int .i64 17) (.int .i64 0) (.int .i64 0) (.string ⟨#[]⟩) (.slice (some ⟨W1.heap.size, 0, none⟩) 1 1) (.int .i64 ln) _ rfl
  have hB3 := ((unveil HB1).trans (r2 w.heap.size (by omega))).alloc (by rw [r4]; exact (unveil HB1).size) (.cells #[.int .i64 a, .int .i64 op, .int .i64 cc, .int .i64 d, .string ⟨s.toArray⟩, .slice q l.length c, .int .i64 ln] 24)
  have hL := Bk.new (((((((W1.setCell ⟨w.heap.size + 1, 0, none⟩ (.int .i64 3)).setCell ⟨w.heap.size + 1, 1, none⟩ (.int .i64 17)).setCell ⟨w.heap.size + 1, 2, none⟩ (.int .i64 0)).setCell ⟨w.heap.size + 1, 3, none⟩ (.int .i64 0)).setCell ⟨w.heap.size + 1, 4, none⟩ (.string ⟨#[]⟩)).setCell ⟨w.heap.size + 1, 5, none⟩ (.slice (some ⟨W1.heap.size, 0, none⟩) 1 1)).setCell ⟨w.heap.size + 1, 6, none⟩ (.int .i64 ln)) 24 #[.int .i64 a, .int .i64 op, .int .i64 cc, .int .i64 d, .string ⟨s.toArray⟩, .slice q l.length c, .int .i64 ln]
  rw [r4] at hL
  refine bodyPost_ret (res_e1 (f := Tryz.f123) rfl rfl (r1.alloc _) rfl) rfl ⟨W1.heap.size, rfl, (unveil HB1).size, hL, hB3⟩
end Go.Proofs.YtmpkgjonbjpohaaGreatDoor
