/-
  Package expr: the reader in memory; sign, stand, take, skip.
  Package expr: expressions in memory; operator, not, joined.
  Package expr: not, joined; slices.Contains on strings.
  Package expr: take, skip, atKind, line.
  Package expr: joined.
-/
import Derived.Test.YtmpkgjonbjpohaaGreatDoorY7
import Derived.Test.YtmpkgjonbjpohaaGreatDoorY5
import Derived.Deep.LoopGhost
namespace Go.Proofs.YtmpkgjonbjpohaaGreatDoor
open Go Go.RowKit
set_option linter.unusedVariables false
set_option linter.unusedSimpArgs false

/-- Blocks of cells of some type. -/
def Bk (W : World) (b : Nat) (T : TypeId) (cs : Array Value) : Prop := W.heap[b]? = some (.cells cs T (0, 0))
theorem Bk.lt {W : World} {b : Nat} {T : TypeId} {cs : Array Value} (h : Bk W b T cs) : b < W.heap.size := (Array.getElem?_eq_some_iff.1 h).1
theorem Bk.cell {W : World} {b : Nat} {T : TypeId} {cs : Array Value} (h : Bk W b T cs) (i : Nat) : W.cell? ⟨b, i, none⟩ = cs[i]? := by unfold Bk at h; simp [World.cell?, h]
theorem Bk.frozen {W : World} {b : Nat} {T : TypeId} {cs : Array Value} (h : Bk W b T cs) (i : Nat) : W.frozen? ⟨b, i, none⟩ = false := by unfold Bk at h; simp [World.frozen?, h]
theorem Bk.below {W W' : World} {b : Nat} {T : TypeId} {cs : Array Value} (h : Bk W b T cs) (hb : Below W.heap.size W W') : Bk W' b T cs := (hb.block b h.lt).trans h
theorem Bk.alloc {W : World} {b : Nat} {T : TypeId} {cs : Array Value} (h : Bk W b T cs) (o : Obj) : Bk (W.alloc o) b T cs := (Below.heap_alloc W o b h.lt).trans h
theorem Bk.new (w : World) (T : TypeId) (cs : Array Value) : Bk (w.alloc (.cells cs T)) w.heap.size T cs := World.alloc_heap_new _ _
theorem Bk.set {W : World} {b : Nat} {T : TypeId} {cs : Array Value} (h : Bk W b T cs) (i : Nat) (v : Value) : Bk (W.setCell ⟨b, i, none⟩ v) b T (cs.setIfInBounds i v) := by
  unfold Bk at *
  simp [World.setCell, Array.getElem?_modify, h]
theorem Bk.other {W : World} {b c : Nat} {T : TypeId} {cs : Array Value} (h : Bk W b T cs) (i : Nat) (v : Value) (hc : b ≠ c) : Bk (W.setCell ⟨c, i, none⟩ v) b T cs := (Below.heap_setCell W ⟨c, i, none⟩ v b hc).trans h
theorem ownsRow_baseS {W : World} {base base' n size : Nat} {e : TypeId} {v : Value} {xs : List Value} (h : W.ownsRow base e size v n xs) (hb : base' ≤ base) : W.ownsRow base' e size v n xs := by
  refine ⟨h.1, ?_⟩
  rcases h.2 with h2 | ⟨g, cap, cur, rfl, h1, h2⟩
  · exact .inl h2
  · exact .inr ⟨g, cap, cur, rfl, by omega, h2⟩
theorem row_kept {W W' : World} {base n size : Nat} {e : TypeId} {v : Value} {xs : List Value} (h : W.ownsRow base e size v n xs) (hb : ∀ g cur, base ≤ g → W.heap[g]? = some (.cells cur e (0, 0)) → W'.heap[g]? = some (.cells cur e (0, 0))) : W'.ownsRow base e size v n xs := by
  obtain ⟨h1, h2⟩ := h
  refine ⟨h1, ?_⟩
  rcases h2 with h2 | ⟨g, cap, cur, rfl, hg, hk, hr⟩
  · exact .inl h2
  · exact .inr ⟨g, cap, cur, rfl, hg, hb g cur hg hk, hr⟩
/-- What a call of the reader leaves as it was: what lies below the reader, and all but the reader and lists of numbers. -/
structure FrE (R : Nat) (A B : World) : Prop where
  be : Below R A B
  bk : ∀ i cs T fz, T ≠ 3 → i ≠ R → A.heap[i]? = some (.cells cs T fz) → B.heap[i]? = some (.cells cs T fz)
theorem FrE.refl (R : Nat) (A : World) : FrE R A A := ⟨Below.refl _ _, fun _ _ _ _ _ _ h => h⟩
theorem FrE.trans {R : Nat} {A B C : World} (h : FrE R A B) (k : FrE R B C) : FrE R A C := ⟨h.be.trans k.be, fun i cs T fz h1 h2 h3 => k.bk i cs T fz h1 h2 (h.bk i cs T fz h1 h2 h3)⟩
theorem FrE.below {R : Nat} {A B : World} (hb : Below A.heap.size A B) (hR : R ≤ A.heap.size) : FrE R A B := ⟨hb.mono hR, fun i cs T fz _ _ h => (hb.block i (Array.getElem?_eq_some_iff.1 h).1).trans h⟩
theorem FrE.set (R i : Nat) (A : World) (v : Value) : FrE R A (A.setCell ⟨R, i, none⟩ v) := ⟨(Below.refl _ A).setCell (p := ⟨R, i, none⟩) (Nat.le_refl _) v, fun j cs T fz _ h2 h3 => (Below.heap_setCell A ⟨R, i, none⟩ v j h2).trans h3⟩
theorem FrE.box {R b : Nat} {A B : World} {T : TypeId} {cs : Array Value} (h : FrE R A B) (hb : Bk A b T cs) (hT : T ≠ 3) (hR : b ≠ R) : Bk B b T cs := h.bk b cs T (0, 0) hT hR hb
/-- The reader in memory. -/
structure RdX (W : World) (R : Nat) (wv : Value) (ws : List Wd) (tw crv : Value) (p : Nat) (x : Wd) (cr : List Int) : Prop where
  b : Bk W R 70 #[wv, .int .i64 p, .int .i64 x.kind, .string ⟨x.s.toArray⟩, .int .i64 x.v, .int .i64 x.t, .string ⟨x.f.toArray⟩, .int .i64 x.line, tw, crv]
  r : W.ownsRow (R + 1) 3 1 crv cr.length (cr.map fun x => .int .i64 x)
  wd : WdG R W wv ws
  gl : Gl W
  op : Ops W
  mo : Mo W
  gm : 10 < R
theorem RdX.below {W W' : World} {R : Nat} {wv : Value} {ws : List Wd} {tw crv : Value} {p : Nat} {x : Wd} {cr : List Int} (h : RdX W R wv ws tw crv p x cr) (hb : Below W.heap.size W W') : RdX W' R wv ws tw crv p x cr :=
  ⟨h.b.below hb, row_kept h.r (fun g cur _ hk => (hb.block g (Array.getElem?_eq_some_iff.1 hk).1).trans hk), h.wd.below (hb.mono (Nat.le_of_lt h.b.lt)), h.gl.next hb, h.op.below hb (by have := h.gl.size; show 0 < _; omega), h.mo.below hb h.gl.size, h.gm⟩
theorem RdX.pos {W : World} {R : Nat} {wv : Value} {ws : List Wd} {tw crv : Value} {p : Nat} {x : Wd} {cr : List Int} (h : RdX W R wv ws tw crv p x cr) (q : Nat) : RdX (W.setCell ⟨R, 1, none⟩ (.int .i64 q)) R wv ws tw crv q x cr ∧ FrE R W (W.setCell ⟨R, 1, none⟩ (.int .i64 q)) := by
  have hf := FrE.set R 1 W (.int .i64 q)
  exact ⟨⟨h.b.set 1 _, row_kept h.r (fun g cur hg hk => (Below.heap_setCell W ⟨R, 1, none⟩ _ g (by show g ≠ R; omega)).trans hk), h.wd.below hf.be, h.gl.below hf.be h.gm, h.op.below hf.be (by have := h.gm; show 0 < _; omega), h.mo.below hf.be h.gm, h.gm⟩, hf⟩
theorem RdX.cell' {W : World} {R : Nat} {wv : Value} {ws : List Wd} {tw crv : Value} {p : Nat} {x : Wd} {cr : List Int} (h : RdX W R wv ws tw crv p x cr) {i : Nat} {v : Value} {cs : Array Value} (hb : Bk (W.setCell ⟨R, i, none⟩ v) R 70 cs) : FrE R W (W.setCell ⟨R, i, none⟩ v) := FrE.set R i W v
set_option maxHeartbeats 4000000 in
theorem RdX.put {W : World} {R : Nat} {wv : Value} {ws : List Wd} {tw crv : Value} {p : Nat} {x : Wd} {cr : List Int} (h : RdX W R wv ws tw crv p x cr) (y : Wd) : ∀ W', W' = ((((((W.setCell ⟨R, 2, none⟩ (.int .i64 y.kind)).setCell ⟨R, 3, none⟩ (.string ⟨y.s.toArray⟩)).setCell ⟨R, 4, none⟩ (.int .i64 y.v)).setCell ⟨R, 5, none⟩ (.int .i64 y.t)).setCell ⟨R, 6, none⟩ (.string ⟨y.f.toArray⟩)).setCell ⟨R, 7, none⟩ (.int .i64 y.line)) → RdX W' R wv ws tw crv p y cr ∧ FrE R W W' := fun W' e => by
  have z0 : Bk (W.setCell ⟨R, 2, none⟩ (.int .i64 y.kind)) R 70 #[wv, .int .i64 p, .int .i64 y.kind, .string ⟨x.s.toArray⟩, .int .i64 x.v, .int .i64 x.t, .string ⟨x.f.toArray⟩, .int .i64 x.line, tw, crv] := h.b.set 2 _
  have f0 : FrE R W (W.setCell ⟨R, 2, none⟩ (.int .i64 y.kind)) := FrE.set R 2 _ _
  have z1 : Bk ((W.setCell ⟨R, 2, none⟩ (.int .i64 y.kind)).setCell ⟨R, 3, none⟩ (.string ⟨y.s.toArray⟩)) R 70 #[wv, .int .i64 p, .int .i64 y.kind, .string ⟨y.s.toArray⟩, .int .i64 x.v, .int .i64 x.t, .string ⟨x.f.toArray⟩, .int .i64 x.line, tw, crv] := z0.set 3 _
  have f1 : FrE R (W.setCell ⟨R, 2, none⟩ (.int .i64 y.kind)) ((W.setCell ⟨R, 2, none⟩ (.int .i64 y.kind)).setCell ⟨R, 3, none⟩ (.string ⟨y.s.toArray⟩)) := FrE.set R 3 _ _
  have z2 : Bk (((W.setCell ⟨R, 2, none⟩ (.int .i64 y.kind)).setCell ⟨R, 3, none⟩ (.string ⟨y.s.toArray⟩)).setCell ⟨R, 4, none⟩ (.int .i64 y.v)) R 70 #[wv, .int .i64 p, .int .i64 y.kind, .string ⟨y.s.toArray⟩, .int .i64 y.v, .int .i64 x.t, .string ⟨x.f.toArray⟩, .int .i64 x.line, tw, crv] := z1.set 4 _
  have f2 : FrE R ((W.setCell ⟨R, 2, none⟩ (.int .i64 y.kind)).setCell ⟨R, 3, none⟩ (.string ⟨y.s.toArray⟩)) (((W.setCell ⟨R, 2, none⟩ (.int .i64 y.kind)).setCell ⟨R, 3, none⟩ (.string ⟨y.s.toArray⟩)).setCell ⟨R, 4, none⟩ (.int .i64 y.v)) := FrE.set R 4 _ _
  have z3 : Bk ((((W.setCell ⟨R, 2, none⟩ (.int .i64 y.kind)).setCell ⟨R, 3, none⟩ (.string ⟨y.s.toArray⟩)).setCell ⟨R, 4, none⟩ (.int .i64 y.v)).setCell ⟨R, 5, none⟩ (.int .i64 y.t)) R 70 #[wv, .int .i64 p, .int .i64 y.kind, .string ⟨y.s.toArray⟩, .int .i64 y.v, .int .i64 y.t, .string ⟨x.f.toArray⟩, .int .i64 x.line, tw, crv] := z2.set 5 _
  have f3 : FrE R (((W.setCell ⟨R, 2, none⟩ (.int .i64 y.kind)).setCell ⟨R, 3, none⟩ (.string ⟨y.s.toArray⟩)).setCell ⟨R, 4, none⟩ (.int .i64 y.v)) ((((W.setCell ⟨R, 2, none⟩ (.int .i64 y.kind)).setCell ⟨R, 3, none⟩ (.string ⟨y.s.toArray⟩)).setCell ⟨R, 4, none⟩ (.int .i64 y.v)).setCell ⟨R, 5, none⟩ (.int .i64 y.t)) := FrE.set R 5 _ _
  have z4 : Bk (((((W.setCell ⟨R, 2, none⟩ (.int .i64 y.kind)).setCell ⟨R, 3, none⟩ (.string ⟨y.s.toArray⟩)).setCell ⟨R, 4, none⟩ (.int .i64 y.v)).setCell ⟨R, 5, none⟩ (.int .i64 y.t)).setCell ⟨R, 6, none⟩ (.string ⟨y.f.toArray⟩)) R 70 #[wv, .int .i64 p, .int .i64 y.kind, .string ⟨y.s.toArray⟩, .int .i64 y.v, .int .i64 y.t, .string ⟨y.f.toArray⟩, .int .i64 x.line, tw, crv] := z3.set 6 _
  have f4 : FrE R ((((W.setCell ⟨R, 2, none⟩ (.int .i64 y.kind)).setCell ⟨R, 3, none⟩ (.string ⟨y.s.toArray⟩)).setCell ⟨R, 4, none⟩ (.int .i64 y.v)).setCell ⟨R, 5, none⟩ (.int .i64 y.t)) (((((W.setCell ⟨R, 2, none⟩ (.int .i64 y.kind)).setCell ⟨R, 3, none⟩ (.string ⟨y.s.toArray⟩)).setCell ⟨R, 4, none⟩ (.int .i64 y.v)).setCell ⟨R, 5, none⟩ (.int .i64 y.t)).setCell ⟨R, 6, none⟩ (.string ⟨y.f.toArray⟩)) := FrE.set R 6 _ _
  have z5 : Bk ((((((W.setCell ⟨R, 2, none⟩ (.int .i64 y.kind)).setCell ⟨R, 3, none⟩ (.string ⟨y.s.toArray⟩)).setCell ⟨R, 4, none⟩ (.int .i64 y.v)).setCell ⟨R, 5, none⟩ (.int .i64 y.t)).setCell ⟨R, 6, none⟩ (.string ⟨y.f.toArray⟩)).setCell ⟨R, 7, none⟩ (.int .i64 y.line)) R 70 #[wv, .int .i64 p, .int .i64 y.kind, .string ⟨y.s.toArray⟩, .int .i64 y.v, .int .i64 y.t, .string ⟨y.f.toArray⟩, .int .i64 y.line, tw, crv] := z4.set 7 _
  have f5 : FrE R (((((W.setCell ⟨R, 2, none⟩ (.int .i64 y.kind)).setCell ⟨R, 3, none⟩ (.string ⟨y.s.toArray⟩)).setCell ⟨R, 4, none⟩ (.int .i64 y.v)).setCell ⟨R, 5, none⟩ (.int .i64 y.t)).setCell ⟨R, 6, none⟩ (.string ⟨y.f.toArray⟩)) ((((((W.setCell ⟨R, 2, none⟩ (.int .i64 y.kind)).setCell ⟨R, 3, none⟩ (.string ⟨y.s.toArray⟩)).setCell ⟨R, 4, none⟩ (.int .i64 y.v)).setCell ⟨R, 5, none⟩ (.int .i64 y.t)).setCell ⟨R, 6, none⟩ (.string ⟨y.f.toArray⟩)).setCell ⟨R, 7, none⟩ (.int .i64 y.line)) := FrE.set R 7 _ _
  have hf : FrE R W W' := by rw [e]; exact ((((f0.trans f1).trans f2).trans f3).trans f4).trans f5
  refine ⟨⟨by rw [e]; exact z5, row_kept h.r (fun g cur hg hk => ?_), h.wd.below hf.be, h.gl.below hf.be h.gm, h.op.below hf.be (by have := h.gm; show 0 < _; omega), h.mo.below hf.be h.gm, h.gm⟩, hf⟩
  have hne : g ≠ R := by omega
  rw [e]
  have s : ∀ (X : World) i v, X.heap[g]? = some (.cells cur 3 (0, 0)) → (X.setCell ⟨R, i, none⟩ v).heap[g]? = some (.cells cur 3 (0, 0)) := fun X i v hx => (Below.heap_setCell X ⟨R, i, none⟩ v g hne).trans hx
  exact s _ _ _ (s _ _ _ (s _ _ _ (s _ _ _ (s _ _ _ (s _ _ _ hk)))))
theorem RdX.cells {W : World} {R : Nat} {wv : Value} {ws : List Wd} {tw crv : Value} {p : Nat} {x : Wd} {cr : List Int} (h : RdX W R wv ws tw crv p x cr) : (W.cell? ⟨R, 0, none⟩ = some wv ∧ W.cell? ⟨R, 1, none⟩ = some (.int .i64 p) ∧ W.cell? ⟨R, 2, none⟩ = some (.int .i64 x.kind) ∧ W.cell? ⟨R, 3, none⟩ = some (.string ⟨x.s.toArray⟩) ∧ W.cell? ⟨R, 4, none⟩ = some (.int .i64 x.v) ∧ W.cell? ⟨R, 5, none⟩ = some (.int .i64 x.t) ∧ W.cell? ⟨R, 6, none⟩ = some (.string ⟨x.f.toArray⟩) ∧ W.cell? ⟨R, 7, none⟩ = some (.int .i64 x.line) ∧ W.cell? ⟨R, 8, none⟩ = some tw ∧ W.cell? ⟨R, 9, none⟩ = some crv) ∧ R < W.heap.size ∧ (W.frozen? ⟨R, 1, none⟩ = false ∧ W.frozen? ⟨R, 2, none⟩ = false ∧ W.frozen? ⟨R, 3, none⟩ = false ∧ W.frozen? ⟨R, 4, none⟩ = false ∧ W.frozen? ⟨R, 5, none⟩ = false ∧ W.frozen? ⟨R, 6, none⟩ = false ∧ W.frozen? ⟨R, 7, none⟩ = false) :=
  ⟨⟨h.b.cell 0, h.b.cell 1, h.b.cell 2, h.b.cell 3, h.b.cell 4, h.b.cell 5, h.b.cell 6, h.b.cell 7, h.b.cell 8, h.b.cell 9⟩, h.b.lt, ⟨h.b.frozen 1, h.b.frozen 2, h.b.frozen 3, h.b.frozen 4, h.b.frozen 5, h.b.frozen 6, h.b.frozen 7⟩⟩
set_option maxRecDepth 100000 in
set_option maxHeartbeats 4000000 in
theorem sign_any {W : World} {R : Nat} {wv : Value} {ws : List Wd} {tw crv : Value} {p : Nat} {x : Wd} {cr : List Int} (h : RdX W R wv ws tw crv p x cr) :
    Calls Tryz.prog 65 #[.pointer (some ⟨R, 0, none⟩)] W fun e W' => e = .returned (.string ⟨(sgW x).toArray⟩) ∧ W' = W := by
  obtain ⟨⟨c0, c1, c2, c3, c4, c5, c6, c7, c8, c9⟩, hl, _⟩ := h.cells
  clear h
  unfold sgW
  cases hk : x.kind == 5
  · go_enter Tryz.func65, Tryz.ntmps65
    go_wp2
    go_ret
    exact ⟨rfl, rfl⟩
  · go_enter Tryz.func65, Tryz.ntmps65
    go_wp2
    go_ret
    exact ⟨rfl, rfl⟩
set_option maxRecDepth 100000 in
set_option maxHeartbeats 8000000 in
theorem stand_any {W : World} {R : Nat} {wv : Value} {ws : List Wd} {tw crv : Value} {p : Nat} {x : Wd} {cr : List Int} (h : RdX W R wv ws tw crv p x cr) (q : Nat) (hq : q ≤ ws.length) (hl : ws.length ≤ 1000000) (hws : ∀ y ∈ ws, y.s.length ≤ 140737488355328) :
    Calls Tryz.prog 62 #[.pointer (some ⟨R, 0, none⟩), .int .i64 q] W fun e W' => (∃ r, e = .returned r) ∧ FrE R W W' ∧ RdX W' R wv ws tw crv q (nxt ws q) cr := by
  have HX0 := veil h
  obtain ⟨hp1, hp2⟩ := h.pos q
  have H1 : Hid (RdX (((((((W.setCell ⟨R, 1, none⟩ (.int .i64 q)).setCell ⟨R, 2, none⟩ (.int .i64 0)).setCell ⟨R, 3, none⟩ (.string ⟨#[]⟩)).setCell ⟨R, 4, none⟩ (.int .i64 0)).setCell ⟨R, 5, none⟩ (.int .i64 0)).setCell ⟨R, 6, none⟩ (.string ⟨#[]⟩)).setCell ⟨R, 7, none⟩ (.int .i64 0)) R wv ws tw crv q zrW cr ∧ FrE R W (((((((W.setCell ⟨R, 1, none⟩ (.int .i64 q)).setCell ⟨R, 2, none⟩ (.int .i64 0)).setCell ⟨R, 3, none⟩ (.string ⟨#[]⟩)).setCell ⟨R, 4, none⟩ (.int .i64 0)).setCell ⟨R, 5, none⟩ (.int .i64 0)).setCell ⟨R, 6, none⟩ (.string ⟨#[]⟩)).setCell ⟨R, 7, none⟩ (.int .i64 0))) := ⟨(hp1.put zrW _ rfl).1, hp2.trans (hp1.put zrW _ rfl).2⟩
  clear hp1 hp2
  obtain ⟨pw, cw, rfl, _⟩ := h.wd
  obtain ⟨⟨c0, c1, c2, c3, c4, c5, c6, c7, c8, c9⟩, hlt, ⟨f1, f2, f3, f4, f5, f6, f7⟩⟩ := h.cells
  have HRI := veil (fun (y : Wd) (hy : y ∈ ws) (V : World) (hg : Gl V) => Right_any y V (hws y hy) hg.size hg.sg)
  clear h
  go_enter Tryz.func62, Tryz.ntmps62
  go_upto_region 1 with fail
  generalize (((((((W.setCell ⟨R, 1, none⟩ (.int .i64 q)).setCell ⟨R, 2, none⟩ (.int .i64 0)).setCell ⟨R, 3, none⟩ (.string ⟨#[]⟩)).setCell ⟨R, 4, none⟩ (.int .i64 0)).setCell ⟨R, 5, none⟩ (.int .i64 0)).setCell ⟨R, 6, none⟩ (.string ⟨#[]⟩)).setCell ⟨R, 7, none⟩ (.int .i64 0)) = W1 at *
  clear c0 c1 c2 c3 c4 c5 c6 c7 c8 c9 hlt f1 f2 f3 f4 f5 f6 f7
  obtain ⟨⟨c0, c1, c2, c3, c4, c5, c6, c7, c8, c9⟩, hlt, ⟨f1, f2, f3, f4, f5, f6, f7⟩⟩ := (unveil H1).1.cells
  by_cases hqn : q < ws.length
  · have hqi : (q : Int) < (ws.length : Int) := by omega
    obtain ⟨pw', cw', he, hc⟩ := (unveil H1).1.wd
    cases he
    obtain ⟨gw, ow, rfl, hgw, w0, w1, w2, w3, w4, w5⟩ := hc q hqn
    have hgl : gw < W1.heap.size := Nat.lt_trans hgw (unveil H1).1.b.lt
    have HNX : Hid (nxt ws q = if rightM ws[q] then ws[q] else zrW) := by
      unfold Hid nxt
      rw [List.getElem?_eq_getElem hqn]
    have HR := veil (unveil HRI ws[q] (List.getElem_mem hqn) W1 (unveil H1).1.gl)
    clear hc
    generalize ws[q] = y at *
    cases hr : rightM y
    · rw [hr] at HR
      rw [Hid, hr] at HNX
      simp only [Bool.false_eq_true, if_false] at HNX
      have HNX2 := veil HNX
      clear HNX
      unfold wdV wdC at HR
      go_wp2_with (go_at_call 50; refine (unveil HR).mono ?_; rintro e W2 ⟨rfl, hb⟩; have H2 := veil (And.intro ((unveil H1).1.below hb) ((unveil H1).2.trans (FrE.below hb (Nat.le_of_lt (unveil H1).1.b.lt)))); clear hb)
      refine bodyPost_end (results_none (fn := Tryz.f62) rfl _ _ _) rfl ?_
      exact ⟨⟨_, rfl⟩, (unveil H2).2, by rw [unveil HNX2]; exact (unveil H2).1⟩
    · rw [hr] at HR
      rw [Hid, hr] at HNX
      simp only [if_true] at HNX
      have HNX2 := veil HNX
      clear HNX
      unfold wdV wdC at HR
      go_upto_region 2 with (go_at_call 50; refine (unveil HR).mono ?_; rintro e W2 ⟨rfl, hb⟩; have H2 := veil (And.intro ((unveil H1).1.below hb) ((unveil H1).2.trans (FrE.below hb (Nat.le_of_lt (unveil H1).1.b.lt)))); have HWC := veil (And.intro (hb.cell (p := ⟨gw, ow + q * 6, none⟩) hgl) (And.intro (hb.cell (p := ⟨gw, ow + q * 6 + 1, none⟩) hgl) (And.intro (hb.cell (p := ⟨gw, ow + q * 6 + 2, none⟩) hgl) (And.intro (hb.cell (p := ⟨gw, ow + q * 6 + 3, none⟩) hgl) (And.intro (hb.cell (p := ⟨gw, ow + q * 6 + 4, none⟩) hgl) (And.intro (hb.cell (p := ⟨gw, ow + q * 6 + 5, none⟩) hgl) (Nat.lt_of_lt_of_le hgl hb.size))))))); clear hb)
      clear c0 c1 c2 c3 c4 c5 c6 c7 c8 c9 hlt f1 f2 f3 f4 f5 f6 f7
      obtain ⟨⟨c0, c1, c2, c3, c4, c5, c6, c7, c8, c9⟩, hlt, ⟨f1, f2, f3, f4, f5, f6, f7⟩⟩ := (unveil H2).1.cells
      obtain ⟨v0, v1, v2, v3, v4, v5, hgl2⟩ := unveil HWC
      replace v0 := v0.trans w0
      replace v1 := v1.trans w1
      replace v2 := v2.trans w2
      replace v3 := v3.trans w3
      replace v4 := v4.trans w4
      replace v5 := v5.trans w5
      have H3 := veil ((unveil H2).1.put y)
      clear w0 w1 w2 w3 w4 w5 HWC hgl HR HRI H1
      go_wp2_with fail
      refine bodyPost_end (results_none (fn := Tryz.f62) rfl _ _ _) rfl ?_
      obtain ⟨k1, k2⟩ := unveil H3 _ rfl
      exact ⟨⟨_, rfl⟩, (unveil H2).2.trans k2, by rw [unveil HNX2]; exact k1⟩
  · have hqi : ¬ (q : Int) < (ws.length : Int) := by omega
    have HNX : Hid (nxt ws q = zrW) := by
      unfold Hid nxt
      rw [List.getElem?_eq_none (by omega)]
    go_wp2_with fail
    refine bodyPost_end (results_none (fn := Tryz.f62) rfl _ _ _) rfl ?_
    exact ⟨⟨_, rfl⟩, (unveil H1).2, by rw [unveil HNX]; exact (unveil H1).1⟩
end Go.Proofs.YtmpkgjonbjpohaaGreatDoor
namespace Go.Proofs.YtmpkgjonbjpohaaGreatDoor
open Go Go.RowKit
set_option linter.unusedVariables false
set_option linter.unusedSimpArgs false

/-- An expression's cells, its parts where a pointer leads. -/
def exC (x : PE) (p : Option Addr) (c : Nat) : Array Value := #[.int .i64 x.is, .int .i64 x.op, .int .i64 x.k, .int .i64 x.v, .string ⟨x.nm.toArray⟩, .slice p x.l.length c, .int .i64 x.line]
def KidD (W : World) (K : Nat → Prop) : Nat → PE → Option Addr → Prop
  | 0, _, _ => True
  | d + 1, x, p => ∀ (i : Nat) (h : i < x.l.length), ∃ g o cur fz q cq, p = some ⟨g, o, none⟩ ∧ K g ∧ W.heap[g]? = some (.cells cur 24 fz) ∧ (∀ (j : Nat) (u : Value), (exC x.l[i] q cq)[j]? = some u → cur[o + i * 7 + j]? = some u) ∧ KidD W K d x.l[i] q
/-- An expression's parts, as they lie, in blocks of a kind. -/
def Kids (W : World) (K : Nat → Prop) (x : PE) (p : Option Addr) : Prop := ∀ d, KidD W K d x p
/-- A list of expressions, as it lies. -/
def KidL (W : World) (K : Nat → Prop) (l : List PE) (p : Option Addr) : Prop := ∀ (i : Nat) (h : i < l.length), ∃ g o cur fz q cq, p = some ⟨g, o, none⟩ ∧ K g ∧ W.heap[g]? = some (.cells cur 24 fz) ∧ (∀ (j : Nat) (u : Value), (exC l[i] q cq)[j]? = some u → cur[o + i * 7 + j]? = some u) ∧ Kids W K l[i] q
theorem Kids.of {W : World} {K : Nat → Prop} {x : PE} {p : Option Addr} (h : KidL W K x.l p) : Kids W K x p
  | 0 => trivial
  | d + 1 => fun i hi => by
    obtain ⟨g, o, cur, fz, q, cq, e, hK, hg, hc, hk⟩ := h i hi
    exact ⟨g, o, cur, fz, q, cq, e, hK, hg, hc, hk d⟩
theorem Kids.list {W : World} {K : Nat → Prop} {x : PE} {p : Option Addr} (h : Kids W K x p) : KidL W K x.l p := fun i hi => by
  obtain ⟨g, o, cur, fz, q, cq, rfl, hK, hg, hc, _⟩ := h 1 i hi
  refine ⟨g, o, cur, fz, q, cq, rfl, hK, hg, hc, fun d => ?_⟩
  obtain ⟨g', o', cur', fz', q', cq', e', hK', hg', hc', hk'⟩ := h (d + 1) i hi
  simp only [Option.some.injEq, Addr.mk.injEq, and_true] at e'
  obtain ⟨rfl, rfl⟩ := e'
  rw [hg] at hg'
  simp only [Option.some.injEq, Obj.cells.injEq, true_and] at hg'
  obtain ⟨rfl, rfl⟩ := hg'
  have h1 := hc 5 _ rfl
  have h2 := hc' 5 _ rfl
  rw [h1] at h2
  simp only [Option.some.injEq, Value.slice.injEq, true_and] at h2
  obtain ⟨rfl, _⟩ := h2
  exact hk'
theorem Kids.nil {W : World} {K : Nat → Prop} {x : PE} (h : x.l = []) (p : Option Addr) : Kids W K x p := Kids.of (fun i hi => by rw [h] at hi; cases hi)
theorem KidD.keep {A B : World} {K K' : Nat → Prop} (hk : ∀ (g : Nat) cs fz, K g → A.heap[g]? = some (.cells cs 24 fz) → B.heap[g]? = some (.cells cs 24 fz) ∧ K' g) : ∀ (d : Nat) (x : PE) (p : Option Addr), KidD A K d x p → KidD B K' d x p
  | 0, _, _, _ => trivial
  | d + 1, x, p, h => fun i hi => by
    obtain ⟨g, o, cur, fz, q, cq, e, hK, hg, hc, hd⟩ := h i hi
    obtain ⟨h1, h2⟩ := hk g cur fz hK hg
    exact ⟨g, o, cur, fz, q, cq, e, h2, h1, hc, KidD.keep hk d _ _ hd⟩
theorem Kids.keep {A B : World} {K K' : Nat → Prop} {x : PE} {p : Option Addr} (h : Kids A K x p) (hk : ∀ (g : Nat) cs fz, K g → A.heap[g]? = some (.cells cs 24 fz) → B.heap[g]? = some (.cells cs 24 fz) ∧ K' g) : Kids B K' x p := fun d => KidD.keep hk d x p (h d)
theorem Kids.mono {A : World} {K K' : Nat → Prop} {x : PE} {p : Option Addr} (h : Kids A K x p) (hk : ∀ g, g < A.heap.size → K g → K' g) : Kids A K' x p := h.keep (fun g cs fz hK hg => ⟨hg, hk g (Array.getElem?_eq_some_iff.1 hg).1 hK⟩)
theorem Kids.below {A B : World} {K : Nat → Prop} {x : PE} {p : Option Addr} (h : Kids A K x p) (hb : Below A.heap.size A B) : Kids B K x p := h.keep (fun g cs fz hK hg => ⟨(hb.block g (Array.getElem?_eq_some_iff.1 hg).1).trans hg, hK⟩)
theorem Kids.fr {R : Nat} {A B : World} {K : Nat → Prop} {x : PE} {p : Option Addr} {cs : Array Value} (h : Kids A K x p) (hf : FrE R A B) (hR : Bk A R 70 cs) : Kids B K x p := h.keep (fun g cs' fz hK hg => ⟨hf.bk g cs' _ fz (by decide) (fun e => by
  subst e
  have : A.heap[g]? = some (.cells cs 70 (0, 0)) := hR
  rw [this] at hg
  simp at hg) hg, hK⟩)
/-- A box that no part lies in is turned. -/
theorem Kids.off {A B : World} {K : Nat → Prop} {x : PE} {p : Option Addr} {b : Nat} (h : Kids A K x p) (hb : ∀ (j : Nat) (o : Obj), j ≠ b → A.heap[j]? = some o → B.heap[j]? = some o) (hK : ¬ K b) : Kids B K x p := h.keep (fun g cs fz hg he => ⟨hb g _ (fun e => hK (by rw [← e]; exact hg)) he, hg⟩)
theorem KidL.keep {A B : World} {K K' : Nat → Prop} {l : List PE} {p : Option Addr} (h : KidL A K l p) (hk : ∀ (g : Nat) cs fz, K g → A.heap[g]? = some (.cells cs 24 fz) → B.heap[g]? = some (.cells cs 24 fz) ∧ K' g) : KidL B K' l p := fun i hi => by
  obtain ⟨g, o, cur, fz, q, cq, e, hK, hg, hc, hd⟩ := h i hi
  obtain ⟨h1, h2⟩ := hk g cur fz hK hg
  exact ⟨g, o, cur, fz, q, cq, e, h2, h1, hc, hd.keep hk⟩
theorem KidL.one {W : World} {K : Nat → Prop} {g : Nat} {x : PE} {q : Option Addr} {c : Nat} (hb : Bk W g 24 (exC x q c)) (hK : K g) (hk : Kids W K x q) : KidL W K [x] (some ⟨g, 0, none⟩) := fun i hi => by
  obtain rfl : i = 0 := by simpa using hi
  exact ⟨g, 0, _, _, q, c, rfl, hK, hb, fun j u hu => by simpa using hu, hk⟩
theorem exC_size (x : PE) (q : Option Addr) (c : Nat) : (exC x q c).size = 7 := rfl
theorem KidL.two {W : World} {K : Nat → Prop} {g : Nat} {x y : PE} {q r : Option Addr} {c d : Nat} (hb : Bk W g 24 (exC x q c ++ exC y r d)) (hK : K g) (hk : Kids W K x q) (hk2 : Kids W K y r) : KidL W K [x, y] (some ⟨g, 0, none⟩) := fun i hi => by
  have hi' : i < 2 := by simpa using hi
  match i, hi' with
  | 0, _ => exact ⟨g, 0, _, _, q, c, rfl, hK, hb, fun j u hu => by
      have hj : j < (exC x q c).size := (Array.getElem?_eq_some_iff.1 hu).1
      rw [Array.getElem?_append_left (by simpa using hj)]
      simpa using hu, hk⟩
  | 1, _ => exact ⟨g, 0, _, _, r, d, rfl, hK, hb, fun j u hu => by
      rw [Array.getElem?_append_right (by rw [exC_size]; omega), exC_size]
      rw [show 0 + 1 * 7 + j - 7 = j by omega]
      exact hu, hk2⟩
theorem KidL.three {W : World} {K : Nat → Prop} {g : Nat} {x y z : PE} {q r s : Option Addr} {c d e : Nat} (hb : Bk W g 24 (exC x q c ++ exC y r d ++ exC z s e)) (hK : K g) (hk : Kids W K x q) (hk2 : Kids W K y r) (hk3 : Kids W K z s) : KidL W K [x, y, z] (some ⟨g, 0, none⟩) := fun i hi => by
  have hi' : i < 3 := by simpa using hi
  match i, hi' with
  | 0, _ => exact ⟨g, 0, _, _, q, c, rfl, hK, hb, fun j u hu => by
      have hj : j < (exC x q c).size := (Array.getElem?_eq_some_iff.1 hu).1
      rw [exC_size] at hj
      rw [Array.append_assoc, Array.getElem?_append_left (by rw [exC_size]; omega)]
      simpa using hu, hk⟩
  | 1, _ => exact ⟨g, 0, _, _, r, d, rfl, hK, hb, fun j u hu => by
      have hj : j < (exC y r d).size := (Array.getElem?_eq_some_iff.1 hu).1
      rw [exC_size] at hj
      rw [Array.append_assoc, Array.getElem?_append_right (by rw [exC_size]; omega), exC_size, Array.getElem?_append_left (by rw [exC_size]; omega), show 0 + 1 * 7 + j - 7 = j by omega]
      exact hu, hk2⟩
  | 2, _ => exact ⟨g, 0, _, _, s, e, rfl, hK, hb, fun j u hu => by
      rw [Array.append_assoc, Array.getElem?_append_right (by rw [exC_size]; omega), exC_size, Array.getElem?_append_right (by rw [exC_size]; omega), exC_size, show 0 + 2 * 7 + j - 7 - 7 = j by omega]
      exact hu, hk3⟩
theorem res_ex {f : Func} {k i : Nat} {tmps : Array Value} {w : World} {R : Nat} {cs : Array Value} (hr : f.results = #[.cell k 24, .tmp i]) (hp : tmps.getD k undef = .pointer (some ⟨R, 0, none⟩)) (hg : w.heap[R]? = some (.cells cs 24 (0, 0))) (hz : cs.size = 7) :
    (results f tmps).run Tryz.prog w = .ok (.tuple #[.agg cs, tmps.getD i undef]) w := by
  have hi : (Tryz.prog.info? 24).map (·.size) = some cs.size := by rw [hz]; kernel_rfl
  have hp' : tmps[k]?.getD undef = .pointer (some ⟨R, 0, none⟩) := by simpa using hp
  simp [results, hr, hp', asAddr, run_loadVar_row w R 24 24 cs (0, 0) _ hg Tryz.underlying24 rfl hi]
theorem res_e1 {f : Func} {k : Nat} {tmps : Array Value} {w : World} {R : Nat} {cs : Array Value} (hr : f.results = #[.cell k 24]) (hp : tmps.getD k undef = .pointer (some ⟨R, 0, none⟩)) (hg : w.heap[R]? = some (.cells cs 24 (0, 0))) (hz : cs.size = 7) :
    (results f tmps).run Tryz.prog w = .ok (.agg cs) w := by
  have hi : (Tryz.prog.info? 24).map (·.size) = some cs.size := by rw [hz]; kernel_rfl
  have hp' : tmps[k]?.getD undef = .pointer (some ⟨R, 0, none⟩) := by simpa using hp
  simp [results, hr, hp', asAddr, run_loadVar_row w R 24 24 cs (0, 0) _ hg Tryz.underlying24 rfl hi]
set_option maxRecDepth 100000 in
set_option maxHeartbeats 8000000 in
theorem opB_any (s : List UInt8) (w : World) (hO : Ops w) (hw : 0 < w.heap.size) :
    Calls Tryz.prog 97 #[.string ⟨s.toArray⟩, .func (.func 52) #[] #[]] w fun e w' => e = .returned (.int .i64 (opB s)) ∧ Below w.heap.size w w' := by
  have HB := veil (fun (op : Int) (W : World) (hb : Below w.heap.size w W) => Binary_any op W (hO.below hb hw) (Nat.lt_of_lt_of_le hw hb.size))
  have HS := veil (fun (op : Int) (W : World) (hb : Below w.heap.size w W) => Sign_any op W (hO.below hb hw) (Nat.lt_of_lt_of_le hw hb.size))
  have HF : Hid (opB s = fstO (fun op => (ofM op == 2) && (sigM op == s)) (18 - 1) ((1 : Nat) : Int)) := rfl
  clear hO hw
  go_enter Tryz.func97, Tryz.ntmps97
  go_upto_region 2 with fail
  go_loopg [5] 17 (fun gk iv wr => ∃ (i : Nat), gk = 18 - i ∧ iv = .int .i64 i ∧ 1 ≤ i ∧ i ≤ 18 ∧ Hid (Below w.heap.size w wr) ∧ Hid (opB s = fstO (fun op => (ofM op == 2) && (sigM op == s)) (18 - i) (i : Int)))
  case atStart => exact ⟨1, rfl, rfl, Nat.le_refl _, by omega, Below.refl _ _, HF⟩
  case round =>
    rename World => wr
    obtain ⟨i, rfl, rfl, hi1, hi2, hb, hF⟩ := hrel
    by_cases hi : i ≤ 17
    · have hii : (i : Int) ≤ 17 := by omega
      have hF' := unveil hF
      rw [show 18 - i = (18 - (i + 1)) + 1 by omega, fstO] at hF'
      have HF2 := veil hF'
      clear hF'
      cases h1 : ofM i == 2
      · have HFN : Hid (opB s = fstO (fun op => (ofM op == 2) && (sigM op == s)) (18 - (i + 1)) ((i + 1 : Nat) : Int)) := by
          have := unveil HF2
          rw [h1] at this
          show _ = _
          simpa using this
        go_wp2_with (go_at_call 52; refine (unveil HB _ _ (unveil hb)).mono ?_; rintro e W1 ⟨rfl, h1'⟩; have hb1 := veil ((unveil hb).trans (h1'.mono (unveil hb).size)); clear h1')
        go_roundg (18 - (i + 1))
        case measure => omega
        case rel => exact ⟨i + 1, rfl, by go_num, by omega, by omega, hb1, HFN⟩
      · cases h2 : sigM i == s
        · have HFN : Hid (opB s = fstO (fun op => (ofM op == 2) && (sigM op == s)) (18 - (i + 1)) ((i + 1 : Nat) : Int)) := by
            have := unveil HF2
            rw [h1, h2] at this
            show _ = _
            simpa using this
          generalize hsg : sigM i = SG at *
          go_wp2_with (first
            | (go_at_call 52; refine (unveil HB _ _ (unveil hb)).mono ?_; rintro e W1 ⟨rfl, h1'⟩; have hb1 := veil ((unveil hb).trans (h1'.mono (unveil hb).size)); clear h1')
            | (go_at_call 40; refine (unveil HS _ _ (unveil hb1)).mono ?_; rintro e W2 ⟨rfl, h2'⟩; have hb2 := veil ((unveil hb1).trans (h2'.mono (unveil hb1).size)); clear h2'; rw [hsg]))
          go_roundg (18 - (i + 1))
          case measure => omega
          case rel => exact ⟨i + 1, rfl, by go_num, by omega, by omega, hb2, HFN⟩
        · have HFN : Hid (opB s = (i : Int)) := by
            have := unveil HF2
            rw [h1, h2] at this
            show _ = _
            simpa using this
          generalize hsg : sigM i = SG at *
          go_wp2_with (first
            | (go_at_call 52; refine (unveil HB _ _ (unveil hb)).mono ?_; rintro e W1 ⟨rfl, h1'⟩; have hb1 := veil ((unveil hb).trans (h1'.mono (unveil hb).size)); clear h1')
            | (go_at_call 40; refine (unveil HS _ _ (unveil hb1)).mono ?_; rintro e W2 ⟨rfl, h2'⟩; have hb2 := veil ((unveil hb1).trans (h2'.mono (unveil hb1).size)); clear h2'; rw [hsg]))
          go_ret
          exact ⟨by rw [unveil HFN]; rfl, unveil hb2⟩
    · have hii : ¬ (i : Int) ≤ 17 := by omega
      have HFN : Hid (opB s = 0) := by
        have := unveil hF
        rw [show 18 - i = 0 by omega, fstO] at this
        exact this
      go_wp2_with fail
      go_ret
      exact ⟨by rw [unveil HFN]; rfl, unveil hb⟩
set_option maxRecDepth 100000 in
set_option maxHeartbeats 4000000 in
theorem ofOne_any (op : Int) (w : World) (hO : Ops w) (hw : 0 < w.heap.size) :
    Calls Tryz.prog 51 #[.int .i64 op] w fun e w' => e = .returned (.bool (ofO op)) ∧ Below w.heap.size w w' := by
  have HB := veil (Binary_any op w hO hw)
  have HS := veil (fun (W : World) (hb : Below w.heap.size w W) => Sign_any op W (hO.below hb hw) (Nat.lt_of_lt_of_le hw hb.size))
  clear hO hw
  unfold ofO
  generalize hsg : sigM op = SG at *
  have HSG := veil hsg
  clear hsg
  cases h1 : ofM op == 2
  · cases h2 : SG == []
    · go_enter Tryz.func51, Tryz.ntmps51
      go_wp2_with (first
        | (go_at_call 52; refine (unveil HB).mono ?_; rintro e W1 ⟨rfl, hb1⟩; rw [h1]; have HB1 := veil hb1; clear hb1)
        | (go_at_call 40; refine (unveil HS _ (unveil HB1)).mono ?_; rintro e W2 ⟨rfl, hb2⟩; have HB2 := veil ((unveil HB1).trans (hb2.mono (unveil HB1).size)); clear hb2))
      go_ret
      refine ⟨?_, unveil HB2⟩
      first | rfl | simp [bne, h2]
    · go_enter Tryz.func51, Tryz.ntmps51
      go_wp2_with (first
        | (go_at_call 52; refine (unveil HB).mono ?_; rintro e W1 ⟨rfl, hb1⟩; rw [h1]; have HB1 := veil hb1; clear hb1)
        | (go_at_call 40; refine (unveil HS _ (unveil HB1)).mono ?_; rintro e W2 ⟨rfl, hb2⟩; have HB2 := veil ((unveil HB1).trans (hb2.mono (unveil HB1).size)); clear hb2))
      go_ret
      refine ⟨?_, unveil HB2⟩
      first | rfl | simp [bne, h2]
  · go_enter Tryz.func51, Tryz.ntmps51
    go_wp2_with (first
      | (go_at_call 52; refine (unveil HB).mono ?_; rintro e W1 ⟨rfl, hb1⟩; rw [h1]; have HB1 := veil hb1; clear hb1))
    go_ret
    refine ⟨?_, unveil HB1⟩
    first | rfl | simp
set_option maxRecDepth 100000 in
set_option maxHeartbeats 8000000 in
theorem opO_any (s : List UInt8) (w : World) (hO : Ops w) (hw : 0 < w.heap.size) :
    Calls Tryz.prog 97 #[.string ⟨s.toArray⟩, .func (.func 51) #[] #[]] w fun e w' => e = .returned (.int .i64 (opO s)) ∧ Below w.heap.size w w' := by
  have HB := veil (fun (op : Int) (W : World) (hb : Below w.heap.size w W) => ofOne_any op W (hO.below hb hw) (Nat.lt_of_lt_of_le hw hb.size))
  have HS := veil (fun (op : Int) (W : World) (hb : Below w.heap.size w W) => Sign_any op W (hO.below hb hw) (Nat.lt_of_lt_of_le hw hb.size))
  have HF : Hid (opO s = fstO (fun op => ofO op && (sigM op == s)) (18 - 1) ((1 : Nat) : Int)) := rfl
  clear hO hw
  go_enter Tryz.func97, Tryz.ntmps97
  go_upto_region 2 with fail
  go_loopg [5] 17 (fun gk iv wr => ∃ (i : Nat), gk = 18 - i ∧ iv = .int .i64 i ∧ 1 ≤ i ∧ i ≤ 18 ∧ Hid (Below w.heap.size w wr) ∧ Hid (opO s = fstO (fun op => ofO op && (sigM op == s)) (18 - i) (i : Int)))
  case atStart => exact ⟨1, rfl, rfl, Nat.le_refl _, by omega, Below.refl _ _, HF⟩
  case round =>
    rename World => wr
    obtain ⟨i, rfl, rfl, hi1, hi2, hb, hF⟩ := hrel
    by_cases hi : i ≤ 17
    · have hii : (i : Int) ≤ 17 := by omega
      have hF' := unveil hF
      rw [show 18 - i = (18 - (i + 1)) + 1 by omega, fstO] at hF'
      have HF2 := veil hF'
      clear hF'
      cases h1 : ofO i
      · have HFN : Hid (opO s = fstO (fun op => ofO op && (sigM op == s)) (18 - (i + 1)) ((i + 1 : Nat) : Int)) := by
          have := unveil HF2
          rw [h1] at this
          show _ = _
          simpa using this
        go_wp2_with (go_at_call 51; refine (unveil HB _ _ (unveil hb)).mono ?_; rintro e W1 ⟨rfl, h1'⟩; have hb1 := veil ((unveil hb).trans (h1'.mono (unveil hb).size)); clear h1')
        go_roundg (18 - (i + 1))
        case measure => omega
        case rel => exact ⟨i + 1, rfl, by go_num, by omega, by omega, hb1, HFN⟩
      · cases h2 : sigM i == s
        · have HFN : Hid (opO s = fstO (fun op => ofO op && (sigM op == s)) (18 - (i + 1)) ((i + 1 : Nat) : Int)) := by
            have := unveil HF2
            rw [h1, h2] at this
            show _ = _
            simpa using this
          generalize hsg : sigM i = SG at *
          go_wp2_with (first
            | (go_at_call 51; refine (unveil HB _ _ (unveil hb)).mono ?_; rintro e W1 ⟨rfl, h1'⟩; have hb1 := veil ((unveil hb).trans (h1'.mono (unveil hb).size)); clear h1')
            | (go_at_call 40; refine (unveil HS _ _ (unveil hb1)).mono ?_; rintro e W2 ⟨rfl, h2'⟩; have hb2 := veil ((unveil hb1).trans (h2'.mono (unveil hb1).size)); clear h2'; rw [hsg]))
          go_roundg (18 - (i + 1))
          case measure => omega
          case rel => exact ⟨i + 1, rfl, by go_num, by omega, by omega, hb2, HFN⟩
        · have HFN : Hid (opO s = (i : Int)) := by
            have := unveil HF2
            rw [h1, h2] at this
            show _ = _
            simpa using this
          generalize hsg : sigM i = SG at *
          go_wp2_with (first
            | (go_at_call 51; refine (unveil HB _ _ (unveil hb)).mono ?_; rintro e W1 ⟨rfl, h1'⟩; have hb1 := veil ((unveil hb).trans (h1'.mono (unveil hb).size)); clear h1')
            | (go_at_call 40; refine (unveil HS _ _ (unveil hb1)).mono ?_; rintro e W2 ⟨rfl, h2'⟩; have hb2 := veil ((unveil hb1).trans (h2'.mono (unveil hb1).size)); clear h2'; rw [hsg]))
          go_ret
          exact ⟨by rw [unveil HFN]; rfl, unveil hb2⟩
    · have hii : ¬ (i : Int) ≤ 17 := by omega
      have HFN : Hid (opO s = 0) := by
        have := unveil hF
        rw [show 18 - i = 0 by omega, fstO] at this
        exact this
      go_wp2_with fail
      go_ret
      exact ⟨by rw [unveil HFN]; rfl, unveil hb⟩
end Go.Proofs.YtmpkgjonbjpohaaGreatDoor
namespace Go.Proofs.YtmpkgjonbjpohaaGreatDoor
open Go Go.RowKit
set_option linter.unusedVariables false
set_option linter.unusedSimpArgs false

def setOp (x : PE) (op : Int) : PE := .mk x.is op x.k x.v x.nm x.l x.line
theorem Kids.op {W : World} {K : Nat → Prop} {x : PE} {q : Option Addr} (h : Kids W K x q) (op : Int) : Kids W K (setOp x op) q := Kids.of (by
  have := Kids.list h
  exact this)
def zeC : Array Value := #[.int .i64 0, .int .i64 0, .int .i64 0, .int .i64 0, .string ⟨#[]⟩, .slice none 0 0, .int .i64 0]
theorem ex_cells {W : World} {b : Nat} {c0 c1 c2 c3 c4 c5 c6 : Value} (h : Bk W b 24 #[c0, c1, c2, c3, c4, c5, c6]) : (W.cell? ⟨b, 0, none⟩ = some c0 ∧ W.cell? ⟨b, 1, none⟩ = some c1 ∧ W.cell? ⟨b, 2, none⟩ = some c2 ∧ W.cell? ⟨b, 3, none⟩ = some c3 ∧ W.cell? ⟨b, 4, none⟩ = some c4 ∧ W.cell? ⟨b, 5, none⟩ = some c5 ∧ W.cell? ⟨b, 6, none⟩ = some c6) ∧ b < W.heap.size ∧ (W.frozen? ⟨b, 0, none⟩ = false ∧ W.frozen? ⟨b, 1, none⟩ = false ∧ W.frozen? ⟨b, 2, none⟩ = false ∧ W.frozen? ⟨b, 3, none⟩ = false ∧ W.frozen? ⟨b, 4, none⟩ = false ∧ W.frozen? ⟨b, 5, none⟩ = false ∧ W.frozen? ⟨b, 6, none⟩ = false) :=
  ⟨⟨h.cell 0, h.cell 1, h.cell 2, h.cell 3, h.cell 4, h.cell 5, h.cell 6⟩, h.lt, ⟨h.frozen 0, h.frozen 1, h.frozen 2, h.frozen 3, h.frozen 4, h.frozen 5, h.frozen 6⟩⟩
/-- An expression is put into its box. -/
theorem ex_put {W : World} {b : Nat} {c0 c1 c2 c3 c4 c5 c6 : Value} (h : Bk W b 24 #[c0, c1, c2, c3, c4, c5, c6]) (a0 a1 a2 a3 a4 a5 a6 : Value) : ∀ W', W' = (((((((W.setCell ⟨b, 0, none⟩ a0).setCell ⟨b, 1, none⟩ a1).setCell ⟨b, 2, none⟩ a2).setCell ⟨b, 3, none⟩ a3).setCell ⟨b, 4, none⟩ a4).setCell ⟨b, 5, none⟩ a5).setCell ⟨b, 6, none⟩ a6) →
    Bk W' b 24 #[a0, a1, a2, a3, a4, a5, a6] ∧ (∀ n, n ≤ b → Below n W W') ∧ (∀ (j : Nat) (o : Obj), j ≠ b → W.heap[j]? = some o → W'.heap[j]? = some o) ∧ W'.heap.size = W.heap.size := fun W' e => by
  have z0 : Bk (W.setCell ⟨b, 0, none⟩ a0) b 24 #[a0, c1, c2, c3, c4, c5, c6] := h.set 0 _
  have z1 : Bk ((W.setCell ⟨b, 0, none⟩ a0).setCell ⟨b, 1, none⟩ a1) b 24 #[a0, a1, c2, c3, c4, c5, c6] := z0.set 1 _
  have z2 : Bk (((W.setCell ⟨b, 0, none⟩ a0).setCell ⟨b, 1, none⟩ a1).setCell ⟨b, 2, none⟩ a2) b 24 #[a0, a1, a2, c3, c4, c5, c6] := z1.set 2 _
  have z3 : Bk ((((W.setCell ⟨b, 0, none⟩ a0).setCell ⟨b, 1, none⟩ a1).setCell ⟨b, 2, none⟩ a2).setCell ⟨b, 3, none⟩ a3) b 24 #[a0, a1, a2, a3, c4, c5, c6] := z2.set 3 _
  have z4 : Bk (((((W.setCell ⟨b, 0, none⟩ a0).setCell ⟨b, 1, none⟩ a1).setCell ⟨b, 2, none⟩ a2).setCell ⟨b, 3, none⟩ a3).setCell ⟨b, 4, none⟩ a4) b 24 #[a0, a1, a2, a3, a4, c5, c6] := z3.set 4 _
  have z5 : Bk ((((((W.setCell ⟨b, 0, none⟩ a0).setCell ⟨b, 1, none⟩ a1).setCell ⟨b, 2, none⟩ a2).setCell ⟨b, 3, none⟩ a3).setCell ⟨b, 4, none⟩ a4).setCell ⟨b, 5, none⟩ a5) b 24 #[a0, a1, a2, a3, a4, a5, c6] := z4.set 5 _
  have z6 : Bk (((((((W.setCell ⟨b, 0, none⟩ a0).setCell ⟨b, 1, none⟩ a1).setCell ⟨b, 2, none⟩ a2).setCell ⟨b, 3, none⟩ a3).setCell ⟨b, 4, none⟩ a4).setCell ⟨b, 5, none⟩ a5).setCell ⟨b, 6, none⟩ a6) b 24 #[a0, a1, a2, a3, a4, a5, a6] := z5.set 6 _
  refine ⟨by rw [e]; exact z6, fun n hn => ?_, fun j o hj hb => ?_, by rw [e]; simp⟩
  · rw [e]
    have s : ∀ (X : World) i v, Below n W X → Below n W (X.setCell ⟨b, i, none⟩ v) := fun X i v hx => hx.setCell (p := ⟨b, i, none⟩) hn v
    exact s _ _ _ (s _ _ _ (s _ _ _ (s _ _ _ (s _ _ _ (s _ _ _ (s _ _ _ (Below.refl _ _)))))))
  · rw [e]
    have s : ∀ (X : World) i v, X.heap[j]? = some o → (X.setCell ⟨b, i, none⟩ v).heap[j]? = some o := fun X i v hx => (Below.heap_setCell X ⟨b, i, none⟩ v j hj).trans hx
    exact s _ _ _ (s _ _ _ (s _ _ _ (s _ _ _ (s _ _ _ (s _ _ _ (s _ _ _ hb))))))
set_option maxRecDepth 100000 in
set_option maxHeartbeats 8000000 in
theorem not_any (op : Int) (x : PE) (q : Option Addr) (c : Nat) (w : World) :
    Calls Tryz.prog 123 #[.int .i64 op, .agg (exC x q c)] w fun e w' => ∃ g, e = .returned (.agg (exC (.mk 3 17 0 0 [] [setOp x op] x.line) (some ⟨g, 0, none⟩) 1)) ∧ w.heap.size ≤ g ∧ Bk w' g 24 (exC (setOp x op) q c) ∧ Below w.heap.size w w' := by
  obtain ⟨a, b, cc, d, s, l, ln⟩ := x
  unfold exC
  simp only [PE.is, PE.op, PE.k, PE.v, PE.nm, PE.l, PE.line, setOp]
  have HX0 : Hid (Bk ((w.alloc (.cells #[.int .i64 a, .int .i64 b, .int .i64 cc, .int .i64 d, .string ⟨s.toArray⟩, .slice q l.length c, .int .i64 ln] 24)).alloc (.cells #[.int .i64 0, .int .i64 0, .int .i64 0, .int .i64 0, .string ⟨#[]⟩, .slice none 0 0, .int .i64 0] 24)) w.heap.size 24 #[.int .i64 a, .int .i64 b, .int .i64 cc, .int .i64 d, .string ⟨s.toArray⟩, .slice q l.length c, .int .i64 ln]) := (Bk.new w _ _).alloc _
  have HZ0 : Hid (Bk ((w.alloc (.cells #[.int .i64 a, .int .i64 b, .int .i64 cc, .int .i64 d, .string ⟨s.toArray⟩, .slice q l.length c, .int .i64 ln] 24)).alloc (.cells #[.int .i64 0, .int .i64 0, .int .i64 0, .int .i64 0, .string ⟨#[]⟩, .slice none 0 0, .int .i64 0] 24)) (w.heap.size + 1) 24 #[.int .i64 0, .int .i64 0, .int .i64 0, .int .i64 0, .string ⟨#[]⟩, .slice none 0 0, .int .i64 0]) := by
    have := Bk.new (w.alloc (.cells #[.int .i64 a, .int .i64 b, .int .i64 cc, .int .i64 d, .string ⟨s.toArray⟩, .slice q l.length c, .int .i64 ln] 24)) 24 #[.int .i64 0, .int .i64 0, .int .i64 0, .int .i64 0, .string ⟨#[]⟩, .slice none 0 0, .int .i64 0]
    rw [World.size_alloc] at this
    exact this
  have HB0 : Hid (Below w.heap.size w ((w.alloc (.cells #[.int .i64 a, .int .i64 b, .int .i64 cc, .int .i64 d, .string ⟨s.toArray⟩, .slice q l.length c, .int .i64 ln] 24)).alloc (.cells #[.int .i64 0, .int .i64 0, .int .i64 0, .int .i64 0, .string ⟨#[]⟩, .slice none 0 0, .int .i64 0] 24))) := ((Below.refl _ w).alloc (Nat.le_refl _) _).alloc (by simp) _
  go_enter Tryz.func123, Tryz.ntmps123
  go_upto_region 1 with fail
  generalize ((w.alloc (.cells #[.int .i64 a, .int .i64 b, .int .i64 cc, .int .i64 d, .string ⟨s.toArray⟩, .slice q l.length c, .int .i64 ln] 24)).alloc (.cells #[.int .i64 0, .int .i64 0, .int .i64 0, .int .i64 0, .string ⟨#[]⟩, .slice none 0 0, .int .i64 0] 24)) = W0 at *
  obtain ⟨⟨x0, x1, x2, x3, x4, x5, x6⟩, xl, ⟨g0, g1, g2, g3, g4, g5, g6⟩⟩ := ex_cells (unveil HX0)
  go_upto_region 2 with fail
  have HX1 : Hid (Bk (W0.setCell ⟨w.heap.size, 1, none⟩ (.int .i64 op)) w.heap.size 24 #[.int .i64 a, .int .i64 op, .int .i64 cc, .int .i64 d, .string ⟨s.toArray⟩, .slice q l.length c, .int .i64 ln]) := (unveil HX0).set 1 _
  have HZ1 := veil ((unveil HZ0).other 1 (.int .i64 op) (show w.heap.size + 1 ≠ w.heap.size by omega))
  have HB1 := veil ((unveil HB0).setCell (p := ⟨w.heap.size, 1, none⟩) (Nat.le_refl _) (.int .i64 op))
  clear x0 x1 x2 x3 x4 x5 x6 xl g0 g1 g2 g3 g4 g5 g6 HX0 HZ0 HB0
  generalize (W0.setCell ⟨w.heap.size, 1, none⟩ (.int .i64 op)) = W1 at *
  obtain ⟨⟨x0, x1, x2, x3, x4, x5, x6⟩, xl, _⟩ := ex_cells (unveil HX1)
  obtain ⟨⟨z0, z1, z2, z3, z4, z5, z6⟩, zl, ⟨g0, g1, g2, g3, g4, g5, g6⟩⟩ := ex_cells (unveil HZ1)
  go_wp2_with fail
  obtain ⟨r1, r2, r3, r4⟩ := ex_put (unveil HZ1) (.int .i64 3) (.int .i64 17) (.int .i64 0) (.int .i64 0) (.string ⟨#[]⟩) (.slice (some ⟨W1.heap.size, 0, none⟩) 1 1) (.int .i64 ln) _ rfl
  have hB3 := ((unveil HB1).trans (r2 w.heap.size (by omega))).alloc (by rw [r4]; exact (unveil HB1).size) (.cells #[.int .i64 a, .int .i64 op, .int .i64 cc, .int .i64 d, .string ⟨s.toArray⟩, .slice q l.length c, .int .i64 ln] 24)
  have hL := Bk.new (((((((W1.setCell ⟨w.heap.size + 1, 0, none⟩ (.int .i64 3)).setCell ⟨w.heap.size + 1, 1, none⟩ (.int .i64 17)).setCell ⟨w.heap.size + 1, 2, none⟩ (.int .i64 0)).setCell ⟨w.heap.size + 1, 3, none⟩ (.int .i64 0)).setCell ⟨w.heap.size + 1, 4, none⟩ (.string ⟨#[]⟩)).setCell ⟨w.heap.size + 1, 5, none⟩ (.slice (some ⟨W1.heap.size, 0, none⟩) 1 1)).setCell ⟨w.heap.size + 1, 6, none⟩ (.int .i64 ln)) 24 #[.int .i64 a, .int .i64 op, .int .i64 cc, .int .i64 d, .string ⟨s.toArray⟩, .slice q l.length c, .int .i64 ln]
  rw [r4] at hL
  refine bodyPost_ret (res_e1 (f := Tryz.f123) rfl rfl (r1.alloc _) rfl) rfl ⟨W1.heap.size, rfl, (unveil HB1).size, hL, hB3⟩
end Go.Proofs.YtmpkgjonbjpohaaGreatDoor
namespace Go.Proofs.YtmpkgjonbjpohaaGreatDoor
open Go Go.RowKit
set_option linter.unusedVariables false
set_option linter.unusedSimpArgs false

theorem res_wd {f : Func} {k : Nat} {tmps : Array Value} {w : World} {R : Nat} {cs : Array Value} (hr : f.results = #[.cell k 42]) (hp : tmps.getD k undef = .pointer (some ⟨R, 0, none⟩)) (hg : w.heap[R]? = some (.cells cs 42 (0, 0))) (hz : cs.size = 6) :
    (results f tmps).run Tryz.prog w = .ok (.agg cs) w := by
  have hi : (Tryz.prog.info? 42).map (·.size) = some cs.size := by rw [hz]; kernel_rfl
  have hp' : tmps[k]?.getD undef = .pointer (some ⟨R, 0, none⟩) := by simpa using hp
  simp [results, hr, hp', asAddr, run_loadVar_row w R 42 42 cs (0, 0) _ hg Tryz.underlying42 rfl hi]
/-- A word is put into its box. -/
theorem wd_put {W : World} {b : Nat} {c0 c1 c2 c3 c4 c5 : Value} (h : Bk W b 42 #[c0, c1, c2, c3, c4, c5]) (a0 a1 a2 a3 a4 a5 : Value) : ∀ W', W' = ((((((W.setCell ⟨b, 0, none⟩ a0).setCell ⟨b, 1, none⟩ a1).setCell ⟨b, 2, none⟩ a2).setCell ⟨b, 3, none⟩ a3).setCell ⟨b, 4, none⟩ a4).setCell ⟨b, 5, none⟩ a5) →
    Bk W' b 42 #[a0, a1, a2, a3, a4, a5] ∧ (∀ n, n ≤ b → Below n W W') ∧ (∀ (j : Nat) (o : Obj), j ≠ b → W.heap[j]? = some o → W'.heap[j]? = some o) ∧ W'.heap.size = W.heap.size := fun W' e => by
  have z0 : Bk (W.setCell ⟨b, 0, none⟩ a0) b 42 #[a0, c1, c2, c3, c4, c5] := h.set 0 _
  have z1 : Bk ((W.setCell ⟨b, 0, none⟩ a0).setCell ⟨b, 1, none⟩ a1) b 42 #[a0, a1, c2, c3, c4, c5] := z0.set 1 _
  have z2 : Bk (((W.setCell ⟨b, 0, none⟩ a0).setCell ⟨b, 1, none⟩ a1).setCell ⟨b, 2, none⟩ a2) b 42 #[a0, a1, a2, c3, c4, c5] := z1.set 2 _
  have z3 : Bk ((((W.setCell ⟨b, 0, none⟩ a0).setCell ⟨b, 1, none⟩ a1).setCell ⟨b, 2, none⟩ a2).setCell ⟨b, 3, none⟩ a3) b 42 #[a0, a1, a2, a3, c4, c5] := z2.set 3 _
  have z4 : Bk (((((W.setCell ⟨b, 0, none⟩ a0).setCell ⟨b, 1, none⟩ a1).setCell ⟨b, 2, none⟩ a2).setCell ⟨b, 3, none⟩ a3).setCell ⟨b, 4, none⟩ a4) b 42 #[a0, a1, a2, a3, a4, c5] := z3.set 4 _
  have z5 : Bk ((((((W.setCell ⟨b, 0, none⟩ a0).setCell ⟨b, 1, none⟩ a1).setCell ⟨b, 2, none⟩ a2).setCell ⟨b, 3, none⟩ a3).setCell ⟨b, 4, none⟩ a4).setCell ⟨b, 5, none⟩ a5) b 42 #[a0, a1, a2, a3, a4, a5] := z4.set 5 _
  refine ⟨by rw [e]; exact z5, fun n hn => ?_, fun j o hj hb => ?_, by rw [e]; simp⟩
  · rw [e]
    have s : ∀ (X : World) i v, Below n W X → Below n W (X.setCell ⟨b, i, none⟩ v) := fun X i v hx => hx.setCell (p := ⟨b, i, none⟩) hn v
    exact s _ _ _ (s _ _ _ (s _ _ _ (s _ _ _ (s _ _ _ (s _ _ _ (Below.refl _ _))))))
  · rw [e]
    have s : ∀ (X : World) i v, X.heap[j]? = some o → (X.setCell ⟨b, i, none⟩ v).heap[j]? = some o := fun X i v hx => (Below.heap_setCell X ⟨b, i, none⟩ v j hj).trans hx
    exact s _ _ _ (s _ _ _ (s _ _ _ (s _ _ _ (s _ _ _ (s _ _ _ hb)))))
/-- A box of another type is turned that the reader doesn't know. -/
theorem RdX.late {W : World} {R : Nat} {wv : Value} {ws : List Wd} {tw crv : Value} {p : Nat} {x : Wd} {cr : List Int} (h : RdX W R wv ws tw crv p x cr) {W' : World} {b : Nat} {T : TypeId} {cs : Array Value} (hb : R < b) (hT : Bk W b T cs) (hne : T ≠ 3) (hk : ∀ (j : Nat) (o : Obj), j ≠ b → W.heap[j]? = some o → W'.heap[j]? = some o) (hB : ∀ n, n ≤ b → Below n W W') : RdX W' R wv ws tw crv p x cr :=
  ⟨hk R _ (by omega) h.b, row_kept h.r (fun g cur _ hg => hk g _ (fun e => by
    subst e
    have : W.heap[g]? = some (.cells cs T (0, 0)) := hT
    rw [this] at hg
    simp at hg
    exact hne hg.2) hg), h.wd.below (hB R (by omega)), h.gl.below (hB R (by omega)) h.gm, h.op.below (hB R (by omega)) (by have := h.gm; show 0 < _; omega), h.mo.below (hB R (by omega)) h.gm, h.gm⟩
theorem FrE.late {R : Nat} {A B B' : World} {b : Nat} (h : FrE R A B) (hb : A.heap.size ≤ b) (hR : R ≤ b) (hk : ∀ (j : Nat) (o : Obj), j ≠ b → B.heap[j]? = some o → B'.heap[j]? = some o) (hB : ∀ n, n ≤ b → Below n B B') : FrE R A B' :=
  ⟨h.be.trans (hB R hR), fun i cs T fz h1 h2 h3 => hk i _ (by have := (Array.getElem?_eq_some_iff.1 h3).1; omega) (h.bk i cs T fz h1 h2 h3)⟩
set_option maxRecDepth 100000 in
set_option maxHeartbeats 8000000 in
theorem etake_any {W : World} {R : Nat} {wv : Value} {ws : List Wd} {tw crv : Value} {p : Nat} {x : Wd} {cr : List Int} (h : RdX W R wv ws tw crv p x cr) (hq : p < ws.length) (hl : ws.length ≤ 1000000) (hws : ∀ y ∈ ws, y.s.length ≤ 140737488355328) :
    Calls Tryz.prog 66 #[.pointer (some ⟨R, 0, none⟩)] W fun e W' => e = .returned (wdV x) ∧ FrE R W W' ∧ RdX W' R wv ws tw crv (p + 1) (nxt ws (p + 1)) cr := by
  have hlt := h.b.lt
  have HST := veil (fun (V : World) (hv : RdX V R wv ws tw crv p x cr) => stand_any hv (p + 1) (by omega) hl hws)
  obtain ⟨xk, xs, xv, xt, xf, xl⟩ := x
  unfold wdV wdC
  have hb0 : Below W.heap.size W ((W.alloc (.cells #[.int .i64 0, .string ⟨#[]⟩, .int .i64 0, .int .i64 0, .string ⟨#[]⟩, .int .i64 0] 42)).alloc (.cells #[.int .i64 xk, .string ⟨xs.toArray⟩, .int .i64 xv, .int .i64 xt, .string ⟨xf.toArray⟩, .int .i64 xl] 42)) := ((Below.refl _ W).alloc (Nat.le_refl _) _).alloc (by simp) _
  have HB0 := veil hb0
  have HX0 := veil (h.below hb0)
  have HZ0 : Hid (Bk ((W.alloc (.cells #[.int .i64 0, .string ⟨#[]⟩, .int .i64 0, .int .i64 0, .string ⟨#[]⟩, .int .i64 0] 42)).alloc (.cells #[.int .i64 xk, .string ⟨xs.toArray⟩, .int .i64 xv, .int .i64 xt, .string ⟨xf.toArray⟩, .int .i64 xl] 42)) W.heap.size 42 #[.int .i64 0, .string ⟨#[]⟩, .int .i64 0, .int .i64 0, .string ⟨#[]⟩, .int .i64 0]) := (Bk.new W _ _).alloc _
  have HW0 : Hid (Bk ((W.alloc (.cells #[.int .i64 0, .string ⟨#[]⟩, .int .i64 0, .int .i64 0, .string ⟨#[]⟩, .int .i64 0] 42)).alloc (.cells #[.int .i64 xk, .string ⟨xs.toArray⟩, .int .i64 xv, .int .i64 xt, .string ⟨xf.toArray⟩, .int .i64 xl] 42)) (W.heap.size + 1) 42 #[.int .i64 xk, .string ⟨xs.toArray⟩, .int .i64 xv, .int .i64 xt, .string ⟨xf.toArray⟩, .int .i64 xl]) := by
    have := Bk.new (W.alloc (.cells #[.int .i64 0, .string ⟨#[]⟩, .int .i64 0, .int .i64 0, .string ⟨#[]⟩, .int .i64 0] 42)) 42 #[.int .i64 xk, .string ⟨xs.toArray⟩, .int .i64 xv, .int .i64 xt, .string ⟨xf.toArray⟩, .int .i64 xl]
    rw [World.size_alloc] at this
    exact this
  clear hb0
  obtain ⟨⟨c0, c1, c2, c3, c4, c5, c6, c7, c8, c9⟩, hlr, _⟩ := h.cells
  clear h
  go_enter Tryz.func66, Tryz.ntmps66
  go_upto_region 2 with fail
  clear c0 c1 c2 c3 c4 c5 c6 c7 c8 c9 hlr
  generalize ((W.alloc (.cells #[.int .i64 0, .string ⟨#[]⟩, .int .i64 0, .int .i64 0, .string ⟨#[]⟩, .int .i64 0] 42)).alloc (.cells #[.int .i64 xk, .string ⟨xs.toArray⟩, .int .i64 xv, .int .i64 xt, .string ⟨xf.toArray⟩, .int .i64 xl] 42)) = W0 at *
  obtain ⟨⟨c0, c1, c2, c3, c4, c5, c6, c7, c8, c9⟩, hlr, _⟩ := (unveil HX0).cells
  have HS2 := veil (unveil HST W0 (unveil HX0))
  have hpp : ((p + 1 : Nat) : Int) = (p : Int) + 1 := by omega
  rw [hpp] at HS2
  go_upto_region 3 with (go_at_call 62; refine (unveil HS2).mono ?_; rintro e W2 ⟨⟨r, rfl⟩, hf2, hx2⟩; have HF2 := veil hf2; have HX2 := veil hx2; have HZ2 := veil (hf2.box (unveil HZ0) (by decide) (by omega)); have HW2 := veil (hf2.box (unveil HW0) (by decide) (by omega)); clear hf2 hx2)
  clear c0 c1 c2 c3 c4 c5 c6 c7 c8 c9 hlr
  have w0 := (unveil HW2).cell 0
  have w1 := (unveil HW2).cell 1
  have w2 := (unveil HW2).cell 2
  have w3 := (unveil HW2).cell 3
  have w4 := (unveil HW2).cell 4
  have w5 := (unveil HW2).cell 5
  have wl := (unveil HW2).lt
  have z0 := (unveil HZ2).cell 0
  have z1 := (unveil HZ2).cell 1
  have z2 := (unveil HZ2).cell 2
  have z3 := (unveil HZ2).cell 3
  have z4 := (unveil HZ2).cell 4
  have z5 := (unveil HZ2).cell 5
  have g0 := (unveil HZ2).frozen 0
  have g1 := (unveil HZ2).frozen 1
  have g2 := (unveil HZ2).frozen 2
  have g3 := (unveil HZ2).frozen 3
  have g4 := (unveil HZ2).frozen 4
  have g5 := (unveil HZ2).frozen 5
  have zl := (unveil HZ2).lt
  simp only [List.getElem?_toArray, List.getElem?_cons_zero, List.getElem?_cons_succ] at w0 w1 w2 w3 w4 w5 z0 z1 z2 z3 z4 z5
  go_wp2_with fail
  obtain ⟨r1, r2, r3, r4⟩ := wd_put (unveil HZ2) (.int .i64 xk) (.string ⟨xs.toArray⟩) (.int .i64 xv) (.int .i64 xt) (.string ⟨xf.toArray⟩) (.int .i64 xl) _ rfl
  exact bodyPost_ret (res_wd (f := Tryz.f66) rfl rfl r1 rfl) rfl ⟨rfl, FrE.late ((FrE.below (unveil HB0) (Nat.le_of_lt hlt)).trans (unveil HF2)) (Nat.le_refl _) (Nat.le_of_lt hlt) r3 r2, (unveil HX2).late hlt (unveil HZ2) (by decide) r3 r2⟩
theorem sg_in {ws : List Wd} {p : Nat} (h : sgW (nxt ws p) ≠ []) : p < ws.length := by
  rcases Nat.lt_or_ge p ws.length with h1 | h1
  · exact h1
  · exfalso
    refine h ?_
    unfold nxt
    rw [List.getElem?_eq_none h1]
    rfl
set_option maxRecDepth 100000 in
set_option maxHeartbeats 8000000 in
theorem skip_any {W : World} {R : Nat} {wv : Value} {ws : List Wd} {tw crv : Value} {p : Nat} {cr : List Int} (h : RdX W R wv ws tw crv p (nxt ws p) cr) (s : List UInt8) (hs : s ≠ []) (hl : ws.length ≤ 1000000) (hws : ∀ y ∈ ws, y.s.length ≤ 140737488355328) :
    Calls Tryz.prog 67 #[.pointer (some ⟨R, 0, none⟩), .string ⟨s.toArray⟩] W fun e W' => e = .returned (.bool (sgW (nxt ws p) == s)) ∧ FrE R W W' ∧ RdX W' R wv ws tw crv (if (sgW (nxt ws p) == s) = true then p + 1 else p) (nxt ws (if (sgW (nxt ws p) == s) = true then p + 1 else p)) cr := by
  have HX := veil h
  have HSG := veil (sign_any h)
  have HTK := veil (fun (hp : p < ws.length) => etake_any h hp hl hws)
  have HIN := veil (@sg_in ws p)
  clear h
  cases hc : sgW (nxt ws p) == s
  · simp only [Bool.false_eq_true, if_false]
    generalize sgW (nxt ws p) = S at *
    have hc' : (S != s) = true := by simp only [bne, hc]; rfl
    go_enter Tryz.func67, Tryz.ntmps67
    go_wp2_with (go_at_call 65; refine (unveil HSG).mono ?_; rintro e W2 ⟨rfl, hw'⟩; obtain rfl := hw'.symm)
    go_ret
    exact ⟨rfl, FrE.refl _ _, unveil HX⟩
  · simp only [if_true]
    have HT2 := veil (unveil HTK (unveil HIN (by
      have : sgW (nxt ws p) = s := by simpa using hc
      rw [this]
      exact hs)))
    clear HTK HIN
    generalize hS : sgW (nxt ws p) = S at *
    have hc' : (S != s) = false := by simp only [bne, hc]; rfl
    clear hS
    go_enter Tryz.func67, Tryz.ntmps67
    go_wp2_with (first
      | (go_at_call 65; refine (unveil HSG).mono ?_; rintro e W2 ⟨rfl, hw'⟩; obtain rfl := hw'.symm)
      | (go_at_call 66; refine (unveil HT2).mono ?_; rintro e W2 ⟨rfl, hf2, hx2⟩; have HF2 := veil hf2; have HX2 := veil hx2; clear hf2 hx2))
    go_ret
    exact ⟨rfl, unveil HF2, unveil HX2⟩
set_option maxRecDepth 100000 in
set_option maxHeartbeats 8000000 in
theorem atKind_any {W : World} {R : Nat} {wv : Value} {ws : List Wd} {tw crv : Value} {p : Nat} {x : Wd} {cr : List Int} (h : RdX W R wv ws tw crv p x cr) :
    Calls Tryz.prog 99 #[.pointer (some ⟨R, 0, none⟩)] W fun e W' => e = .returned (.bool (akW x)) ∧ Below W.heap.size W W' := by
  obtain ⟨⟨c0, c1, c2, c3, c4, c5, c6, c7, c8, c9⟩, hlr, _⟩ := h.cells
  have HOF : Hid (∀ V, V = W.alloc (.cells #[.string ⟨x.s.toArray⟩] 9) → Calls Tryz.prog 125 #[.slice (some ⟨W.heap.size, 0, none⟩) 1 1] V fun e w' => e = .returned (.tuple #[.int .i64 (kofM [x.s]).1, .int .i64 (kofM [x.s]).2]) ∧ Below V.heap.size V w') := fun V e => by
    subst e
    have hb : Below W.heap.size W (W.alloc (.cells #[.string ⟨x.s.toArray⟩] 9)) := (Below.refl _ W).alloc (Nat.le_refl _) _
    refine Of_any (some ⟨W.heap.size, 0, none⟩) 1 [x.s] _ (by simp) ⟨_, _, rfl, fun i hi => ?_⟩ (h.below hb).mo (h.below hb).gl.size
    obtain rfl : i = 0 := by simpa using hi
    refine ⟨W.heap.size, 0, rfl, by simp, ?_⟩
    exact (Bk.new W 9 #[.string ⟨x.s.toArray⟩]).cell 0
  have HX := veil h
  have hb : Hid (Below W.heap.size W (W.alloc (.cells #[.string ⟨x.s.toArray⟩] 9))) := (Below.refl _ W).alloc (Nat.le_refl _) _
  have HX1 := veil (h.below (unveil hb))
  have HO1 := veil (unveil HOF _ rfl)
  clear h HOF
  unfold akW
  generalize kofM [x.s] = KO at *
  obtain ⟨ko, ke⟩ := KO
  simp only at HO1 ⊢
  cases hk : x.kind == 1
  · go_enter Tryz.func99, Tryz.ntmps99
    go_wp2_with (go_at_call 125; refine (unveil HO1).mono ?_; rintro e W2 ⟨rfl, hb2⟩; have HB2 := veil ((unveil hb).trans (hb2.mono (unveil hb).size)); have HX2 := veil ((unveil HX1).below hb2); clear c0 c1 c2 c3 c4 c5 c6 c7 c8 c9 hlr hb2; obtain ⟨⟨c0, c1, c2, c3, c4, c5, c6, c7, c8, c9⟩, hlr, _⟩ := (unveil HX2).cells)
    go_ret
    exact ⟨rfl, unveil HB2⟩
  · go_enter Tryz.func99, Tryz.ntmps99
    go_wp2_with (go_at_call 125; refine (unveil HO1).mono ?_; rintro e W2 ⟨rfl, hb2⟩; have HB2 := veil ((unveil hb).trans (hb2.mono (unveil hb).size)); have HX2 := veil ((unveil HX1).below hb2); clear c0 c1 c2 c3 c4 c5 c6 c7 c8 c9 hlr hb2; obtain ⟨⟨c0, c1, c2, c3, c4, c5, c6, c7, c8, c9⟩, hlr, _⟩ := (unveil HX2).cells)
    go_ret
    exact ⟨by simp, unveil HB2⟩
end Go.Proofs.YtmpkgjonbjpohaaGreatDoor
namespace Go.Proofs.YtmpkgjonbjpohaaGreatDoor
open Go Go.RowKit
set_option linter.unusedVariables false
set_option linter.unusedSimpArgs false

/-- The boxes of joined: word, parts, answer; then the list and the whole. -/
structure JoS (w W : World) (wc ac bc zc : Array Value) : Prop where
  x : Bk W w.heap.size 42 wc
  a : Bk W (w.heap.size + 1) 24 ac
  b : Bk W (w.heap.size + 1 + 1) 24 bc
  z : Bk W (w.heap.size + 1 + 1 + 1) 24 zc
  be : Below w.heap.size w W
theorem JoS.below {w W W' : World} {wc ac bc zc : Array Value} (h : JoS w W wc ac bc zc) (hb : Below W.heap.size W W') : JoS w W' wc ac bc zc := ⟨h.x.below hb, h.a.below hb, h.b.below hb, h.z.below hb, h.be.trans (hb.mono h.be.size)⟩
theorem JoS.new (w : World) (wc ac bc zc : Array Value) : JoS w ((((w.alloc (.cells wc 42)).alloc (.cells ac 24)).alloc (.cells bc 24)).alloc (.cells zc 24)) wc ac bc zc := by
  have h0 := Bk.new w 42 wc
  have h1 := Bk.new (w.alloc (.cells wc 42)) 24 ac
  have h2 := Bk.new ((w.alloc (.cells wc 42)).alloc (.cells ac 24)) 24 bc
  have h3 := Bk.new (((w.alloc (.cells wc 42)).alloc (.cells ac 24)).alloc (.cells bc 24)) 24 zc
  rw [World.size_alloc] at h1
  rw [World.size_alloc, World.size_alloc] at h2
  rw [World.size_alloc, World.size_alloc, World.size_alloc] at h3
  exact ⟨((h0.alloc _).alloc _).alloc _, (h1.alloc _).alloc _, h2.alloc _, h3, (((((Below.refl _ w).alloc (Nat.le_refl _) _).alloc (by simp) _).alloc (by simp; omega) _).alloc (by simp; omega) _)⟩
set_option maxRecDepth 100000 in
set_option maxHeartbeats 16000000 in
theorem joined_any (x : Wd) (a b : PE) (p q : Option Addr) (c d : Nat) (w : World) (K : Nat → Prop) (hO : Ops w) (hw : 0 < w.heap.size) (ha : Kids w K a p) (hb : Kids w K b q) :
    Calls Tryz.prog 96 #[wdV x, .agg (exC a p c), .agg (exC b q d)] w fun e w' => ∃ q' c', e = .returned (.agg (exC (joiP x a b) q' c')) ∧ Kids w' (fun g => K g ∨ w.heap.size ≤ g) (joiP x a b) q' ∧ Below w.heap.size w w' := by
  have HOP := veil (fun (s : List UInt8) (W : World) (hb : Below w.heap.size w W) => opB_any s W (hO.below hb hw) (Nat.lt_of_lt_of_le hw hb.size))
  have HKA : Hid (∀ (W : World) (g : Nat), Below w.heap.size w W → w.heap.size ≤ g → Bk W g 24 (exC a p c ++ exC b q d) → KidL W (fun g => K g ∨ w.heap.size ≤ g) [a, b] (some ⟨g, 0, none⟩)) := fun W g hb' hg h => KidL.two h (.inr hg) ((ha.below hb').mono (fun _ _ h => .inl h)) ((hb.below hb').mono (fun _ _ h => .inl h))
  have HJ1 : Hid ((x.s == [38, 38]) = true → joiP x a b = .mk 5 0 0 0 [] [a, b] x.line) := fun h => by unfold joiP; rw [if_pos h]
  have HJ2 : Hid ((x.s == [38, 38]) = false → (x.s == [124, 124]) = true → joiP x a b = .mk 6 0 0 0 [] [a, b] x.line) := fun h h2 => by unfold joiP; rw [h, if_neg (by simp), if_pos h2]
  have HJ3 : Hid ((x.s == [38, 38]) = false → (x.s == [124, 124]) = false → (x.s == [62]) = true → joiP x a b = .mk 3 17 0 0 [] [.mk 4 12 0 0 [] [a, b] x.line] x.line) := fun h h2 h3 => by unfold joiP; rw [h, h2, if_neg (by simp), if_neg (by simp), if_pos h3]
  have HJ4 : Hid ((x.s == [38, 38]) = false → (x.s == [124, 124]) = false → (x.s == [62]) = false → (x.s == [62, 61]) = true → joiP x a b = .mk 3 17 0 0 [] [.mk 4 11 0 0 [] [a, b] x.line] x.line) := fun h h2 h3 h4 => by unfold joiP; rw [h, h2, h3, if_neg (by simp), if_neg (by simp), if_neg (by simp), if_pos h4]
  have HJ5 : Hid ((x.s == [38, 38]) = false → (x.s == [124, 124]) = false → (x.s == [62]) = false → (x.s == [62, 61]) = false → joiP x a b = .mk 4 (opB x.s) 0 0 [] [a, b] x.line) := fun h h2 h3 h4 => by unfold joiP; rw [h, h2, h3, h4, if_neg (by simp), if_neg (by simp), if_neg (by simp), if_neg (by simp)]
  clear hO hw ha hb
  generalize joiP x a b = J at *
  obtain ⟨wk, s, wv, wt, wf, ln⟩ := x
  have HNO : Hid (∀ (op : Int) (g : Nat) (W : World), Calls Tryz.prog 123 #[.int .i64 op, .agg (exC (.mk 4 0 0 0 [] [a, b] ln) (some ⟨g, 0, none⟩) 2)] W fun e w' => ∃ g', e = .returned (.agg (exC (.mk 3 17 0 0 [] [.mk 4 op 0 0 [] [a, b] ln] ln) (some ⟨g', 0, none⟩) 1)) ∧ W.heap.size ≤ g' ∧ Bk w' g' 24 (exC (.mk 4 op 0 0 [] [a, b] ln) (some ⟨g, 0, none⟩) 2) ∧ Below W.heap.size W w') := fun op g W => not_any op (.mk 4 0 0 0 [] [a, b] ln) (some ⟨g, 0, none⟩) 2 W
  obtain ⟨a0, a1, a2, a3, a4, a5, a6⟩ := a
  obtain ⟨b0, b1, b2, b3, b4, b5, b6⟩ := b
  unfold exC at *
  unfold wdV wdC
  simp only [PE.is, PE.op, PE.k, PE.v, PE.nm, PE.l, PE.line] at *
  have HS0 := veil (JoS.new w #[.int .i64 wk, .string ⟨s.toArray⟩, .int .i64 wv, .int .i64 wt, .string ⟨wf.toArray⟩, .int .i64 ln] #[.int .i64 a0, .int .i64 a1, .int .i64 a2, .int .i64 a3, .string ⟨a4.toArray⟩, .slice p a5.length c, .int .i64 a6] #[.int .i64 b0, .int .i64 b1, .int .i64 b2, .int .i64 b3, .string ⟨b4.toArray⟩, .slice q b5.length d, .int .i64 b6] #[.int .i64 0, .int .i64 0, .int .i64 0, .int .i64 0, .string ⟨#[]⟩, .slice none 0 0, .int .i64 0])
  go_enter Tryz.func96, Tryz.ntmps96
  go_upto_region 1 with fail
  generalize ((((w.alloc (.cells #[.int .i64 wk, .string ⟨s.toArray⟩, .int .i64 wv, .int .i64 wt, .string ⟨wf.toArray⟩, .int .i64 ln] 42)).alloc (.cells #[.int .i64 a0, .int .i64 a1, .int .i64 a2, .int .i64 a3, .string ⟨a4.toArray⟩, .slice p a5.length c, .int .i64 a6] 24)).alloc (.cells #[.int .i64 b0, .int .i64 b1, .int .i64 b2, .int .i64 b3, .string ⟨b4.toArray⟩, .slice q b5.length d, .int .i64 b6] 24)).alloc (.cells #[.int .i64 0, .int .i64 0, .int .i64 0, .int .i64 0, .string ⟨#[]⟩, .slice none 0 0, .int .i64 0] 24)) = W0 at *
  have m5 : W0.cell? ⟨w.heap.size, 5, none⟩ = some (.int .i64 ln) := (unveil HS0).x.cell 5
  have ml := (unveil HS0).x.lt
  obtain ⟨⟨x0, x1, x2, x3, x4, x5, x6⟩, xl, _⟩ := ex_cells (unveil HS0).a
  obtain ⟨⟨y0, y1, y2, y3, y4, y5, y6⟩, yl, _⟩ := ex_cells (unveil HS0).b
  go_upto_region 2 with fail
  clear m5 ml x0 x1 x2 x3 x4 x5 x6 xl y0 y1 y2 y3 y4 y5 y6 yl
  have hb1 : Below W0.heap.size W0 ((W0.alloc (.cells #[.int .i64 a0, .int .i64 a1, .int .i64 a2, .int .i64 a3, .string ⟨a4.toArray⟩, .slice p a5.length c, .int .i64 a6, .int .i64 b0, .int .i64 b1, .int .i64 b2, .int .i64 b3, .string ⟨b4.toArray⟩, .slice q b5.length d, .int .i64 b6] 24)).alloc (.cells #[.int .i64 4, .int .i64 0, .int .i64 0, .int .i64 0, .string ⟨#[]⟩, .slice (some ⟨W0.heap.size, 0, none⟩) 2 2, .int .i64 ln] 24)) := ((Below.refl _ W0).alloc (Nat.le_refl _) _).alloc (by simp) _
  have HS1 := veil ((unveil HS0).below hb1)
  have HL1 : Hid (Bk ((W0.alloc (.cells #[.int .i64 a0, .int .i64 a1, .int .i64 a2, .int .i64 a3, .string ⟨a4.toArray⟩, .slice p a5.length c, .int .i64 a6, .int .i64 b0, .int .i64 b1, .int .i64 b2, .int .i64 b3, .string ⟨b4.toArray⟩, .slice q b5.length d, .int .i64 b6] 24)).alloc (.cells #[.int .i64 4, .int .i64 0, .int .i64 0, .int .i64 0, .string ⟨#[]⟩, .slice (some ⟨W0.heap.size, 0, none⟩) 2 2, .int .i64 ln] 24)) W0.heap.size 24 #[.int .i64 a0, .int .i64 a1, .int .i64 a2, .int .i64 a3, .string ⟨a4.toArray⟩, .slice p a5.length c, .int .i64 a6, .int .i64 b0, .int .i64 b1, .int .i64 b2, .int .i64 b3, .string ⟨b4.toArray⟩, .slice q b5.length d, .int .i64 b6]) := (Bk.new W0 _ _).alloc _
  have HE1 : Hid (Bk ((W0.alloc (.cells #[.int .i64 a0, .int .i64 a1, .int .i64 a2, .int .i64 a3, .string ⟨a4.toArray⟩, .slice p a5.length c, .int .i64 a6, .int .i64 b0, .int .i64 b1, .int .i64 b2, .int .i64 b3, .string ⟨b4.toArray⟩, .slice q b5.length d, .int .i64 b6] 24)).alloc (.cells #[.int .i64 4, .int .i64 0, .int .i64 0, .int .i64 0, .string ⟨#[]⟩, .slice (some ⟨W0.heap.size, 0, none⟩) 2 2, .int .i64 ln] 24)) (W0.heap.size + 1) 24 #[.int .i64 4, .int .i64 0, .int .i64 0, .int .i64 0, .string ⟨#[]⟩, .slice (some ⟨W0.heap.size, 0, none⟩) 2 2, .int .i64 ln]) := by
    have := Bk.new (W0.alloc (.cells #[.int .i64 a0, .int .i64 a1, .int .i64 a2, .int .i64 a3, .string ⟨a4.toArray⟩, .slice p a5.length c, .int .i64 a6, .int .i64 b0, .int .i64 b1, .int .i64 b2, .int .i64 b3, .string ⟨b4.toArray⟩, .slice q b5.length d, .int .i64 b6] 24)) 24 #[.int .i64 4, .int .i64 0, .int .i64 0, .int .i64 0, .string ⟨#[]⟩, .slice (some ⟨W0.heap.size, 0, none⟩) 2 2, .int .i64 ln]
    rw [World.size_alloc] at this
    exact this
  have hG : w.heap.size + 1 + 1 + 1 < W0.heap.size := (unveil HS0).z.lt
  clear hb1 HS0
  generalize ((W0.alloc (.cells #[.int .i64 a0, .int .i64 a1, .int .i64 a2, .int .i64 a3, .string ⟨a4.toArray⟩, .slice p a5.length c, .int .i64 a6, .int .i64 b0, .int .i64 b1, .int .i64 b2, .int .i64 b3, .string ⟨b4.toArray⟩, .slice q b5.length d, .int .i64 b6] 24)).alloc (.cells #[.int .i64 4, .int .i64 0, .int .i64 0, .int .i64 0, .string ⟨#[]⟩, .slice (some ⟨W0.heap.size, 0, none⟩) 2 2, .int .i64 ln] 24)) = W1 at *
  generalize W0.heap.size = G at *
  have hGw : w.heap.size ≤ G := by omega
  have m1 : W1.cell? ⟨w.heap.size, 1, none⟩ = some (.string ⟨s.toArray⟩) := (unveil HS1).x.cell 1
  have ml := (unveil HS1).x.lt
  obtain ⟨⟨e0, e1, e2, e3, e4, e5, e6⟩, el, ⟨i0, i1, i2, i3, i4, i5, i6⟩⟩ := ex_cells (unveil HE1)
  cases h1 : s == [38, 38]
  · cases h2 : s == [124, 124]
    · cases h3 : s == [62]
      · cases h4 : s == [62, 61]
        · have HJ := veil (unveil HJ5 h1 h2 h3 h4)
          clear HJ1 HJ2 HJ3 HJ4 HJ5 HNO
          go_upto_region 12 with (go_at_call 97; refine (unveil HOP s W1 (unveil HS1).be).mono ?_; rintro e Wq ⟨rfl, hbq⟩; have HEq := veil ((unveil HE1).below hbq); have HLq := veil ((unveil HL1).below hbq); have HZq := veil ((unveil HS1).z.below hbq); have HBq := veil ((unveil HS1).be.trans (hbq.mono (unveil HS1).be.size)); obtain ⟨⟨u0, u1, u2, u3, u4, u5, u6⟩, ul, ⟨k0, k1, k2, k3, k4, k5, k6⟩⟩ := ex_cells (unveil HEq); clear hbq)
          have HE2 : Hid (Bk (Wq.setCell ⟨G + 1, 1, none⟩ (.int .i64 (opB s))) (G + 1) 24 #[.int .i64 4, .int .i64 (opB s), .int .i64 0, .int .i64 0, .string ⟨#[]⟩, .slice (some ⟨G, 0, none⟩) 2 2, .int .i64 ln]) := (unveil HEq).set 1 _
          have HL2 := veil ((unveil HLq).other 1 (.int .i64 (opB s)) (show G ≠ G + 1 by omega))
          have HZ2 := veil ((unveil HZq).other 1 (.int .i64 (opB s)) (show w.heap.size + 1 + 1 + 1 ≠ G + 1 by omega))
          have HB2 := veil ((unveil HBq).setCell (p := ⟨G + 1, 1, none⟩) (show w.heap.size ≤ G + 1 by omega) (.int .i64 (opB s)))
          clear m1 ml e0 e1 e2 e3 e4 e5 e6 el i0 i1 i2 i3 i4 i5 i6 HS1 HE1 HL1 u0 u1 u2 u3 u4 u5 u6 ul k0 k1 k2 k3 k4 k5 k6 HEq HLq HZq HBq
          generalize (Wq.setCell ⟨G + 1, 1, none⟩ (.int .i64 (opB s))) = W2 at *
          generalize opB s = OB at *
          obtain ⟨⟨e0, e1, e2, e3, e4, e5, e6⟩, el, _⟩ := ex_cells (unveil HE2)
          obtain ⟨⟨z0, z1, z2, z3, z4, z5, z6⟩, zl, ⟨g0, g1, g2, g3, g4, g5, g6⟩⟩ := ex_cells (unveil HZ2)
          go_wp2_with fail
          obtain ⟨r1, r2, r3, r4⟩ := ex_put (unveil HZ2) (.int .i64 4) (.int .i64 OB) (.int .i64 0) (.int .i64 0) (.string ⟨#[]⟩) (.slice (some ⟨G, 0, none⟩) 2 2) (.int .i64 ln) _ rfl
          have hB3 := (unveil HB2).trans (r2 w.heap.size (by omega))
          have hJ := unveil HJ
          cases hJ
          refine bodyPost_ret (res_e1 (f := Tryz.f96) rfl rfl r1 rfl) rfl ⟨some ⟨G, 0, none⟩, 2, rfl, ?_, hB3⟩
          exact Kids.of (unveil HKA _ G hB3 hGw (r3 G _ (by omega) (unveil HL2)))
        · have HJ := veil (unveil HJ4 h1 h2 h3 h4)
          clear HJ1 HJ2 HJ3 HJ4 HJ5
          go_wp2_with (go_at_call 123; refine (unveil HNO 11 G W1).mono ?_; rintro e W2 ⟨g', rfl, hg', hbk, hb2⟩; have HL2 := veil ((unveil HL1).below hb2); have HZ2 := veil ((unveil HS1).z.below hb2); have HB2 := veil ((unveil HS1).be.trans (hb2.mono (unveil HS1).be.size)); have HBK := veil hbk; have HG2 : Hid (G < g') := Nat.lt_of_lt_of_le (unveil HL1).lt hg'; obtain ⟨⟨z0, z1, z2, z3, z4, z5, z6⟩, zl, ⟨g0, g1, g2, g3, g4, g5, g6⟩⟩ := ex_cells (unveil HZ2); clear hg' hbk hb2)
          obtain ⟨r1, r2, r3, r4⟩ := ex_put (unveil HZ2) (.int .i64 3) (.int .i64 17) (.int .i64 0) (.int .i64 0) (.string ⟨#[]⟩) (.slice (some ⟨g', 0, none⟩) 1 1) (.int .i64 ln) _ rfl
          have hB3 := (unveil HB2).trans (r2 w.heap.size (by omega))
          have hG2 := unveil HG2
          have hJ := unveil HJ
          cases hJ
          refine bodyPost_ret (res_e1 (f := Tryz.f96) rfl rfl r1 rfl) rfl ⟨some ⟨g', 0, none⟩, 1, rfl, ?_, hB3⟩
          exact Kids.of (KidL.one (x := .mk 4 11 0 0 [] [.mk a0 a1 a2 a3 a4 a5 a6, .mk b0 b1 b2 b3 b4 b5 b6] ln) (q := some ⟨G, 0, none⟩) (c := 2) (r3 g' _ (by omega) (unveil HBK)) (.inr (by omega)) (Kids.of (unveil HKA _ G hB3 hGw (r3 G _ (by omega) (unveil HL2)))))
      · have HJ := veil (unveil HJ3 h1 h2 h3)
        clear HJ1 HJ2 HJ3 HJ4 HJ5
        go_wp2_with (go_at_call 123; refine (unveil HNO 12 G W1).mono ?_; rintro e W2 ⟨g', rfl, hg', hbk, hb2⟩; have HL2 := veil ((unveil HL1).below hb2); have HZ2 := veil ((unveil HS1).z.below hb2); have HB2 := veil ((unveil HS1).be.trans (hb2.mono (unveil HS1).be.size)); have HBK := veil hbk; have HG2 : Hid (G < g') := Nat.lt_of_lt_of_le (unveil HL1).lt hg'; obtain ⟨⟨z0, z1, z2, z3, z4, z5, z6⟩, zl, ⟨g0, g1, g2, g3, g4, g5, g6⟩⟩ := ex_cells (unveil HZ2); clear hg' hbk hb2)
        obtain ⟨r1, r2, r3, r4⟩ := ex_put (unveil HZ2) (.int .i64 3) (.int .i64 17) (.int .i64 0) (.int .i64 0) (.string ⟨#[]⟩) (.slice (some ⟨g', 0, none⟩) 1 1) (.int .i64 ln) _ rfl
        have hB3 := (unveil HB2).trans (r2 w.heap.size (by omega))
        have hG2 := unveil HG2
        have hJ := unveil HJ
        cases hJ
        refine bodyPost_ret (res_e1 (f := Tryz.f96) rfl rfl r1 rfl) rfl ⟨some ⟨g', 0, none⟩, 1, rfl, ?_, hB3⟩
        exact Kids.of (KidL.one (x := .mk 4 12 0 0 [] [.mk a0 a1 a2 a3 a4 a5 a6, .mk b0 b1 b2 b3 b4 b5 b6] ln) (q := some ⟨G, 0, none⟩) (c := 2) (r3 g' _ (by omega) (unveil HBK)) (.inr (by omega)) (Kids.of (unveil HKA _ G hB3 hGw (r3 G _ (by omega) (unveil HL2)))))
    · have HJ := veil (unveil HJ2 h1 h2)
      clear HJ1 HJ2 HJ3 HJ4 HJ5 HNO
      go_upto_region 12 with fail
      have HE2 : Hid (Bk (W1.setCell ⟨G + 1, 0, none⟩ (.int .i64 6)) (G + 1) 24 #[.int .i64 6, .int .i64 0, .int .i64 0, .int .i64 0, .string ⟨#[]⟩, .slice (some ⟨G, 0, none⟩) 2 2, .int .i64 ln]) := (unveil HE1).set 0 _
      have HL2 := veil ((unveil HL1).other 0 (.int .i64 6) (show G ≠ G + 1 by omega))
      have HZ2 := veil ((unveil HS1).z.other 0 (.int .i64 6) (show w.heap.size + 1 + 1 + 1 ≠ G + 1 by omega))
      have HB2 := veil ((unveil HS1).be.setCell (p := ⟨G + 1, 0, none⟩) (show w.heap.size ≤ G + 1 by omega) (.int .i64 6))
      clear m1 ml e0 e1 e2 e3 e4 e5 e6 el i0 i1 i2 i3 i4 i5 i6 HS1 HE1 HL1
      generalize (W1.setCell ⟨G + 1, 0, none⟩ (.int .i64 6)) = W2 at *
      obtain ⟨⟨e0, e1, e2, e3, e4, e5, e6⟩, el, _⟩ := ex_cells (unveil HE2)
      obtain ⟨⟨z0, z1, z2, z3, z4, z5, z6⟩, zl, ⟨g0, g1, g2, g3, g4, g5, g6⟩⟩ := ex_cells (unveil HZ2)
      go_wp2_with fail
      obtain ⟨r1, r2, r3, r4⟩ := ex_put (unveil HZ2) (.int .i64 6) (.int .i64 0) (.int .i64 0) (.int .i64 0) (.string ⟨#[]⟩) (.slice (some ⟨G, 0, none⟩) 2 2) (.int .i64 ln) _ rfl
      have hB3 := (unveil HB2).trans (r2 w.heap.size (by omega))
      have hJ := unveil HJ
      cases hJ
      refine bodyPost_ret (res_e1 (f := Tryz.f96) rfl rfl r1 rfl) rfl ⟨some ⟨G, 0, none⟩, 2, rfl, ?_, hB3⟩
      exact Kids.of (unveil HKA _ G hB3 hGw (r3 G _ (by omega) (unveil HL2)))
  · have HJ := veil (unveil HJ1 h1)
    clear HJ1 HJ2 HJ3 HJ4 HJ5 HNO
    go_upto_region 12 with fail
    have HE2 : Hid (Bk (W1.setCell ⟨G + 1, 0, none⟩ (.int .i64 5)) (G + 1) 24 #[.int .i64 5, .int .i64 0, .int .i64 0, .int .i64 0, .string ⟨#[]⟩, .slice (some ⟨G, 0, none⟩) 2 2, .int .i64 ln]) := (unveil HE1).set 0 _
    have HL2 := veil ((unveil HL1).other 0 (.int .i64 5) (show G ≠ G + 1 by omega))
    have HZ2 := veil ((unveil HS1).z.other 0 (.int .i64 5) (show w.heap.size + 1 + 1 + 1 ≠ G + 1 by omega))
    have HB2 := veil ((unveil HS1).be.setCell (p := ⟨G + 1, 0, none⟩) (show w.heap.size ≤ G + 1 by omega) (.int .i64 5))
    clear m1 ml e0 e1 e2 e3 e4 e5 e6 el i0 i1 i2 i3 i4 i5 i6 HS1 HE1 HL1
    generalize (W1.setCell ⟨G + 1, 0, none⟩ (.int .i64 5)) = W2 at *
    obtain ⟨⟨e0, e1, e2, e3, e4, e5, e6⟩, el, _⟩ := ex_cells (unveil HE2)
    obtain ⟨⟨z0, z1, z2, z3, z4, z5, z6⟩, zl, ⟨g0, g1, g2, g3, g4, g5, g6⟩⟩ := ex_cells (unveil HZ2)
    go_wp2_with fail
    obtain ⟨r1, r2, r3, r4⟩ := ex_put (unveil HZ2) (.int .i64 5) (.int .i64 0) (.int .i64 0) (.int .i64 0) (.string ⟨#[]⟩) (.slice (some ⟨G, 0, none⟩) 2 2) (.int .i64 ln) _ rfl
    have hB3 := (unveil HB2).trans (r2 w.heap.size (by omega))
    have hJ := unveil HJ
    cases hJ
    refine bodyPost_ret (res_e1 (f := Tryz.f96) rfl rfl r1 rfl) rfl ⟨some ⟨G, 0, none⟩, 2, rfl, ?_, hB3⟩
    exact Kids.of (unveil HKA _ G hB3 hGw (r3 G _ (by omega) (unveil HL2)))
end Go.Proofs.YtmpkgjonbjpohaaGreatDoor
