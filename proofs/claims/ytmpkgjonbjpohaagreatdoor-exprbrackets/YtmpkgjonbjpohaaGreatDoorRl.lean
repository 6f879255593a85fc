/-
  Package expr: the reader in memory; sign, stand, take, skip.
-/
import Derived.Test.YtmpkgjonbjpohaaGreatDoorRc
import Derived.Test.YtmpkgjonbjpohaaGreatDoorXk
namespace Go.Proofs.YtmpkgjonbjpohaaGreatDoor
open Go Go.RowKit
set_option linter.unusedVariables false
set_option linter.unusedSimpArgs false

/-- Blocks of cells of some type. -/
def Bk (W : World) (b : Nat) (T : TypeId) (cs : Array Value) : Prop := W.heap[b]? = some (.cells cs T (0, 0))
theorem Bk.lt {W : World} {b : Nat} {T : TypeId} {cs : Array Value} (h : Bk W b T cs) : b < W.heap.size := (Array.getElem?_eq_some_iff.1 h).1
theorem Bk.cell {W : World} {b : Nat} {T : TypeId} {cs : Array Value} (h : Bk W b T cs) (i : Nat) : W.cell? ⟨b, i, none⟩ = cs[i]? := by unfold Bk at h; simp [World.cell?, h]
theorem Bk.frozen {W : World} {b : Nat} {T : TypeId} {cs : Array Value} (h : Bk W b T cs) (i : Nat) : W.frozen? ⟨b, i, none⟩ = false := by unfold Bk at h; simp [World.frozen?, h]
theorem Bk.below {W W' : World} {b : Nat} {T : TypeId} {cs : Array Value} (h : Bk W b T cs) (hb : Below W.heap.size W W') : Bk W' b T cs := (hb.block b h.lt).trans h
theorem Bk.alloc {W : World} {b : Nat} {T : TypeId} {cs : Array Value} (h : Bk W b T cs) (o : Obj) : Bk (W.alloc o) b T cs := (Below.heap_alloc W o b h.lt).trans h
theorem Bk.new (w : World) (T : TypeId) (cs : Array Value) : Bk (w.alloc (.cells cs T)) w.heap.size T cs := World.alloc_heap_new _ _
theorem Bk.set {W : World} {b : Nat} {T : TypeId} {cs : Array Value} (h : Bk W b T cs) (i : Nat) (v : Value) : Bk (W.setCell ⟨b, i, none⟩ v) b T (cs.setIfInBounds i v) := by
  unfold Bk at *
  simp [World.setCell, Array.getElem?_modify, h]
theorem Bk.other {W : World} {b c : Nat} {T : TypeId} {cs : Array Value} (h : Bk W b T cs) (i : Nat) (v : Value) (hc : b ≠ c) : Bk (W.setCell ⟨c, i, none⟩ v) b T cs := (Below.heap_setCell W ⟨c, i, none⟩ v b hc).trans h
theorem ownsRow_baseS {W : World} {base base' n size : Nat} {e : TypeId} {v : Value} {xs : List Value} (h : W.ownsRow base e size v n xs) (hb : base' ≤ base) : W.ownsRow base' e size v n xs := by
  refine ⟨h.1, ?_⟩
  rcases h.2 with h2 | ⟨g, cap, cur, rfl, h1, h2⟩
  · exact .inl h2
  · exact .inr ⟨g, cap, cur, rfl, by omega, h2⟩
theorem row_kept {W W' : World} {base n size : Nat} {e : TypeId} {v : Value} {xs : List Value} (h : W.ownsRow base e size v n xs) (hb : ∀ g cur, base ≤ g → W.heap[g]? = some (.cells cur e (0, 0)) → W'.heap[g]? = some (.cells cur e (0, 0))) : W'.ownsRow base e size v n xs := by
  obtain ⟨h1, h2⟩ := h
  refine ⟨h1, ?_⟩
  rcases h2 with h2 | ⟨g, cap, cur, rfl, hg, hk, hr⟩
  · exact .inl h2
  · exact .inr ⟨g, cap, cur, rfl, hg, hb g cur hg hk, hr⟩
/-- What a call of the reader leaves as it was: what lies below the reader, and all but the reader and lists of numbers. -/
structure FrE (R : Nat) (A B : World) : Prop where
  be : Below R A B
  bk : ∀ i cs T fz, T ≠ 3 → i ≠ R → A.heap[i]? = some (.cells cs T fz) → B.heap[i]? = some (.cells cs T fz)
theorem FrE.refl (R : Nat) (A : World) : FrE R A A := ⟨Below.refl _ _, fun _ _ _ _ _ _ h => h⟩
theorem FrE.trans {R : Nat} {A B C : World} (h : FrE R A B) (k : FrE R B C) : FrE R A C := ⟨h.be.trans k.be, fun i cs T fz h1 h2 h3 => k.bk i cs T fz h1 h2 (h.bk i cs T fz h1 h2 h3)⟩
theorem FrE.below {R : Nat} {A B : World} (hb : Below A.heap.size A B) (hR : R ≤ A.heap.size) : FrE R A B := ⟨hb.mono hR, fun i cs T fz _ _ h => (hb.block i (Array.getElem?_eq_some_iff.1 h).1).trans h⟩
theorem FrE.set (R i : Nat) (A : World) (v : Value) : FrE R A (A.setCell ⟨R, i, none⟩ v) := ⟨(Below.refl _ A).setCell (p := ⟨R, i, none⟩) (Nat.le_refl _) v, fun j cs T fz _ h2 h3 => (Below.heap_setCell A ⟨R, i, none⟩ v j h2).trans h3⟩
theorem FrE.box {R b : Nat} {A B : World} {T : TypeId} {cs : Array Value} (h : FrE R A B) (hb : Bk A b T cs) (hT : T ≠ 3) (hR : b ≠ R) : Bk B b T cs := h.bk b cs T (0, 0) hT hR hb
/-- The reader in memory. -/
structure RdX (W : World) (R : Nat) (wv : Value) (ws : List Wd) (tw crv : Value) (p : Nat) (x : Wd) (cr : List Int) : Prop where
  b : Bk W R 70 #[wv, .int .i64 p, .int .i64 x.kind, .string ⟨x.s.toArray⟩, .int .i64 x.v, .int .i64 x.t, .string ⟨x.f.toArray⟩, .int .i64 x.line, tw, crv]
  r : W.ownsRow (R + 1) 3 1 crv cr.length (cr.map fun x => .int .i64 x)
  wd : WdG R W wv ws
  gl : Gl W
  op : Ops W
  mo : Mo W
  gm : 10 < R
theorem RdX.below {W W' : World} {R : Nat} {wv : Value} {ws : List Wd} {tw crv : Value} {p : Nat} {x : Wd} {cr : List Int} (h : RdX W R wv ws tw crv p x cr) (hb : Below W.heap.size W W') : RdX W' R wv ws tw crv p x cr :=
  ⟨h.b.below hb, row_kept h.r (fun g cur _ hk => (hb.block g (Array.getElem?_eq_some_iff.1 hk).1).trans hk), h.wd.below (hb.mono (Nat.le_of_lt h.b.lt)), h.gl.next hb, h.op.below hb (by have := h.gl.size; show 0 < _; omega), h.mo.below hb h.gl.size, h.gm⟩
theorem RdX.pos {W : World} {R : Nat} {wv : Value} {ws : List Wd} {tw crv : Value} {p : Nat} {x : Wd} {cr : List Int} (h : RdX W R wv ws tw crv p x cr) (q : Nat) : RdX (W.setCell ⟨R, 1, none⟩ (.int .i64 q)) R wv ws tw crv q x cr ∧ FrE R W (W.setCell ⟨R, 1, none⟩ (.int .i64 q)) := by
  have hf := FrE.set R 1 W (.int .i64 q)
  exact ⟨⟨h.b.set 1 _, row_kept h.r (fun g cur hg hk => (Below.heap_setCell W ⟨R, 1, none⟩ _ g (by show g ≠ R; omega)).trans hk), h.wd.below hf.be, h.gl.below hf.be h.gm, h.op.below hf.be (by have := h.gm; show 0 < _; omega), h.mo.below hf.be h.gm, h.gm⟩, hf⟩
theorem RdX.cell' {W : World} {R : Nat} {wv : Value} {ws : List Wd} {tw crv : Value} {p : Nat} {x : Wd} {cr : List Int} (h : RdX W R wv ws tw crv p x cr) {i : Nat} {v : Value} {cs : Array Value} (hb : Bk (W.setCell ⟨R, i, none⟩ v) R 70 cs) : FrE R W (W.setCell ⟨R, i, none⟩ v) := FrE.set R i W v
set_option maxHeartbeats 4000000 in
theorem RdX.put {W : World} {R : Nat} {wv : Value} {ws : List Wd} {tw crv : Value} {p : Nat} {x : Wd} {cr : List Int} (h : RdX W R wv ws tw crv p x cr) (y : Wd) : ∀ W', W' = ((((((W.setCell ⟨R, 2, none⟩ (.int .i64 y.kind)).setCell ⟨R, 3, none⟩ (.string ⟨y.s.toArray⟩)).setCell ⟨R, 4, none⟩ (.int .i64 y.v)).setCell ⟨R, 5, none⟩ (.int .i64 y.t)).setCell ⟨R, 6, none⟩ (.string ⟨y.f.toArray⟩)).setCell ⟨R, 7, none⟩ (.int .i64 y.line)) → RdX W' R wv ws tw crv p y cr ∧ FrE R W W' := fun W' e => by
  have z0 : Bk (W.setCell ⟨R, 2, none⟩ (.int .i64 y.kind)) R 70 #[wv, .int .i64 p, .int .i64 y.kind, .string ⟨x.s.toArray⟩, .int .i64 x.v, .int .i64 x.t, .string ⟨x.f.toArray⟩, .int .i64 x.line, tw, crv] := h.b.set 2 _
  have f0 : FrE R W (W.setCell ⟨R, 2, none⟩ (.int .i64 y.kind)) := FrE.set R 2 _ _
  have z1 : Bk ((W.setCell ⟨R, 2, none⟩ (.int .i64 y.kind)).setCell ⟨R, 3, none⟩ (.string ⟨y.s.toArray⟩)) R 70 #[wv, .int .i64 p, .int .i64 y.kind, .string ⟨y.s.toArray⟩, .int .i64 x.v, .int .i64 x.t, .string ⟨x.f.toArray⟩, .int .i64 x.line, tw, crv] := z0.set 3 _
  have f1 : FrE R (W.setCell ⟨R, 2, none⟩ (.int .i64 y.kind)) ((W.setCell ⟨R, 2, none⟩ (.int .i64 y.kind)).setCell ⟨R, 3, none⟩ (.string ⟨y.s.toArray⟩)) := FrE.set R 3 _ _
  have z2 : Bk (((W.setCell ⟨R, 2, none⟩ (.int .i64 y.kind)).setCell ⟨R, 3, none⟩ (.string ⟨y.s.toArray⟩)).setCell ⟨R, 4, none⟩ (.int .i64 y.v)) R 70 #[wv, .int .i64 p, .int .i64 y.kind, .string ⟨y.s.toArray⟩, .int .i64 y.v, .int .i64 x.t, .string ⟨x.f.toArray⟩, .int .i64 x.line, tw, crv] := z1.set 4 _
  have f2 : FrE R ((W.setCell ⟨R, 2, none⟩ (.int .i64 y.kind)).setCell ⟨R, 3, none⟩ (.string ⟨y.s.toArray⟩)) (((W.setCell ⟨R, 2, none⟩ (.int .i64 y.kind)).setCell ⟨R, 3, none⟩ (.string ⟨y.s.toArray⟩)).setCell ⟨R, 4, none⟩ (.int .i64 y.v)) := FrE.set R 4 _ _
  have z3 : Bk ((((W.setCell ⟨R, 2, none⟩ (.int .i64 y.kind)).setCell ⟨R, 3, none⟩ (.string ⟨y.s.toArray⟩)).setCell ⟨R, 4, none⟩ (.int .i64 y.v)).setCell ⟨R, 5, none⟩ (.int .i64 y.t)) R 70 #[wv, .int .i64 p, .int .i64 y.kind, .string ⟨y.s.toArray⟩, .int .i64 y.v, .int .i64 y.t, .string ⟨x.f.toArray⟩, .int .i64 x.line, tw, crv] := z2.set 5 _
  have f3 : FrE R (((W.setCell ⟨R, 2, none⟩ (.int .i64 y.kind)).setCell ⟨R, 3, none⟩ (.string ⟨y.s.toArray⟩)).setCell ⟨R, 4, none⟩ (.int .i64 y.v)) ((((W.setCell ⟨R, 2, none⟩ (.int .i64 y.kind)).setCell ⟨R, 3, none⟩ (.string ⟨y.s.toArray⟩)).setCell ⟨R, 4, none⟩ (.int .i64 y.v)).setCell ⟨R, 5, none⟩ (.int .i64 y.t)) := FrE.set R 5 _ _
  have z4 : Bk (((((W.setCell ⟨R, 2, none⟩ (.int .i64 y.kind)).setCell ⟨R, 3, none⟩ (.string ⟨y.s.toArray⟩)).setCell ⟨R, 4, none⟩ (.int .i64 y.v)).setCell ⟨R, 5, none⟩ (.int .i64 y.t)).setCell ⟨R, 6, none⟩ (.string ⟨y.f.toArray⟩)) R 70 #[wv, .int .i64 p, .int .i64 y.kind, .string ⟨y.s.toArray⟩, .int .i64 y.v, .int .i64 y.t, .string ⟨y.f.toArray⟩, .int .i64 x.line, tw, crv] := z3.set 6 _
  have f4 : FrE R ((((W.setCell ⟨R, 2, none⟩ (.int .i64 y.kind)).setCell ⟨R, 3, none⟩ (.string ⟨y.s.toArray⟩)).setCell ⟨R, 4, none⟩ (.int .i64 y.v)).setCell ⟨R, 5, none⟩ (.int .i64 y.t)) (((((W.setCell ⟨R, 2, none⟩ (.int .i64 y.kind)).setCell ⟨R, 3, none⟩ (.string ⟨y.s.toArray⟩)).setCell ⟨R, 4, none⟩ (.int .i64 y.v)).setCell ⟨R, 5, none⟩ (.int .i64 y.t)).setCell ⟨R, 6, none⟩ (.string ⟨y.f.toArray⟩)) := FrE.set R 6 _ _
  have z5 : Bk ((((((W.setCell ⟨R, 2, none⟩ (.int .i64 y.kind)).setCell ⟨R, 3, none⟩ (.string ⟨y.s.toArray⟩)).setCell ⟨R, 4, none⟩ (.int .i64 y.v)).setCell ⟨R, 5, none⟩ (.int .i64 y.t)).setCell ⟨R, 6, none⟩ (.string ⟨y.f.toArray⟩)).setCell ⟨R, 7, none⟩ (.int .i64 y.line)) R 70 #[wv, .int .i64 p, .int .i64 y.kind, .string ⟨y.s.toArray⟩, .int .i64 y.v, .int .i64 y.t, .string ⟨y.f.toArray⟩, .int .i64 y.line, tw, crv] := z4.set 7 _
  have f5 : FrE R (((((W.setCell ⟨R, 2, none⟩ (.int .i64 y.kind)).setCell ⟨R, 3, none⟩ (.string ⟨y.s.toArray⟩)).setCell ⟨R, 4, none⟩ (.int .i64 y.v)).setCell ⟨R, 5, none⟩ (.int .i64 y.t)).setCell ⟨R, 6, none⟩ (.string ⟨y.f.toArray⟩)) ((((((W.setCell ⟨R, 2, none⟩ (.int .i64 y.kind)).setCell ⟨R, 3, none⟩ (.string ⟨y.s.toArray⟩)).setCell ⟨R, 4, none⟩ (.int .i64 y.v)).setCell ⟨R, 5, none⟩ (.int .i64 y.t)).setCell ⟨R, 6, none⟩ (.string ⟨y.f.toArray⟩)).setCell ⟨R, 7, none⟩ (.int .i64 y.line)) := FrE.set R 7 _ _
  have hf : FrE R W W' := by rw [e]; exact ((((f0.trans f1).trans f2).trans f3).trans f4).trans f5
  refine ⟨⟨by rw [e]; exact z5, row_kept h.r (fun g cur hg hk => ?_), h.wd.below hf.be, h.gl.below hf.be h.gm, h.op.below hf.be (by have := h.gm; show 0 < _; omega), h.mo.below hf.be h.gm, h.gm⟩, hf⟩
  have hne : g ≠ R := by omega
  rw [e]
  have s : ∀ (X : World) i v, X.heap[g]? = some (.cells cur 3 (0, 0)) → (X.setCell ⟨R, i, none⟩ v).heap[g]? = some (.cells cur 3 (0, 0)) := fun X i v hx => (Below.heap_setCell X ⟨R, i, none⟩ v g hne).trans hx
  exact s _ _ _ (s _ _ _ (s _ _ _ (s _ _ _ (s _ _ _ (s _ _ _ hk)))))
theorem RdX.cells {W : World} {R : Nat} {wv : Value} {ws : List Wd} {tw crv : Value} {p : Nat} {x : Wd} {cr : List Int} (h : RdX W R wv ws tw crv p x cr) : (W.cell? ⟨R, 0, none⟩ = some wv ∧ W.cell? ⟨R, 1, none⟩ = some (.int .i64 p) ∧ W.cell? ⟨R, 2, none⟩ = some (.int .i64 x.kind) ∧ W.cell? ⟨R, 3, none⟩ = some (.string ⟨x.s.toArray⟩) ∧ W.cell? ⟨R, 4, none⟩ = some (.int .i64 x.v) ∧ W.cell? ⟨R, 5, none⟩ = some (.int .i64 x.t) ∧ W.cell? ⟨R, 6, none⟩ = some (.string ⟨x.f.toArray⟩) ∧ W.cell? ⟨R, 7, none⟩ = some (.int .i64 x.line) ∧ W.cell? ⟨R, 8, none⟩ = some tw ∧ W.cell? ⟨R, 9, none⟩ = some crv) ∧ R < W.heap.size ∧ (W.frozen? ⟨R, 1, none⟩ = false ∧ W.frozen? ⟨R, 2, none⟩ = false ∧ W.frozen? ⟨R, 3, none⟩ = false ∧ W.frozen? ⟨R, 4, none⟩ = false ∧ W.frozen? ⟨R, 5, none⟩ = false ∧ W.frozen? ⟨R, 6, none⟩ = false ∧ W.frozen? ⟨R, 7, none⟩ = false) :=
  ⟨⟨h.b.cell 0, h.b.cell 1, h.b.cell 2, h.b.cell 3, h.b.cell 4, h.b.cell 5, h.b.cell 6, h.b.cell 7, h.b.cell 8, h.b.cell 9⟩, h.b.lt, ⟨h.b.frozen 1, h.b.frozen 2, h.b.frozen 3, h.b.frozen 4, h.b.frozen 5, h.b.frozen 6, h.b.frozen 7⟩⟩
set_option maxRecDepth 100000 in
set_option maxHeartbeats 4000000 in
theorem sign_any {W : World} {R : Nat} {wv : Value} {ws : List Wd} {tw crv : Value} {p : Nat} {x : Wd} {cr : List Int} (h : RdX W R wv ws tw crv p x cr) :
    Calls Tryz.prog 65 #[.pointer (some ⟨R, 0, none⟩)] W fun e W' => e = .returned (.string ⟨(sgW x).toArray⟩) ∧ W' = W := by
  obtain ⟨⟨c0, c1, c2, c3, c4, c5, c6, c7, c8, c9⟩, hl, _⟩ := h.cells
  clear h
  unfold sgW
  cases hk : x.kind == 5
  · go_enter Tryz.func65, Tryz.ntmps65
    go_wp2
    go_ret
    exact ⟨rfl, rfl⟩
  · go_enter Tryz.func65, Tryz.ntmps65
    go_wp2
    go_ret
    exact ⟨rfl, rfl⟩
set_option maxRecDepth 100000 in
set_option maxHeartbeats 8000000 in
theorem stand_any {W : World} {R : Nat} {wv : Value} {ws : List Wd} {tw crv : Value} {p : Nat} {x : Wd} {cr : List Int} (h : RdX W R wv ws tw crv p x cr) (q : Nat) (hq : q ≤ ws.length) (hl : ws.length ≤ 1000000) (hws : ∀ y ∈ ws, y.s.length ≤ 140737488355328) :
    Calls Tryz.prog 62 #[.pointer (some ⟨R, 0, none⟩), .int .i64 q] W fun e W' => (∃ r, e = .returned r) ∧ FrE R W W' ∧ RdX W' R wv ws tw crv q (nxt ws q) cr := by
  have HX0 := veil h
  obtain ⟨hp1, hp2⟩ := h.pos q
  have H1 : Hid (RdX (((((((W.setCell ⟨R, 1, none⟩ (.int .i64 q)).setCell ⟨R, 2, none⟩ (.int .i64 0)).setCell ⟨R, 3, none⟩ (.string ⟨#[]⟩)).setCell ⟨R, 4, none⟩ (.int .i64 0)).setCell ⟨R, 5, none⟩ (.int .i64 0)).setCell ⟨R, 6, none⟩ (.string ⟨#[]⟩)).setCell ⟨R, 7, none⟩ (.int .i64 0)) R wv ws tw crv q zrW cr ∧ FrE R W (((((((W.setCell ⟨R, 1, none⟩ (.int .i64 q)).setCell ⟨R, 2, none⟩ (.int .i64 0)).setCell ⟨R, 3, none⟩ (.string ⟨#[]⟩)).setCell ⟨R, 4, none⟩ (.int .i64 0)).setCell ⟨R, 5, none⟩ (.int .i64 0)).setCell ⟨R, 6, none⟩ (.string ⟨#[]⟩)).setCell ⟨R, 7, none⟩ (.int .i64 0))) := ⟨(hp1.put zrW _ rfl).1, hp2.trans (hp1.put zrW _ rfl).2⟩
  clear hp1 hp2
  obtain ⟨pw, cw, rfl, _⟩ := h.wd
  obtain ⟨⟨c0, c1, c2, c3, c4, c5, c6, c7, c8, c9⟩, hlt, ⟨f1, f2, f3, f4, f5, f6, f7⟩⟩ := h.cells
  have HRI := veil (fun (y : Wd) (hy : y ∈ ws) (V : World) (hg : Gl V) => Right_any y V (hws y hy) hg.size hg.sg)
  clear h
  go_enter Tryz.func62, Tryz.ntmps62
  go_upto_region 1 with fail
  generalize (((((((W.setCell ⟨R, 1, none⟩ (.int .i64 q)).setCell ⟨R, 2, none⟩ (.int .i64 0)).setCell ⟨R, 3, none⟩ (.string ⟨#[]⟩)).setCell ⟨R, 4, none⟩ (.int .i64 0)).setCell ⟨R, 5, none⟩ (.int .i64 0)).setCell ⟨R, 6, none⟩ (.string ⟨#[]⟩)).setCell ⟨R, 7, none⟩ (.int .i64 0)) = W1 at *
  clear c0 c1 c2 c3 c4 c5 c6 c7 c8 c9 hlt f1 f2 f3 f4 f5 f6 f7
  obtain ⟨⟨c0, c1, c2, c3, c4, c5, c6, c7, c8, c9⟩, hlt, ⟨f1, f2, f3, f4, f5, f6, f7⟩⟩ := (unveil H1).1.cells
  by_cases hqn : q < ws.length
  · have hqi : (q : Int) < (ws.length : Int) := by omega
    obtain ⟨pw', cw', he, hc⟩ := (unveil H1).1.wd
    cases he
    obtain ⟨gw, ow, rfl, hgw, w0, w1, w2, w3, w4, w5⟩ := hc q hqn
    have hgl : gw < W1.heap.size := Nat.lt_trans hgw (unveil H1).1.b.lt
    have HNX : Hid (nxt ws q = if rightM ws[q] then ws[q] else zrW) := by
      unfold Hid nxt
      rw [List.getElem?_eq_getElem hqn]
    have HR := veil (unveil HRI ws[q] (List.getElem_mem hqn) W1 (unveil H1).1.gl)
    clear hc
    generalize ws[q] = y at *
    cases hr : rightM y
    · rw [hr] at HR
      rw [Hid, hr] at HNX
      simp only [Bool.false_eq_true, if_false] at HNX
      have HNX2 := veil HNX
      clear HNX
      unfold wdV wdC at HR
      go_wp2_with (go_at_call 50; refine (unveil HR).mono ?_; rintro e W2 ⟨rfl, hb⟩; have H2 := veil (And.intro ((unveil H1).1.below hb) ((unveil H1).2.trans (FrE.below hb (Nat.le_of_lt (unveil H1).1.b.lt)))); clear hb)
      refine bodyPost_end (results_none (fn := Tryz.f62) rfl _ _ _) rfl ?_
      exact ⟨⟨_, rfl⟩, (unveil H2).2, by rw [unveil HNX2]; exact (unveil H2).1⟩
    · rw [hr] at HR
      rw [Hid, hr] at HNX
      simp only [if_true] at HNX
      have HNX2 := veil HNX
      clear HNX
      unfold wdV wdC at HR
      go_upto_region 2 with (go_at_call 50; refine (unveil HR).mono ?_; rintro e W2 ⟨rfl, hb⟩; have H2 := veil (And.intro ((unveil H1).1.below hb) ((unveil H1).2.trans (FrE.below hb (Nat.le_of_lt (unveil H1).1.b.lt)))); have HWC := veil (And.intro (hb.cell (p := ⟨gw, ow + q * 6, none⟩) hgl) (And.intro (hb.cell (p := ⟨gw, ow + q * 6 + 1, none⟩) hgl) (And.intro (hb.cell (p := ⟨gw, ow + q * 6 + 2, none⟩) hgl) (And.intro (hb.cell (p := ⟨gw, ow + q * 6 + 3, none⟩) hgl) (And.intro (hb.cell (p := ⟨gw, ow + q * 6 + 4, none⟩) hgl) (And.intro (hb.cell (p := ⟨gw, ow + q * 6 + 5, none⟩) hgl) (Nat.lt_of_lt_of_le hgl hb.size))))))); clear hb)
      clear c0 c1 c2 c3 c4 c5 c6 c7 c8 c9 hlt f1 f2 f3 f4 f5 f6 f7
      obtain ⟨⟨c0, c1, c2, c3, c4, c5, c6, c7, c8, c9⟩, hlt, ⟨f1, f2, f3, f4, f5, f6, f7⟩⟩ := (unveil H2).1.cells
      obtain ⟨v0, v1, v2, v3, v4, v5, hgl2⟩ := unveil HWC
      replace v0 := v0.trans w0
      replace v1 := v1.trans w1
      replace v2 := v2.trans w2
      replace v3 := v3.trans w3
      replace v4 := v4.trans w4
      replace v5 := v5.trans w5
      have H3 := veil ((unveil H2).1.put y)
      clear w0 w1 w2 w3 w4 w5 HWC hgl HR HRI H1
      go_wp2_with fail
      refine bodyPost_end (results_none (fn := Tryz.f62) rfl _ _ _) rfl ?_
      obtain ⟨k1, k2⟩ := unveil H3 _ rfl
      exact ⟨⟨_, rfl⟩, (unveil H2).2.trans k2, by rw [unveil HNX2]; exact k1⟩
  · have hqi : ¬ (q : Int) < (ws.length : Int) := by omega
    have HNX : Hid (nxt ws q = zrW) := by
      unfold Hid nxt
      rw [List.getElem?_eq_none (by omega)]
    go_wp2_with fail
    refine bodyPost_end (results_none (fn := Tryz.f62) rfl _ _ _) rfl ?_
    exact ⟨⟨_, rfl⟩, (unveil H1).2, by rw [unveil HNX]; exact (unveil H1).1⟩
end Go.Proofs.YtmpkgjonbjpohaaGreatDoor
