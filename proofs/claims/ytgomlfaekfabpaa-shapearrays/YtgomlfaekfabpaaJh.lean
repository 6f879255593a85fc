/-
  The document's own members: what its rounds keep.
-/
import Derived.Test.YtgomlfaekfabpaaJf
import Derived.Test.YtgomlfaekfabpaaJg
import Derived.Test.YtgomlfaekfabpaaUo
namespace Go.Proofs.Ytgomlfaekfabpaa
open Go Go.RowKit Go.Shelf
set_option linter.unusedVariables false
set_option linter.unusedSimpArgs false

def bxC (s a : Int) (bg : Bool) (v : Value) : Array Value := #[.int .i64 s, .int .i64 a, .bool bg, v]
/-- What box tells: that it is too big, or a size, an alignment, a list of spots. -/
def BxP (w : World) (z a : Int) (bg : Bool) (L : List Mb) (e : Ending) (w' : World) : Prop :=
  ∃ s al q n c, e = .returned (.agg (bxC s al bg (.slice q n c))) ∧ Below w.heap.size w w' ∧ (bg = false → s = z ∧ al = a ∧ w'.ownsRow w.heap.size 42 3 (.slice q n c) L.length (spCs L))
theorem row_slice {W : World} {base n size : Nat} {e : TypeId} {v : Value} {xs : List Value} (h : W.ownsRow base e size v n xs) : ∃ q cp, v = .slice q n cp := by
  rcases h.2 with ⟨rfl, h0⟩ | ⟨g, cp, cur, rfl, _⟩
  · exact ⟨none, 0, by rw [h0]⟩
  · exact ⟨_, _, rfl⟩
theorem res_b {f : Func} {k : Nat} {tmps : Array Value} {w : World} {R : Nat} {cs : Array Value} (hr : f.results = #[.cell k 32]) (hp : tmps.getD k undef = .pointer (some ⟨R, 0, none⟩)) (hg : w.heap[R]? = some (.cells cs 32 (0, 0))) (hz : cs.size = 4) :
    (results f tmps).run Try.prog w = .ok (.agg cs) w := by
  have hi : (Try.prog.info? 32).map (·.size) = some cs.size := by rw [hz]; kernel_rfl
  have hp' : tmps[k]?.getD undef = .pointer (some ⟨R, 0, none⟩) := by simpa using hp
  simp [results, hr, hp', asAddr, run_loadVar_row w R 32 32 cs (0, 0) _ hg Try.underlying32 rfl hi]
theorem ownsRow_belowS {W W' : World} {base n size : Nat} {e : TypeId} {v : Value} {xs : List Value} (h : W.ownsRow base e size v n xs) (hb : Below W.heap.size W W') : W'.ownsRow base e size v n xs :=
  ownsRow_turnS h (below_grown hb) (fun r e => by cases e)
structure RmS (w W : World) (t : ShT) (A : Int) (v : Value) (pre : List (FdOf ShT × Mb)) : Prop where
  t : TyB W w.heap.size t
  z : Bk W (w.heap.size + 1) 32 (bxC 0 0 false (.slice none 0 0))
  o : Bk W (w.heap.size + 1 + 1) 32 (bxC 0 A false v)
  row : W.ownsRow w.heap.size 42 3 v pre.length (spCs (pre.map Prod.snd))
  be : Below w.heap.size w W
theorem RmS.below {w W W' : World} {t : ShT} {A : Int} {v : Value} {pre : List (FdOf ShT × Mb)} (h : RmS w W t A v pre) (hb : Below W.heap.size W W') : RmS w W' t A v pre :=
  ⟨h.t.below hb, h.z.below hb, h.o.below hb, ownsRow_belowS h.row hb, h.be.trans (hb.mono h.be.size)⟩
theorem RmS.new (w : World) (t : ShT) (A : Int) : RmS w (((w.alloc (.cells t.cs 25)).alloc (.cells (bxC 0 0 false (.slice none 0 0)) 32)).alloc (.cells (bxC 0 A false (.slice none 0 0)) 32)) t A (.slice none 0 0) [] := by
  have h1 := Bk.new (w.alloc (.cells t.cs 25)) 32 (bxC 0 0 false (.slice none 0 0))
  have h2 := Bk.new ((w.alloc (.cells t.cs 25)).alloc (.cells (bxC 0 0 false (.slice none 0 0)) 32)) 32 (bxC 0 A false (.slice none 0 0))
  rw [World.size_alloc] at h1
  rw [World.size_alloc, World.size_alloc] at h2
  exact ⟨((TyB.new w t).alloc _).alloc _, h1.alloc _, h2, World.ownsRow_nil _ _ _ _, (below_new2 w _ _).alloc (by simp; omega) _⟩
theorem RmS.lt {w W : World} {t : ShT} {A : Int} {v : Value} {pre : List (FdOf ShT × Mb)} (h : RmS w W t A v pre) : w.heap.size < W.heap.size ∧ w.heap.size + 1 < W.heap.size ∧ w.heap.size + 1 + 1 < W.heap.size := ⟨h.t.lt, h.z.lt, h.o.lt⟩
theorem RmS.cells {w W : World} {t : ShT} {A : Int} {v : Value} {pre : List (FdOf ShT × Mb)} (h : RmS w W t A v pre) :
    W.cell? ⟨w.heap.size + 1 + 1, 0, none⟩ = some (.int .i64 0) ∧ W.cell? ⟨w.heap.size + 1 + 1, 1, none⟩ = some (.int .i64 A) ∧ W.cell? ⟨w.heap.size + 1 + 1, 2, none⟩ = some (.bool false) ∧ W.cell? ⟨w.heap.size + 1 + 1, 3, none⟩ = some v ∧
    W.frozen? ⟨w.heap.size + 1 + 1, 0, none⟩ = false ∧ W.frozen? ⟨w.heap.size + 1 + 1, 1, none⟩ = false ∧ W.frozen? ⟨w.heap.size + 1 + 1, 2, none⟩ = false ∧ W.frozen? ⟨w.heap.size + 1 + 1, 3, none⟩ = false :=
  ⟨h.o.cell 0, h.o.cell 1, h.o.cell 2, h.o.cell 3, h.o.frozen 0, h.o.frozen 1, h.o.frozen 2, h.o.frozen 3⟩
theorem RmS.zcells {w W : World} {t : ShT} {A : Int} {v : Value} {pre : List (FdOf ShT × Mb)} (h : RmS w W t A v pre) :
    W.cell? ⟨w.heap.size + 1, 0, none⟩ = some (.int .i64 0) ∧ W.cell? ⟨w.heap.size + 1, 1, none⟩ = some (.int .i64 0) ∧ W.cell? ⟨w.heap.size + 1, 2, none⟩ = some (.bool false) ∧ W.cell? ⟨w.heap.size + 1, 3, none⟩ = some (.slice none 0 0) ∧
    W.frozen? ⟨w.heap.size + 1, 0, none⟩ = false ∧ W.frozen? ⟨w.heap.size + 1, 1, none⟩ = false ∧ W.frozen? ⟨w.heap.size + 1, 2, none⟩ = false ∧ W.frozen? ⟨w.heap.size + 1, 3, none⟩ = false :=
  ⟨h.z.cell 0, h.z.cell 1, h.z.cell 2, h.z.cell 3, h.z.frozen 0, h.z.frozen 1, h.z.frozen 2, h.z.frozen 3⟩
/-- Within a round: the member's box, and what box told of its type. -/
structure RnS (w wr W : World) (t : ShT) (A : Int) (v : Value) (pre : List (FdOf ShT × Mb)) (f : FdOf ShT) (Bb : Nat) (s al : Int) (bg : Bool) (u : Value) : Prop where
  st : RmS w W t A v pre
  f : Bk W wr.heap.size 45 f.cs
  b : Bk W Bb 32 (bxC s al bg u)
  lt : w.heap.size + 1 + 1 < wr.heap.size ∧ wr.heap.size < Bb
theorem RnS.below {w wr W W' : World} {t : ShT} {A : Int} {v : Value} {pre : List (FdOf ShT × Mb)} {f : FdOf ShT} {Bb : Nat} {s al : Int} {bg : Bool} {u : Value} (h : RnS w wr W t A v pre f Bb s al bg u) (hb : Below W.heap.size W W') : RnS w wr W' t A v pre f Bb s al bg u :=
  ⟨h.st.below hb, h.f.below hb, h.b.below hb, h.lt⟩
theorem RnS.new {w wr W1 : World} {t : ShT} {A : Int} {v : Value} {pre : List (FdOf ShT × Mb)} (h : RmS w wr t A v pre) (f : FdOf ShT) (hb : Below (wr.alloc (.cells f.cs 45)).heap.size (wr.alloc (.cells f.cs 45)) W1) (s al : Int) (bg : Bool) (u : Value) :
    RnS w wr (W1.alloc (.cells (bxC s al bg u) 32)) t A v pre f W1.heap.size s al bg u := by
  have h0 : Below wr.heap.size wr W1 := ((Below.refl _ wr).alloc (Nat.le_refl _) _).trans (hb.mono (by simp))
  have hs := hb.size
  rw [World.size_alloc] at hs
  exact ⟨(h.below h0).below ((Below.refl _ W1).alloc (Nat.le_refl _) _), ((Bk.new wr _ _).below hb).alloc _, Bk.new W1 _ _, h.lt.2.2, by omega⟩
theorem RnS.all {w wr W : World} {t : ShT} {A : Int} {v : Value} {pre : List (FdOf ShT × Mb)} {f : FdOf ShT} {Bb : Nat} {s al : Int} {bg : Bool} {u : Value} (h : RnS w wr W t A v pre f Bb s al bg u) :
    (W.cell? ⟨w.heap.size, 0, none⟩ = some (.int .i64 t.sh) ∧ W.cell? ⟨w.heap.size, 1, none⟩ = some (.int .i64 t.k) ∧ W.cell? ⟨w.heap.size, 2, none⟩ = some (.int .i64 t.n) ∧ W.cell? ⟨w.heap.size, 3, none⟩ = some (.slice t.op t.of.length t.oc) ∧
      W.cell? ⟨w.heap.size, 4, none⟩ = some (.slice t.fp t.fs.length t.fc) ∧ W.cell? ⟨w.heap.size, 5, none⟩ = some (.bool t.pk) ∧ W.cell? ⟨w.heap.size, 6, none⟩ = some (.int .i64 t.al)) ∧
    (W.cell? ⟨wr.heap.size, 0, none⟩ = some (.string ⟨f.nm.toArray⟩) ∧ W.cell? ⟨wr.heap.size, 1, none⟩ = some (.int .i64 f.t.sh) ∧ W.cell? ⟨wr.heap.size, 2, none⟩ = some (.int .i64 f.t.k) ∧ W.cell? ⟨wr.heap.size, 3, none⟩ = some (.int .i64 f.t.n) ∧ W.cell? ⟨wr.heap.size, 4, none⟩ = some (.slice f.t.op f.t.of.length f.t.oc) ∧
      W.cell? ⟨wr.heap.size, 5, none⟩ = some (.slice f.t.fp f.t.fs.length f.t.fc) ∧ W.cell? ⟨wr.heap.size, 6, none⟩ = some (.bool f.t.pk) ∧ W.cell? ⟨wr.heap.size, 7, none⟩ = some (.int .i64 f.t.al) ∧ W.cell? ⟨wr.heap.size, 8, none⟩ = some (.int .i64 f.bits)) ∧
    (W.cell? ⟨Bb, 0, none⟩ = some (.int .i64 s) ∧ W.cell? ⟨Bb, 1, none⟩ = some (.int .i64 al) ∧ W.cell? ⟨Bb, 2, none⟩ = some (.bool bg) ∧ W.cell? ⟨Bb, 3, none⟩ = some u) ∧
    (w.heap.size < W.heap.size ∧ wr.heap.size < W.heap.size ∧ Bb < W.heap.size) :=
  ⟨h.st.t.seven, ⟨h.f.cell 0, h.f.cell 1, h.f.cell 2, h.f.cell 3, h.f.cell 4, h.f.cell 5, h.f.cell 6, h.f.cell 7, h.f.cell 8⟩, ⟨h.b.cell 0, h.b.cell 1, h.b.cell 2, h.b.cell 3⟩, h.st.t.lt, h.f.lt, h.b.lt⟩
theorem afterNewSp {W W' : World} {cs : Array Value} (hb : Below (W.alloc (.cells cs 42)).drew.heap.size (W.alloc (.cells cs 42)).drew W') : Bk W' W.heap.size 42 cs := Bk.below (W := (W.alloc (.cells cs 42)).drew) (Bk.new W _ _) hb
/-- What behind the append is there. -/
theorem RnS.grow {w wr W W' : World} {t : ShT} {A : Int} {v v' : Value} {pre : List (FdOf ShT × Mb)} {f : FdOf ShT} {Bb : Nat} {s al : Int} {bg : Bool} {u : Value} (h : RnS w wr W t A v pre f Bb s al bg u) (m : Mb)
    (hg : W.grownBy W' v.ownBlock) (hn : W'.ownsRow w.heap.size 42 3 v' (pre.length + 1) (spCs (pre.map Prod.snd) ++ spC m)) :
    RnS w wr (W'.setCell ⟨w.heap.size + 1 + 1, 3, none⟩ v') t A v' (pre ++ [(f, m)]) f Bb s al bg u := by
  have q1 : Bk W' w.heap.size 25 t.cs := Bk.rowG h.st.t h.st.row hg (by decide)
  have q2 := h.st.z.rowG h.st.row hg (by decide)
  have q3 := h.st.o.rowG h.st.row hg (by decide)
  have q4 := h.f.rowG h.st.row hg (by decide)
  have q5 := h.b.rowG h.st.row hg (by decide)
  have q6 : Below w.heap.size w W' := h.st.be.grown hg h.st.be.size (fun r e => (row_turnS h.st.row r e).1)
  have hl := h.lt
  refine ⟨⟨Bk.other q1 _ _ (by omega), q2.other _ _ (by omega), q3.set 3 v', ?_, q6.setCell (p := ⟨w.heap.size + 1 + 1, 3, none⟩) (by show w.heap.size ≤ w.heap.size + 1 + 1; omega) _⟩, q4.other _ _ (by omega), q5.other _ _ (by omega), h.lt⟩
  rw [List.map_append, List.map_cons, List.map_nil, spCs_snoc, List.length_append]
  exact ownsRow_setS (i := 3) hn q3 (by decide) v'
theorem RnS.align {w wr W : World} {t : ShT} {A : Int} {v : Value} {pre : List (FdOf ShT × Mb)} {f : FdOf ShT} {Bb : Nat} {s al : Int} {bg : Bool} {u : Value} (h : RnS w wr W t A v pre f Bb s al bg u) (A' : Int) :
    RmS w (W.setCell ⟨w.heap.size + 1 + 1, 1, none⟩ (.int .i64 A')) t A' v pre :=
  ⟨Bk.other h.st.t _ _ (by omega), h.st.z.other _ _ (by omega), h.st.o.set 1 _, ownsRow_setS (i := 1) h.st.row h.st.o (by decide) _, h.st.be.setCell (p := ⟨w.heap.size + 1 + 1, 1, none⟩) (by show w.heap.size ≤ w.heap.size + 1 + 1; omega) _⟩
def put4 (W : World) (R : Nat) (v0 v1 v2 v3 : Value) : World := (((W.setCell ⟨R, 0, none⟩ v0).setCell ⟨R, 1, none⟩ v1).setCell ⟨R, 2, none⟩ v2).setCell ⟨R, 3, none⟩ v3
theorem Bk.put4 {W : World} {R : Nat} {T : TypeId} {a b c d : Value} (h : Bk W R T #[a, b, c, d]) (v0 v1 v2 v3 : Value) : Bk (put4 W R v0 v1 v2 v3) R T #[v0, v1, v2, v3] := (((h.set 0 v0).set 1 v1).set 2 v2).set 3 v3
theorem below_put4 {W0 W : World} {B R : Nat} (h : Below B W0 W) (hR : B ≤ R) (v0 v1 v2 v3 : Value) : Below B W0 (put4 W R v0 v1 v2 v3) :=
  (((h.setCell (p := ⟨R, 0, none⟩) hR v0).setCell (p := ⟨R, 1, none⟩) hR v1).setCell (p := ⟨R, 2, none⟩) hR v2).setCell (p := ⟨R, 3, none⟩) hR v3
theorem row_put4 {W : World} {base n size R : Nat} {e T : TypeId} {v a b c d : Value} {xs : List Value} (h : W.ownsRow base e size v n xs) (hb : Bk W R T #[a, b, c, d]) (hT : T ≠ e) (v0 v1 v2 v3 : Value) : (put4 W R v0 v1 v2 v3).ownsRow base e size v n xs :=
  ownsRow_setS (ownsRow_setS (ownsRow_setS (ownsRow_setS h hb hT v0) (hb.set 0 v0) hT v1) ((hb.set 0 v0).set 1 v1) hT v2) (((hb.set 0 v0).set 1 v1).set 2 v2) hT v3
/-- One cell of the answer's own box is turned. -/
theorem RmS.turn {w W : World} {t : ShT} {A : Int} {v : Value} {pre : List (FdOf ShT × Mb)} (h : RmS w W t A v pre) (i : Nat) (x : Value) :
    Bk (W.setCell ⟨w.heap.size + 1 + 1, i, none⟩ x) (w.heap.size + 1 + 1) 32 ((bxC 0 A false v).setIfInBounds i x) ∧ Bk (W.setCell ⟨w.heap.size + 1 + 1, i, none⟩ x) (w.heap.size + 1) 32 (bxC 0 0 false (.slice none 0 0)) ∧
    Below w.heap.size w (W.setCell ⟨w.heap.size + 1 + 1, i, none⟩ x) ∧ (W.setCell ⟨w.heap.size + 1 + 1, i, none⟩ x).ownsRow w.heap.size 42 3 v pre.length (spCs (pre.map Prod.snd)) :=
  ⟨h.o.set i x, h.z.other _ _ (by omega), h.be.setCell (p := ⟨w.heap.size + 1 + 1, i, none⟩) (by show w.heap.size ≤ w.heap.size + 1 + 1; omega) _, ownsRow_setS h.row h.o (by decide) _⟩
/-- A store in a newer block. -/
theorem RnS.setX {w wr W : World} {t : ShT} {A : Int} {v : Value} {pre : List (FdOf ShT × Mb)} {f : FdOf ShT} {Bb X : Nat} {s al : Int} {bg : Bool} {u : Value} (h : RnS w wr W t A v pre f Bb s al bg u) (hr : RmS w wr t A v pre) (hX : Bb < X) (i : Nat) (x : Value) : RnS w wr (W.setCell ⟨X, i, none⟩ x) t A v pre f Bb s al bg u := by
  have hl := h.lt
  refine ⟨⟨Bk.other h.st.t _ _ (by omega), h.st.z.other _ _ (by omega), h.st.o.other _ _ (by omega), ?_, h.st.be.setCell (p := ⟨X, i, none⟩) (by show w.heap.size ≤ X; omega) _⟩, h.f.other _ _ (by omega), h.b.other _ _ (by omega), h.lt⟩
  refine ⟨h.st.row.1, ?_⟩
  rcases h.st.row.2 with hn | ⟨g, cap, cur, rfl, hbg, hg, hrr⟩
  · exact .inl hn
  · obtain ⟨_, cur', hc'⟩ := row_turnS hr.row g rfl
    have hgl := (Array.getElem?_eq_some_iff.1 hc').1
    exact .inr ⟨g, cap, cur, rfl, hbg, (Below.heap_setCell W ⟨X, i, none⟩ x g (by show g ≠ X; omega)).trans hg, hrr⟩
end Go.Proofs.Ytgomlfaekfabpaa
