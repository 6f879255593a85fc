/-
  The document's own members: what its rounds keep.
  The document's own members.
  The document's own box.
  The document's own box: arrays.
-/
import Derived.Test.YtkiebejidpebdaaZ4
import Derived.Test.YtkiebejidpebdaaUo
import Derived.Test.YtkiebejidpebdaaNb
namespace Go.Proofs.Ytkiebejidpebdaa
open Go Go.RowKit Go.Shelf
set_option linter.unusedVariables false
set_option linter.unusedSimpArgs false

def bxC (s a : Int) (bg : Bool) (v : Value) : Array Value := #[.int .i64 s, .int .i64 a, .bool bg, v]
/-- What box tells: that it is too big, or a size, an alignment, a list of spots. -/
def BxP (w : World) (z a : Int) (bg : Bool) (L : List Mb) (e : Ending) (w' : World) : Prop :=
  ∃ s al q n c, e = .returned (.agg (bxC s al bg (.slice q n c))) ∧ Below w.heap.size w w' ∧ (bg = false → s = z ∧ al = a ∧ w'.ownsRow w.heap.size 42 3 (.slice q n c) L.length (spCs L))
theorem row_slice {W : World} {base n size : Nat} {e : TypeId} {v : Value} {xs : List Value} (h : W.ownsRow base e size v n xs) : ∃ q cp, v = .slice q n cp := by
  rcases h.2 with ⟨rfl, h0⟩ | ⟨g, cp, cur, rfl, _⟩
  · exact ⟨none, 0, by rw [h0]⟩
  · exact ⟨_, _, rfl⟩
theorem res_b {f : Func} {k : Nat} {tmps : Array Value} {w : World} {R : Nat} {cs : Array Value} (hr : f.results = #[.cell k 32]) (hp : tmps.getD k undef = .pointer (some ⟨R, 0, none⟩)) (hg : w.heap[R]? = some (.cells cs 32 (0, 0))) (hz : cs.size = 4) :
    (results f tmps).run Try.prog w = .ok (.agg cs) w := by
  have hi : (Try.prog.info? 32).map (·.size) = some cs.size := by rw [hz]; kernel_rfl
  have hp' : tmps[k]?.getD undef = .pointer (some ⟨R, 0, none⟩) := by simpa using hp
  simp [results, hr, hp', asAddr, run_loadVar_row w R 32 32 cs (0, 0) _ hg Try.underlying32 rfl hi]
theorem ownsRow_belowS {W W' : World} {base n size : Nat} {e : TypeId} {v : Value} {xs : List Value} (h : W.ownsRow base e size v n xs) (hb : Below W.heap.size W W') : W'.ownsRow base e size v n xs :=
  ownsRow_turnS h (below_grown hb) (fun r e => by cases e)
structure RmS (w W : World) (t : ShT) (A : Int) (v : Value) (pre : List (FdOf ShT × Mb)) : Prop where
  t : TyB W w.heap.size t
  z : Bk W (w.heap.size + 1) 32 (bxC 0 0 false (.slice none 0 0))
  o : Bk W (w.heap.size + 1 + 1) 32 (bxC 0 A false v)
  row : W.ownsRow w.heap.size 42 3 v pre.length (spCs (pre.map Prod.snd))
  be : Below w.heap.size w W
theorem RmS.below {w W W' : World} {t : ShT} {A : Int} {v : Value} {pre : List (FdOf ShT × Mb)} (h : RmS w W t A v pre) (hb : Below W.heap.size W W') : RmS w W' t A v pre :=
  ⟨h.t.below hb, h.z.below hb, h.o.below hb, ownsRow_belowS h.row hb, h.be.trans (hb.mono h.be.size)⟩
theorem RmS.new (w : World) (t : ShT) (A : Int) : RmS w (((w.alloc (.cells t.cs 25)).alloc (.cells (bxC 0 0 false (.slice none 0 0)) 32)).alloc (.cells (bxC 0 A false (.slice none 0 0)) 32)) t A (.slice none 0 0) [] := by
  have h1 := Bk.new (w.alloc (.cells t.cs 25)) 32 (bxC 0 0 false (.slice none 0 0))
  have h2 := Bk.new ((w.alloc (.cells t.cs 25)).alloc (.cells (bxC 0 0 false (.slice none 0 0)) 32)) 32 (bxC 0 A false (.slice none 0 0))
  rw [World.size_alloc] at h1
  rw [World.size_alloc, World.size_alloc] at h2
  exact ⟨((TyB.new w t).alloc _).alloc _, h1.alloc _, h2, World.ownsRow_nil _ _ _ _, (below_new2 w _ _).alloc (by simp; omega) _⟩
theorem RmS.lt {w W : World} {t : ShT} {A : Int} {v : Value} {pre : List (FdOf ShT × Mb)} (h : RmS w W t A v pre) : w.heap.size < W.heap.size ∧ w.heap.size + 1 < W.heap.size ∧ w.heap.size + 1 + 1 < W.heap.size := ⟨h.t.lt, h.z.lt, h.o.lt⟩
theorem RmS.cells {w W : World} {t : ShT} {A : Int} {v : Value} {pre : List (FdOf ShT × Mb)} (h : RmS w W t A v pre) :
    W.cell? ⟨w.heap.size + 1 + 1, 0, none⟩ = some (.int .i64 0) ∧ W.cell? ⟨w.heap.size + 1 + 1, 1, none⟩ = some (.int .i64 A) ∧ W.cell? ⟨w.heap.size + 1 + 1, 2, none⟩ = some (.bool false) ∧ W.cell? ⟨w.heap.size + 1 + 1, 3, none⟩ = some v ∧
    W.frozen? ⟨w.heap.size + 1 + 1, 0, none⟩ = false ∧ W.frozen? ⟨w.heap.size + 1 + 1, 1, none⟩ = false ∧ W.frozen? ⟨w.heap.size + 1 + 1, 2, none⟩ = false ∧ W.frozen? ⟨w.heap.size + 1 + 1, 3, none⟩ = false :=
  ⟨h.o.cell 0, h.o.cell 1, h.o.cell 2, h.o.cell 3, h.o.frozen 0, h.o.frozen 1, h.o.frozen 2, h.o.frozen 3⟩
theorem RmS.zcells {w W : World} {t : ShT} {A : Int} {v : Value} {pre : List (FdOf ShT × Mb)} (h : RmS w W t A v pre) :
    W.cell? ⟨w.heap.size + 1, 0, none⟩ = some (.int .i64 0) ∧ W.cell? ⟨w.heap.size + 1, 1, none⟩ = some (.int .i64 0) ∧ W.cell? ⟨w.heap.size + 1, 2, none⟩ = some (.bool false) ∧ W.cell? ⟨w.heap.size + 1, 3, none⟩ = some (.slice none 0 0) ∧
    W.frozen? ⟨w.heap.size + 1, 0, none⟩ = false ∧ W.frozen? ⟨w.heap.size + 1, 1, none⟩ = false ∧ W.frozen? ⟨w.heap.size + 1, 2, none⟩ = false ∧ W.frozen? ⟨w.heap.size + 1, 3, none⟩ = false :=
  ⟨h.z.cell 0, h.z.cell 1, h.z.cell 2, h.z.cell 3, h.z.frozen 0, h.z.frozen 1, h.z.frozen 2, h.z.frozen 3⟩
/-- Within a round: the member's box, and what box told of its type. -/
structure RnS (w wr W : World) (t : ShT) (A : Int) (v : Value) (pre : List (FdOf ShT × Mb)) (f : FdOf ShT) (Bb : Nat) (s al : Int) (bg : Bool) (u : Value) : Prop where
  st : RmS w W t A v pre
  f : Bk W wr.heap.size 45 f.cs
  b : Bk W Bb 32 (bxC s al bg u)
  lt : w.heap.size + 1 + 1 < wr.heap.size ∧ wr.heap.size < Bb
theorem RnS.below {w wr W W' : World} {t : ShT} {A : Int} {v : Value} {pre : List (FdOf ShT × Mb)} {f : FdOf ShT} {Bb : Nat} {s al : Int} {bg : Bool} {u : Value} (h : RnS w wr W t A v pre f Bb s al bg u) (hb : Below W.heap.size W W') : RnS w wr W' t A v pre f Bb s al bg u :=
  ⟨h.st.below hb, h.f.below hb, h.b.below hb, h.lt⟩
theorem RnS.new {w wr W1 : World} {t : ShT} {A : Int} {v : Value} {pre : List (FdOf ShT × Mb)} (h : RmS w wr t A v pre) (f : FdOf ShT) (hb : Below (wr.alloc (.cells f.cs 45)).heap.size (wr.alloc (.cells f.cs 45)) W1) (s al : Int) (bg : Bool) (u : Value) :
    RnS w wr (W1.alloc (.cells (bxC s al bg u) 32)) t A v pre f W1.heap.size s al bg u := by
  have h0 : Below wr.heap.size wr W1 := ((Below.refl _ wr).alloc (Nat.le_refl _) _).trans (hb.mono (by simp))
  have hs := hb.size
  rw [World.size_alloc] at hs
  exact ⟨(h.below h0).below ((Below.refl _ W1).alloc (Nat.le_refl _) _), ((Bk.new wr _ _).below hb).alloc _, Bk.new W1 _ _, h.lt.2.2, by omega⟩
theorem RnS.all {w wr W : World} {t : ShT} {A : Int} {v : Value} {pre : List (FdOf ShT × Mb)} {f : FdOf ShT} {Bb : Nat} {s al : Int} {bg : Bool} {u : Value} (h : RnS w wr W t A v pre f Bb s al bg u) :
    (W.cell? ⟨w.heap.size, 0, none⟩ = some (.int .i64 t.sh) ∧ W.cell? ⟨w.heap.size, 1, none⟩ = some (.int .i64 t.k) ∧ W.cell? ⟨w.heap.size, 2, none⟩ = some (.int .i64 t.n) ∧ W.cell? ⟨w.heap.size, 3, none⟩ = some (.slice t.op t.of.length t.oc) ∧
      W.cell? ⟨w.heap.size, 4, none⟩ = some (.slice t.fp t.fs.length t.fc) ∧ W.cell? ⟨w.heap.size, 5, none⟩ = some (.bool t.pk) ∧ W.cell? ⟨w.heap.size, 6, none⟩ = some (.int .i64 t.al)) ∧
    (W.cell? ⟨wr.heap.size, 0, none⟩ = some (.string ⟨f.nm.toArray⟩) ∧ W.cell? ⟨wr.heap.size, 1, none⟩ = some (.int .i64 f.t.sh) ∧ W.cell? ⟨wr.heap.size, 2, none⟩ = some (.int .i64 f.t.k) ∧ W.cell? ⟨wr.heap.size, 3, none⟩ = some (.int .i64 f.t.n) ∧ W.cell? ⟨wr.heap.size, 4, none⟩ = some (.slice f.t.op f.t.of.length f.t.oc) ∧
      W.cell? ⟨wr.heap.size, 5, none⟩ = some (.slice f.t.fp f.t.fs.length f.t.fc) ∧ W.cell? ⟨wr.heap.size, 6, none⟩ = some (.bool f.t.pk) ∧ W.cell? ⟨wr.heap.size, 7, none⟩ = some (.int .i64 f.t.al) ∧ W.cell? ⟨wr.heap.size, 8, none⟩ = some (.int .i64 f.bits)) ∧
    (W.cell? ⟨Bb, 0, none⟩ = some (.int .i64 s) ∧ W.cell? ⟨Bb, 1, none⟩ = some (.int .i64 al) ∧ W.cell? ⟨Bb, 2, none⟩ = some (.bool bg) ∧ W.cell? ⟨Bb, 3, none⟩ = some u) ∧
    (w.heap.size < W.heap.size ∧ wr.heap.size < W.heap.size ∧ Bb < W.heap.size) :=
  ⟨h.st.t.seven, ⟨h.f.cell 0, h.f.cell 1, h.f.cell 2, h.f.cell 3, h.f.cell 4, h.f.cell 5, h.f.cell 6, h.f.cell 7, h.f.cell 8⟩, ⟨h.b.cell 0, h.b.cell 1, h.b.cell 2, h.b.cell 3⟩, h.st.t.lt, h.f.lt, h.b.lt⟩
theorem afterNewSp {W W' : World} {cs : Array Value} (hb : Below (W.alloc (.cells cs 42)).drew.heap.size (W.alloc (.cells cs 42)).drew W') : Bk W' W.heap.size 42 cs := Bk.below (W := (W.alloc (.cells cs 42)).drew) (Bk.new W _ _) hb
/-- What behind the append is there. -/
theorem RnS.grow {w wr W W' : World} {t : ShT} {A : Int} {v v' : Value} {pre : List (FdOf ShT × Mb)} {f : FdOf ShT} {Bb : Nat} {s al : Int} {bg : Bool} {u : Value} (h : RnS w wr W t A v pre f Bb s al bg u) (m : Mb)
    (hg : W.grownBy W' v.ownBlock) (hn : W'.ownsRow w.heap.size 42 3 v' (pre.length + 1) (spCs (pre.map Prod.snd) ++ spC m)) :
    RnS w wr (W'.setCell ⟨w.heap.size + 1 + 1, 3, none⟩ v') t A v' (pre ++ [(f, m)]) f Bb s al bg u := by
  have q1 : Bk W' w.heap.size 25 t.cs := Bk.rowG h.st.t h.st.row hg (by decide)
  have q2 := h.st.z.rowG h.st.row hg (by decide)
  have q3 := h.st.o.rowG h.st.row hg (by decide)
  have q4 := h.f.rowG h.st.row hg (by decide)
  have q5 := h.b.rowG h.st.row hg (by decide)
  have q6 : Below w.heap.size w W' := h.st.be.grown hg h.st.be.size (fun r e => (row_turnS h.st.row r e).1)
  have hl := h.lt
  refine ⟨⟨Bk.other q1 _ _ (by omega), q2.other _ _ (by omega), q3.set 3 v', ?_, q6.setCell (p := ⟨w.heap.size + 1 + 1, 3, none⟩) (by show w.heap.size ≤ w.heap.size + 1 + 1; omega) _⟩, q4.other _ _ (by omega), q5.other _ _ (by omega), h.lt⟩
  rw [List.map_append, List.map_cons, List.map_nil, spCs_snoc, List.length_append]
  exact ownsRow_setS (i := 3) hn q3 (by decide) v'
theorem RnS.align {w wr W : World} {t : ShT} {A : Int} {v : Value} {pre : List (FdOf ShT × Mb)} {f : FdOf ShT} {Bb : Nat} {s al : Int} {bg : Bool} {u : Value} (h : RnS w wr W t A v pre f Bb s al bg u) (A' : Int) :
    RmS w (W.setCell ⟨w.heap.size + 1 + 1, 1, none⟩ (.int .i64 A')) t A' v pre :=
  ⟨Bk.other h.st.t _ _ (by omega), h.st.z.other _ _ (by omega), h.st.o.set 1 _, ownsRow_setS (i := 1) h.st.row h.st.o (by decide) _, h.st.be.setCell (p := ⟨w.heap.size + 1 + 1, 1, none⟩) (by show w.heap.size ≤ w.heap.size + 1 + 1; omega) _⟩
def put4 (W : World) (R : Nat) (v0 v1 v2 v3 : Value) : World := (((W.setCell ⟨R, 0, none⟩ v0).setCell ⟨R, 1, none⟩ v1).setCell ⟨R, 2, none⟩ v2).setCell ⟨R, 3, none⟩ v3
theorem Bk.put4 {W : World} {R : Nat} {T : TypeId} {a b c d : Value} (h : Bk W R T #[a, b, c, d]) (v0 v1 v2 v3 : Value) : Bk (put4 W R v0 v1 v2 v3) R T #[v0, v1, v2, v3] := (((h.set 0 v0).set 1 v1).set 2 v2).set 3 v3
theorem below_put4 {W0 W : World} {B R : Nat} (h : Below B W0 W) (hR : B ≤ R) (v0 v1 v2 v3 : Value) : Below B W0 (put4 W R v0 v1 v2 v3) :=
  (((h.setCell (p := ⟨R, 0, none⟩) hR v0).setCell (p := ⟨R, 1, none⟩) hR v1).setCell (p := ⟨R, 2, none⟩) hR v2).setCell (p := ⟨R, 3, none⟩) hR v3
theorem row_put4 {W : World} {base n size R : Nat} {e T : TypeId} {v a b c d : Value} {xs : List Value} (h : W.ownsRow base e size v n xs) (hb : Bk W R T #[a, b, c, d]) (hT : T ≠ e) (v0 v1 v2 v3 : Value) : (put4 W R v0 v1 v2 v3).ownsRow base e size v n xs :=
  ownsRow_setS (ownsRow_setS (ownsRow_setS (ownsRow_setS h hb hT v0) (hb.set 0 v0) hT v1) ((hb.set 0 v0).set 1 v1) hT v2) (((hb.set 0 v0).set 1 v1).set 2 v2) hT v3
/-- One cell of the answer's own box is turned. -/
theorem RmS.turn {w W : World} {t : ShT} {A : Int} {v : Value} {pre : List (FdOf ShT × Mb)} (h : RmS w W t A v pre) (i : Nat) (x : Value) :
    Bk (W.setCell ⟨w.heap.size + 1 + 1, i, none⟩ x) (w.heap.size + 1 + 1) 32 ((bxC 0 A false v).setIfInBounds i x) ∧ Bk (W.setCell ⟨w.heap.size + 1 + 1, i, none⟩ x) (w.heap.size + 1) 32 (bxC 0 0 false (.slice none 0 0)) ∧
    Below w.heap.size w (W.setCell ⟨w.heap.size + 1 + 1, i, none⟩ x) ∧ (W.setCell ⟨w.heap.size + 1 + 1, i, none⟩ x).ownsRow w.heap.size 42 3 v pre.length (spCs (pre.map Prod.snd)) :=
  ⟨h.o.set i x, h.z.other _ _ (by omega), h.be.setCell (p := ⟨w.heap.size + 1 + 1, i, none⟩) (by show w.heap.size ≤ w.heap.size + 1 + 1; omega) _, ownsRow_setS h.row h.o (by decide) _⟩
/-- A store in a newer block. -/
theorem RnS.setX {w wr W : World} {t : ShT} {A : Int} {v : Value} {pre : List (FdOf ShT × Mb)} {f : FdOf ShT} {Bb X : Nat} {s al : Int} {bg : Bool} {u : Value} (h : RnS w wr W t A v pre f Bb s al bg u) (hr : RmS w wr t A v pre) (hX : Bb < X) (i : Nat) (x : Value) : RnS w wr (W.setCell ⟨X, i, none⟩ x) t A v pre f Bb s al bg u := by
  have hl := h.lt
  refine ⟨⟨Bk.other h.st.t _ _ (by omega), h.st.z.other _ _ (by omega), h.st.o.other _ _ (by omega), ?_, h.st.be.setCell (p := ⟨X, i, none⟩) (by show w.heap.size ≤ X; omega) _⟩, h.f.other _ _ (by omega), h.b.other _ _ (by omega), h.lt⟩
  refine ⟨h.st.row.1, ?_⟩
  rcases h.st.row.2 with hn | ⟨g, cap, cur, rfl, hbg, hg, hrr⟩
  · exact .inl hn
  · obtain ⟨_, cur', hc'⟩ := row_turnS hr.row g rfl
    have hgl := (Array.getElem?_eq_some_iff.1 hc').1
    exact .inr ⟨g, cap, cur, rfl, hbg, (Below.heap_setCell W ⟨X, i, none⟩ x g (by show g ≠ X; omega)).trans hg, hrr⟩
end Go.Proofs.Ytkiebejidpebdaa
namespace Go.Proofs.Ytkiebejidpebdaa
open Go Go.RowKit Go.Shelf
set_option linter.unusedVariables false
set_option linter.unusedSimpArgs false

theorem wrap8 {z : Int} (h0 : 0 ≤ z) (h1 : z ≤ 65537) : IntKind.i64.wrap (8 * z) = 8 * z := by
  rw [IntKind.wrap_i64]; omega
theorem alF_nil (a : Int) : alF a [] = max 1 a := rfl
theorem enF_nil : enF [] = 0 := rfl
/-- What members' loop keeps. -/
def RMR (w wr : World) (t : ShT) (d : Nat) (ML : List (FdOf ShT × Mb)) (at' en' i : Value) : Prop :=
  ∃ (k : Nat) (x E A : Int) (v : Value) (pre : List (FdOf ShT × Mb)), i = .int .i64 k ∧ at' = .int .i64 x ∧ en' = .int .i64 E ∧ k ≤ t.fs.length ∧ 0 ≤ x ∧ x ≤ 524808 * k ∧ Hid (pre.length = k ∧ E = enF pre ∧ A = alF t.al pre ∧ ML = pre ++ mlM (meaM d) t.pk (t.sh == 4) (if t.sh == 4 then x else 0) (t.fs.drop k)) ∧ Hid (RmS w wr t A v pre)
theorem rmr_next {w wr : World} {t : ShT} {d : Nat} {ML pre' : List (FdOf ShT × Mb)} {a' e' i' v' : Value} {k : Nat} {m1 m2 E' A' : Int} (hi : i' = .int .i64 ((k + 1 : Nat) : Int)) (ha : a' = .int .i64 (m1 + m2)) (he : e' = .int .i64 E') (hk : k < t.fs.length)
    (hs : Hid (0 ≤ m1 ∧ 0 ≤ m2 ∧ m1 + m2 ≤ 524808 * (k + 1) ∧ m1 + m2 ≤ 20992320 ∧ True))
    (hp : Hid (pre'.length = k + 1 ∧ E' = enF pre' ∧ A' = alF t.al pre' ∧ ML = pre' ++ mlM (meaM d) t.pk (t.sh == 4) (if t.sh == 4 then m1 + m2 else 0) (t.fs.drop (k + 1)))) (hr : RmS w wr t A' v' pre') : RMR w wr t d ML a' e' i' := by
  obtain ⟨h0, h1, h2, h3, _⟩ := unveil hs
  exact ⟨k + 1, m1 + m2, E', A', v', pre', hi, ha, he, hk, by omega, by push_cast; omega, hp, hr⟩
set_option maxRecDepth 100000 in
set_option maxHeartbeats 40000000 in
theorem rmembers_any (t : ShT) (d : Nat) (w : World) (hin : t.In w.heap.size w) (hfl : t.fs.length ≤ 40) (hal : t.al ≤ 64) (hs : (t.sh == 4 || t.sh == 5) = true) (hok : ∀ f ∈ t.fs, FOk f (meaM d f.t)) (hff : ∀ f ∈ t.fs, ffM f = true) (heq : ∀ f ∈ t.fs, 0 ≤ f.bits → (meaM d f.t).1 = (meaM d f.t).2)
    (hm : ∀ f ∈ t.fs, ∀ W, f.t.In W.heap.size W → ∃ L, Calls Try.prog 42 #[f.t.v] W (BxP W (meaM d f.t).1 (meaM d f.t).2 (decide (65536 < (meaM d f.t).1)) L)) :
    Calls Try.prog 69 #[t.v] w (BxP w (memM t (t.ml (meaM d))).1 (memM t (t.ml (meaM d))).2 (decide (65536 < (memM t (t.ml (meaM d))).1)) ((t.ml (meaM d)).map Prod.snd)) := by
  have HIN := veil hin
  have HM := veil hm
  have HOK := veil hok
  have HFF := veil hff
  have HEQ := veil heq
  have hmo := ml_ok (meaM d) t.pk (t.sh == 4) t.fs 0 0 hok (by omega) (by omega) (by omega)
  have HEN : Hid (0 ≤ enF (t.ml (meaM d)) ∧ enF (t.ml (meaM d)) ≤ 20992320) := enF_ok _ hmo
  have HAO : Hid (1 ≤ alF t.al (t.ml (meaM d)) ∧ alF t.al (t.ml (meaM d)) ≤ 64) := alF_ok t.al hal _ hmo
  have HMO : Hid (∀ x ∈ t.ml (meaM d), MOk x.2) := hmo
  have HBIG : Hid (∀ f ∈ t.fs, 65536 < (meaM d f.t).1 → decide (65536 < (memM t (t.ml (meaM d))).1) = true) := fun f hfm h => decide_eq_true (big_mem hok hfl hal hfm h)
  have hst : t.sh = 4 ∨ t.sh = 5 := by simpa using hs
  have HST := veil hst
  clear hst
  have HFL := veil hfl
  have HAL := veil hal
  have HMM : Hid ((memM t (t.ml (meaM d))) = (min (upM (upM (enF (t.ml (meaM d))) 8 / 8) (alF t.al (t.ml (meaM d)))) 65537, alF t.al (t.ml (meaM d)))) := rfl
  obtain ⟨R1, hR1⟩ : ∃ x, (memM t (t.ml (meaM d))).1 = x := ⟨_, rfl⟩
  obtain ⟨R2, hR2⟩ : ∃ x, (memM t (t.ml (meaM d))).2 = x := ⟨_, rfl⟩
  rw [hR1] at HBIG
  rw [hR1, hR2]
  have HMM1 : Hid (R1 = min (upM (upM (enF (t.ml (meaM d))) 8 / 8) (alF t.al (t.ml (meaM d)))) 65537 ∧ R2 = alF t.al (t.ml (meaM d))) := ⟨by rw [← hR1, unveil HMM], by rw [← hR2, unveil HMM]⟩
  obtain ⟨ML, HML0⟩ : ∃ ML, Hid (ML = t.ml (meaM d)) := ⟨_, rfl⟩
  rw [← unveil HML0] at HEN HAO HMO HMM1
  rw [← unveil HML0]
  have HRM := veil (RmS.new w t)
  clear hin hm hok hff heq hmo hfl hal hs hR1 hR2 HMM
  have hsv : t.v = .agg t.cs := rfl
  unfold ShT.v ShT.cs at *
  unfold bxC at HRM
  go_enter Try.func69, Try.ntmps69
  go_upto_region 1 with fail
  go_cut [3] (fun c wx => c = .pointer (some ⟨w.heap.size + 1 + 1, 0, none⟩) ∧ Hid (RmS w wx t (max 1 t.al) (.slice none 0 0) []))
  case first =>
    go_wp2_with fail
    all_goals go_meet
    all_goals (
      case rel =>
        refine ⟨by simp, ?_⟩
        first
        | (have h := unveil HRM 1; rw [show max 1 t.al = 1 by omega]; exact h)
        | (have h := unveil HRM t.al; rw [show max 1 t.al = t.al by omega]; exact h))
  case rest =>
    obtain ⟨rfl, HS0⟩ := hcut
    clear HRM
    go_wp2_with fail
    go_loopw [4, 5, 6] (fun at' en' i wr => RMR w wr t d ML at' en' i)
      (fun at' en' i wr => t.fs.length - (intOf i).toNat)
    case atStart =>
      refine ⟨0, 0, 0, max 1 t.al, .slice none 0 0, [], rfl, rfl, rfl, Nat.zero_le _, by omega, by omega, ⟨rfl, rfl, rfl, ?_⟩, HS0⟩
      rw [unveil HML0, List.drop_zero, List.nil_append]
      unfold ShT.ml
      congr 1
      split <;> rfl
    case round =>
      obtain ⟨k, x, E, A, v, pre, rfl, rfl, rfl, hk, hx0, hx1, hpp, hrs⟩ := hrel
      obtain ⟨vq, vc, rfl⟩ := row_slice (unveil hrs).row
      generalize hvn : pre.length = vn at *
      have HVN := veil hvn
      clear hvn
      obtain ⟨y0, y1, y2, y3, y4, y5, y6⟩ := (unveil hrs).t.seven
      by_cases hkl : k < t.fs.length
      · obtain ⟨g, o, hfp, hg, hc, hnl, hfin⟩ := ((unveil HIN).below (unveil hrs).be).fs k hkl
        obtain ⟨d0, d1, d2, d3, d4, d5, d6, d7, d8⟩ := nine hc
        have hmem : t.fs[k] ∈ t.fs := List.getElem_mem _
        have hfo := unveil HOK _ hmem
        have hef := unveil HEQ _ hmem
        have hffk := unveil HFF _ hmem
        have hbgk := unveil HBIG _ hmem
        have hdr : t.fs.drop k = t.fs[k] :: t.fs.drop (k + 1) := List.drop_eq_getElem_cons hkl
        obtain ⟨L, hL⟩ := unveil HM _ hmem (wr.alloc (.cells t.fs[k].cs 45)) (((hfin.mono (unveil hrs).be.size).below ((Below.refl _ wr).alloc (Nat.le_refl _) _)).mono (by simp))
        have hpp2 := unveil hpp
        rw [hdr, mlM] at hpp2
        obtain ⟨xx, hxx⟩ : ∃ xx, (if t.sh == 4 then x else 0) = xx := ⟨_, rfl⟩
        rw [hxx] at hpp2
        have hxx0 : 0 ≤ xx := by rw [← hxx]; split <;> omega
        have hxx1 : xx ≤ 524808 * k := by rw [← hxx]; split <;> omega
        have hnew : ∀ W1, Below (wr.alloc (.cells t.fs[k].cs 45)).heap.size (wr.alloc (.cells t.fs[k].cs 45)) W1 → ∀ s al bg u, RnS w wr (W1.alloc (.cells (bxC s al bg u) 32)) t A (.slice vq vn vc) pre t.fs[k] W1.heap.size s al bg u := fun W1 hb s al bg u => RnS.new (unveil hrs) _ hb s al bg u
        rw [hfp] at y4
        have hglt : g < wr.heap.size := World.block_lt_of_cell? wr _ d0
        have hnxt := fun bg v W => next_any t t.fs[k] (meaM d t.fs[k].t).1 (meaM d t.fs[k].t).2 bg v xx W hfo hxx0 (by have := unveil HFL; omega)
        have hbnd := lay_bound hfo hxx0 t.pk
        have hlal := fun A hA => lay_al hfo hffk hef (A := A) hA xx t.pk
        have hmbits : (layM (meaM d t.fs[k].t) t.fs[k] xx t.pk).bits = (if t.fs[k].bits ≥ 0 then t.fs[k].bits else 8 * (meaM d t.fs[k].t).1) ∧ (layM (meaM d t.fs[k].t) t.fs[k] xx t.pk).k = t.fs[k].t.k := by
          unfold layM
          by_cases hb : 0 ≤ t.fs[k].bits
          · rw [if_pos hb, if_pos hb]; exact ⟨rfl, rfl⟩
          · rw [if_neg hb, if_neg hb]; exact ⟨rfl, rfl⟩
        obtain ⟨o1, o2, o3, o4, o5⟩ := hfo
        rw [hfp]
        clear hc hnl hfin hmem hdr hpp
        generalize hf : t.fs[k] = f at *
        clear hf
        generalize hM : layM (meaM d f.t) f xx t.pk = M at *
        clear hM
        obtain ⟨m1, m2, m3, m4⟩ := M
        simp only at hbnd hmbits hnxt hlal
        obtain ⟨rfl, hm3⟩ : m3 = f.t.k ∧ True := ⟨hmbits.2, trivial⟩
        replace hmbits := hmbits.1
        generalize meaM d f.t = E2 at *
        obtain ⟨z, a⟩ := E2
        simp only at *
        obtain ⟨bg, hbg⟩ : ∃ bg, decide (65536 < z) = bg := ⟨_, rfl⟩
        rw [hbg] at hL
        have HL := veil hL
        have HNEW := veil hnew
        have HNXT := veil hnxt
        have HBND := veil hbnd
        have HLAL := veil hlal
        have HMB := veil hmbits
        have HPP := veil hpp2
        have HXX := veil hxx
        have HBG := veil hbg
        have HBGK := veil hbgk
        have HA1 := veil (show 1 ≤ A from by
          rw [hpp2.2.2.1]
          exact (alF_ok t.al (unveil HAL) pre (fun y hy => unveil HMO y (by rw [hpp2.2.2.2]; exact List.mem_append_left _ hy))).1)
        have HEND := veil (show ∀ A', A' = max A m4 → ((pre ++ [(f, (⟨m1, m2, f.t.k, m4⟩ : Mb))]).length = k + 1 ∧ max E (m1 + m2) = enF (pre ++ [(f, ⟨m1, m2, f.t.k, m4⟩)]) ∧ A' = alF t.al (pre ++ [(f, ⟨m1, m2, f.t.k, m4⟩)]) ∧ ML = (pre ++ [(f, ⟨m1, m2, f.t.k, m4⟩)]) ++ mlM (meaM d) t.pk (t.sh == 4) (if t.sh == 4 then m1 + m2 else 0) (t.fs.drop (k + 1))) from fun A' hA' => by
          have hvv := unveil HVN
          obtain ⟨g1, g2, g3, g4⟩ := hpp2
          refine ⟨by rw [List.length_append, List.length_cons, List.length_nil]; omega, by rw [enF_snoc, ← g2], by rw [alF_snoc, ← g3, hA'], ?_⟩
          rw [g4, List.append_assoc]
          congr 2
          rw [← hxx]
          cases t.sh == 4 <;> rfl)
        have hk40 : k ≤ 1000 := by have := unveil HFL; omega
        have HSUM := veil (show 0 ≤ m1 ∧ 0 ≤ m2 ∧ m1 + m2 ≤ 524808 * (k + 1) ∧ m1 + m2 ≤ 20992320 ∧ vn + 1 ≤ 40 from by have h40 := unveil HFL; have hkk := hpp2.1; have hvv := unveil HVN; refine ⟨by omega, by omega, by omega, by omega, by omega⟩)
        have HO := veil (show 0 ≤ z ∧ z ≤ 65537 ∧ 1 ≤ a ∧ a ≤ 64 from ⟨o1, o2, o3, o4⟩)
        have HK := veil hk
        have HX := veil (And.intro hx0 hx1)
        clear hL hnew hnxt hbnd hlal hmbits hpp2 hxx hbg hbgk hef hffk o1 o2 o3 o4 o5 hxx0 hxx1 hm3 hk hx0 hx1 HIN HM HOK HFF HEQ HBIG HMO HML0 HFL HAL
        unfold FdOf.v FdOf.cs at *
        unfold ShT.v ShT.cs at HNXT
        rw [hfp] at HNXT
        unfold bxC at HNEW
        go_upto_region 9 with (go_at_call 42; refine (unveil HL).mono ?_; rintro e W1 ⟨s, al, uq, un, uc, he, hb1, hpost⟩; unfold bxC at he; subst he; have HN := veil (unveil HNEW W1 hb1 s al bg (.slice uq un uc)); have HPO := veil (fun h => And.intro (hpost h).1 (hpost h).2.1); clear hb1 hpost)
        generalize (W1.alloc (.cells #[.int .i64 s, .int .i64 al, .bool bg, .slice uq un uc] 32)) = W2 at HN ⊢
        generalize W1.heap.size = Bb at HN ⊢
        clear y0 y1 y2 y3 y4 y5 y6 d0 d1 d2 d3 d4 d5 d6 d7 d8 hglt HNEW
        obtain ⟨⟨c0, c1, c2, c3, c4, c5, c6⟩, ⟨e0, e1, e2, e3, e4, e5, e6, e7, e8⟩, ⟨b0, b1, b2, b3⟩, lt0, lt1, lt2⟩ := (unveil HN).all
        cases bg
        · obtain ⟨rfl, rfl⟩ := unveil HPO rfl
          clear HPO HBG HBGK
          obtain ⟨o1, o2, o3, o4⟩ := unveil HO
          go_upto_if 35 with fail
          go_cut [4] from 14 to 81 (fun c wx => c = .int .i64 xx ∧ wx = W2)
          case first =>
            cases h5 : t.sh == 5
            all_goals
              go_wp2_with fail
              go_meet
              case rel =>
                refine ⟨?_, rfl⟩
                rw [← unveil HXX]
                have h6 := unveil HST
                have h7 : t.sh = 4 ∨ t.sh = 5 := h6
                rcases h7 with h7 | h7 <;> rw [h7] at h5 ⊢ <;> first | rfl | cases h5
          case rest =>
            obtain ⟨h1, h2⟩ := hcut
            subst h1
            obtain rfl := h2.symm
            clear h2
            go_upto_region 14 with fail
            go_cut [9] from 14 to 81 (fun c wx => ∃ X, c = .pointer (some ⟨X, 0, none⟩) ∧ Hid (∃ y, y = 8 * s ∧ Bk wx X 42 #[.int .i64 m1, .int .i64 y, .int .i64 f.t.k]) ∧ Hid (RnS w wr wx t A (.slice vq vn vc) pre f Bb s al false (.slice uq un uc)) ∧ Bb < X)
            case first =>
              clear HAO HEN HMM1 HBND HLAL HMB HPP HXX HK HX hrs HST
              have HS2 : Hid (∀ W, Below W2.heap.size W2 W → RnS w wr W t A (.slice vq vn vc) pre f Bb s al false (.slice uq un uc)) := fun W h => (unveil HN).below h
              refine wp_region_noPanic (wpIn_wide.1 (wpIn_region_sch (ro := none) (n := 0) (fun w' => Hid (RnS w wr w' t A (.slice vq vn vc) pre f Bb s al false (.slice uq un uc)))
                (.pure 0 (.pure 1 (.pure 2 (.pure 3 (.pure 5 (.pure 6 (.pure 7 (.pure 8 (.pure 9 (.pure 10 (.both 4 12 (.pure 11 (.sole 12 .done)) (.sole 4 (.pure 11 .done))))))))))))) 
                13 hmixW (by kernel_rfl) (by kernel_rfl) (by kernel_rfl) (by kernel_rfl) (by kernel_rfl) (by kernel_rfl) (fun _ _ _ _ h => h) (unveil HS2 _ (Below.refl _ W2).drew) ?_))
              iterate 10 (
                refine sch_pure _ rfl _ (.inl ⟨rfl, fun W hS => (by obtain ⟨⟨c0, c1, c2, c3, c4, c5, c6⟩, ⟨e0, e1, e2, e3, e4, e5, e6, e7, e8⟩, ⟨b0, b1, b2, b3⟩, lt0, lt1, lt2⟩ := (unveil hS).all; go_simp; rfl)⟩) (fun B hB => ?_)
                simp only [Act.put, List.setIfInBounds_toArray, List.set_cons_zero, List.set_cons_succ] at hB
                subst hB)
              refine sch_both ?_ ?_
              · refine sch_sole _ rfl (fun K hK => ?_)
                go_simp
                refine ⟨trivial, rfl, (callsIn_wide.2 (unveil HNXT _ _ _)).mono ?_⟩
                rintro e W5 ⟨rfl, hb5⟩
                have hB5 : Below W2.heap.size W2 W5 := (Below.refl _ W2).drew.trans hb5
                refine hK _ _ (unveil HS2 _ hB5) ?_
                clear hK K hb5
                refine sch_pure _ rfl _ (.inl ⟨rfl, fun W hS => (by go_simp; rfl)⟩) (fun B hB => ?_)
                simp only [Act.put, List.setIfInBounds_toArray, List.set_cons_zero, List.set_cons_succ] at hB
                subst hB
                refine sch_sole _ rfl (fun K hK => ?_)
                go_simp
                have hB6 := hB5.alloc hB5.size (.cells #[.int .i64 0, .int .i64 0, .int .i64 0] 42)
                refine hK _ _ (unveil HS2 _ hB6) ?_
                clear hK K
                refine sch_done ?_
                refine listIn_last rfl (fun K hK => ?_)
                go_simp
                refine hK _ _ ?_
                clear hK K
                go_wp2_with fail
                go_meet
                case rel =>
                  have hq := Bk.new W5 42 #[.int .i64 0, .int .i64 0, .int .i64 0]
                  first
                  | exact ⟨_, rfl, ⟨_, wrap8 o1 o2, Bk.new _ _ _⟩, unveil HS2 _ (hB5.alloc hB5.size _), by have := hB5.size; omega⟩
                  | exact ⟨_, rfl, ⟨_, wrap8 o1 o2, ((hq.set 0 _).set 1 _).set 2 _⟩, unveil HS2 _ (((hB6.setCell (p := ⟨W5.heap.size, 0, none⟩) hB5.size _).setCell (p := ⟨W5.heap.size, 1, none⟩) hB5.size _).setCell (p := ⟨W5.heap.size, 2, none⟩) hB5.size _), by have := hB5.size; omega⟩
              · refine sch_sole _ rfl (fun K hK => ?_)
                go_simp
                have hB4 : Below W2.heap.size W2 (W2.alloc (.cells #[.int .i64 0, .int .i64 0, .int .i64 0] 42)).drew := ((Below.refl _ W2).alloc (Nat.le_refl _) _).drew
                refine hK _ _ (unveil HS2 _ hB4) ?_
                clear hK K
                refine sch_sole _ rfl (fun K hK => ?_)
                go_simp
                refine ⟨trivial, rfl, (callsIn_wide.2 (unveil HNXT _ _ _)).mono ?_⟩
                rintro e W5 ⟨rfl, hb5⟩
                have hB5 : Below W2.heap.size W2 W5 := hB4.trans (hb5.mono hB4.size)
                have hq := afterNewSp hb5
                refine hK _ _ (unveil HS2 _ hB5) ?_
                clear hK K hb5
                refine sch_pure _ rfl _ (.inl ⟨rfl, fun W hS => (by go_simp; rfl)⟩) (fun B hB => ?_)
                simp only [Act.put, List.setIfInBounds_toArray, List.set_cons_zero, List.set_cons_succ] at hB
                subst hB
                refine sch_done ?_
                refine listIn_last rfl (fun K hK => ?_)
                have x0 := hq.cell 0
                have x1 := hq.cell 1
                have x2 := hq.cell 2
                have f0 := hq.frozen 0
                have f1 := hq.frozen 1
                have f2 := hq.frozen 2
                simp only [List.getElem?_toArray, List.getElem?_cons_succ, List.getElem?_cons_zero] at x0 x1 x2
                have HQ := veil hq
                have HB5 := veil hB5
                clear hq hB5 hB4
                go_simp
                refine hK _ _ ?_
                clear hK K
                go_wp2_with fail
                go_meet
                case rel =>
                  exact ⟨_, rfl, ⟨_, wrap8 o1 o2, (((unveil HQ).set 0 _).set 1 _).set 2 _⟩, unveil HS2 _ ((((unveil HB5).setCell (p := ⟨W2.heap.size, 0, none⟩) (Nat.le_refl _) _).setCell (p := ⟨W2.heap.size, 1, none⟩) (Nat.le_refl _) _).setCell (p := ⟨W2.heap.size, 2, none⟩) (Nat.le_refl _) _), by omega⟩
            case rest =>
              obtain ⟨X, rfl, hX, hN', hBX⟩ := hcut
              rename World => W6
              clear c0 c1 c2 c3 c4 c5 c6 e0 e1 e2 e3 e4 e5 e6 e7 e8 b0 b1 b2 b3 lt0 lt1 lt2 HN HNXT
              obtain ⟨⟨c0, c1, c2, c3, c4, c5, c6⟩, ⟨e0, e1, e2, e3, e4, e5, e6, e7, e8⟩, ⟨b0, b1, b2, b3⟩, lt0, lt1, lt2⟩ := (unveil hN').all
              obtain ⟨yy, hyy, hXX⟩ := unveil hX
              have HYY := veil hyy
              have HXB := veil hXX
              have x0 := hXX.cell 0
              have x1 := hXX.cell 1
              have x2 := hXX.cell 2
              have xf := hXX.frozen 1
              simp only [List.getElem?_toArray, List.getElem?_cons_succ, List.getElem?_cons_zero] at x0 x1 x2
              clear hX hyy hXX
              go_upto_if 50 with fail
              go_cut [] from 14 to 81 (fun wx => Hid (Bk wx X 42 #[.int .i64 m1, .int .i64 m2, .int .i64 f.t.k]) ∧ Hid (RnS w wr wx t A (.slice vq vn vc) pre f Bb s al false (.slice uq un uc)))
              case first =>
                by_cases hbi : f.bits ≥ 0
                · go_wp2_with fail
                  go_meet
                  case rel =>
                    refine ⟨?_, (unveil hN').setX (unveil hrs) hBX _ _⟩
                    have h1 := (unveil HXB).set 1 (.int .i64 f.bits)
                    have h2 := unveil HMB
                    rw [if_pos (by omega)] at h2
                    rw [h2]
                    exact h1
                · go_wp2_with fail
                  go_meet
                  case rel =>
                    refine ⟨?_, hN'⟩
                    have h2 := unveil HMB
                    rw [if_neg (by omega)] at h2
                    rw [h2, ← unveil HYY]
                    exact HXB
              case rest =>
                obtain ⟨hX7, hN7⟩ := hcut
                rename World => W7
                clear c0 c1 c2 c3 c4 c5 c6 e0 e1 e2 e3 e4 e5 e6 e7 e8 b0 b1 b2 b3 lt0 lt1 lt2 hN' HYY HXB x0 x1 x2 xf
                obtain ⟨⟨c0, c1, c2, c3, c4, c5, c6⟩, ⟨e0, e1, e2, e3, e4, e5, e6, e7, e8⟩, ⟨b0, b1, b2, b3⟩, lt0, lt1, lt2⟩ := (unveil hN7).all
                have x0 := (unveil hX7).cell 0
                have x1 := (unveil hX7).cell 1
                have x2 := (unveil hX7).cell 2
                have xl := (unveil hX7).lt
                simp only [List.getElem?_toArray, List.getElem?_cons_succ, List.getElem?_cons_zero] at x0 x1 x2
                obtain ⟨s1, s2, s3, s4, s5⟩ := unveil HSUM
                go_upto_region 18 with fail
                go_cut [5] from 14 to 81 (fun c wx => c = .int .i64 (max E (m1 + m2)) ∧ wx = W7)
                case first =>
                  go_wp2_with fail
                  all_goals go_meet
                  all_goals (
                    case rel =>
                      refine ⟨?_, rfl⟩
                      first
                      | (rw [show max E (m1 + m2) = E by omega])
                      | (rw [show max E (m1 + m2) = m1 + m2 by omega]))
                case rest =>
                  obtain ⟨h1, h2⟩ := hcut
                  subst h1
                  obtain rfl := h2.symm
                  clear h2
                  have hrow7 := (unveil hN7).st.row
                  rw [unveil HVN] at hrow7
                  have hN8 := (unveil hN7).below ((Below.refl _ W7).alloc (Nat.le_refl _) (.cells (spC ⟨m1, m2, f.t.k, m4⟩).toArray 42))
                  have hrowa : (W7.alloc (.cells (spC ⟨m1, m2, f.t.k, m4⟩).toArray 42)).ownsRow w.heap.size 42 3 (.slice vq vn vc) vn (spCs (pre.map Prod.snd)) := hrow7.alloc _
                  obtain ⟨q0, q1, q2, q3, qf0, qf1, qf2, qf3⟩ := (unveil hN7).st.cells
                  have hzW : w.heap.size ≤ W7.heap.size := by omega
                  have HN8 := veil hN8
                  have lt3 := (unveil hN7).st.lt.2.2
                  obtain ⟨i0, hi, hz0, hz1, hz2'⟩ := info_parts infoSp
                  clear hrow7 hN8
                  go_upto_region 20 with (at_builtin; refine wpList_append_own _ rfl _ _ 30 rfl w.heap.size 42 i0 _ 3 24 Try.underlying30 hi hz0 hz1 hz2' rfl (by decide) _ _ _ rfl hrowa ⟨W7.heap.size, 0, none⟩ 1 1 (spC ⟨m1, m2, f.t.k, m4⟩) rfl rfl (sp_cells W7 ⟨m1, m2, f.t.k, m4⟩ 42) (by intro u hu; simp [spC] at hu; rcases hu with rfl | rfl | rfl <;> rfl) (by unfold maxLen; omega) (by omega) (by simp; omega) ?_; intro v' W8 hown' hgrow _; obtain ⟨g', cap', rfl⟩ := ownsRow_succS hown'; have p3 := ((unveil HN8).st.o.rowG hrowa hgrow (by decide)).cell 3; have pf3 := ((unveil HN8).st.o.rowG hrowa hgrow (by decide)).frozen 3; unfold bxC at p3; simp only [List.getElem?_toArray, List.getElem?_cons_succ, List.getElem?_cons_zero] at p3)
                  have HN9 := veil (RnS.grow (unveil HN8) ⟨m1, m2, f.t.k, m4⟩ hgrow (by rw [unveil HVN]; exact hown'))
                  generalize (W8.setCell ⟨w.heap.size + 1 + 1, 3, none⟩ (.slice (some ⟨g', 0, none⟩) (vn + 1) cap')) = W9 at HN9 ⊢
                  clear c0 c1 c2 c3 c4 c5 c6 e0 e1 e2 e3 e4 e5 e6 e7 e8 b0 b1 b2 b3 lt0 lt1 lt2 lt3 q0 q1 q2 q3 qf0 qf1 qf2 qf3 x0 x1 x2 xl hgrow hown' p3 pf3 hrowa HN8 hi hz0 hz1 hz2' hN7 hX7 hzW
                  obtain ⟨⟨c0, c1, c2, c3, c4, c5, c6⟩, ⟨e0, e1, e2, e3, e4, e5, e6, e7, e8⟩, ⟨b0, b1, b2, b3⟩, lt0, lt1, lt2⟩ := (unveil HN9).all
                  obtain ⟨q0, q1, q2, q3, qf0, qf1, qf2, qf3⟩ := (unveil HN9).st.cells
                  obtain ⟨C, hC⟩ : ∃ C, (!t.pk && !f.nm.isEmpty) = C := ⟨_, rfl⟩
                  have HC := veil hC
                  have hmx := unveil HLAL A (unveil HA1)
                  rw [hC] at hmx
                  have HMX := veil hmx
                  clear hC hmx
                  go_cut [75] from 14 to 81 (fun c wx => c = .bool C ∧ wx = W9)
                  case first =>
                    clear HEND HLAL HMX HMB HPP HXX HK HX hrs HST HN9 HS0
                    generalize t.pk = pk at *
                    generalize f.nm = nm at *
                    cases pk
                    · cases hnm : nm.isEmpty
                      all_goals
                        go_wp2_with fail
                        go_meet
                        case rel => exact ⟨by rw [← unveil HC, hnm]; rfl, rfl⟩
                    · go_wp2_with fail
                      go_meet
                      case rel => exact ⟨by rw [← unveil HC]; rfl, rfl⟩
                  case rest =>
                    obtain ⟨h1, h2⟩ := hcut
                    subst h1
                    obtain rfl := h2.symm
                    clear h2 HC HLAL
                    cases C
                    · have HE2 := veil (unveil HEND A (by have := unveil HMX; simp only [Bool.false_eq_true, if_false] at this; exact this.symm))
                      clear HEND HMX
                      go_wp2_with fail
                      go_roundw
                      case rel => refine rmr_next (k := k) (A' := A) (m1 := m1) (m2 := m2) ?_ ?_ ?_ hkl (veil (by obtain ⟨z1, z2, z3, z4, _⟩ := unveil HSUM; exact ⟨z1, z2, z3, z4, trivial⟩)) HE2 (unveil HN9).st <;> first | rfl | go_num
                      case measure => simp [intOf]; omega
                    · have HE2 := veil (unveil HEND (max A al) (by have := unveil HMX; simp only [if_true] at this; exact this.symm))
                      clear HEND HMX
                      go_wp2_with fail
                      go_roundw
                      case rel =>
                        have HZ := veil (show 0 ≤ m1 ∧ 0 ≤ m2 ∧ m1 + m2 ≤ 524808 * (k + 1) ∧ m1 + m2 ≤ 20992320 ∧ True by obtain ⟨z1, z2, z3, z4, _⟩ := unveil HSUM; exact ⟨z1, z2, z3, z4, trivial⟩)
                        have hA' : (if A < al then al else A) = max A al := by split <;> omega
                        rw [hA']
                        refine rmr_next (k := k) (A' := max A al) (m1 := m1) (m2 := m2) ?_ ?_ ?_ hkl HZ HE2 ((unveil HN9).align (max A al)) <;> first | rfl | go_num
                      case measure => simp [intOf]; omega
        · have hR : decide (65536 < R1) = true := unveil HBGK (of_decide_eq_true (unveil HBG))
          have HRR := veil hR
          clear hR HPO HBG HBGK HL HNXT
          obtain ⟨q0, q1, q2, q3, qf0, qf1, qf2, qf3⟩ := (unveil HN).st.cells
          go_upto_region 11 with fail
          have HT3 := veil ((unveil HN).st.turn 2 (.bool true))
          generalize (W2.setCell ⟨w.heap.size + 1 + 1, 2, none⟩ (.bool true)) = W3 at HT3 ⊢
          clear c0 c1 c2 c3 c4 c5 c6 e0 e1 e2 e3 e4 e5 e6 e7 e8 b0 b1 b2 b3 q0 q1 q2 q3 qf0 qf1 qf2 qf3
          unfold bxC at HT3
          have q0 := (unveil HT3).1.cell 0
          have q1 := (unveil HT3).1.cell 1
          have q2 := (unveil HT3).1.cell 2
          have q3 := (unveil HT3).1.cell 3
          have p0 := (unveil HT3).2.1.cell 0
          have p1 := (unveil HT3).2.1.cell 1
          have p2 := (unveil HT3).2.1.cell 2
          have p3 := (unveil HT3).2.1.cell 3
          have f0 := (unveil HT3).2.1.frozen 0
          have f1 := (unveil HT3).2.1.frozen 1
          have f2 := (unveil HT3).2.1.frozen 2
          have f3 := (unveil HT3).2.1.frozen 3
          simp only [List.getElem?_toArray, List.getElem?_cons_succ, List.getElem?_cons_zero, List.setIfInBounds_toArray, List.set_cons_succ, List.set_cons_zero] at q0 q1 q2 q3 p0 p1 p2 p3
          go_wp2_with fail
          refine bodyPost_ret (res_b (f := Try.f69) rfl rfl ((unveil HT3).2.1.put4 _ _ _ _) rfl) rfl ⟨0, A, vq, vn, vc, ?_, below_put4 (unveil HT3).2.2.1 (by omega) _ _ _ _, fun h => ?_⟩
          · rw [unveil HRR]; rfl
          · rw [unveil HRR] at h; cases h
      · obtain rfl : k = t.fs.length := by omega
        have hpp2 := unveil hpp
        rw [List.drop_length, mlM, List.append_nil] at hpp2
        obtain ⟨hvk, hE, hA, rfl⟩ := hpp2
        clear hvk
        have HE := veil hE
        have HA := veil hA
        obtain ⟨n1, n2⟩ := unveil HEN
        obtain ⟨a1, a2⟩ := unveil HAO
        rw [← hE] at n1 n2
        rw [← hA] at a1 a2
        obtain ⟨u1, u2, _⟩ := upM_le (n := E) (m := 8) n1 (by omega)
        have HU1 := veil (fun W => Rup_any E 8 W n1 (by omega) (by omega) (by omega))
        have HU2 := veil (fun W => Rup_any (upM E 8 / 8) A W (by omega) (by omega) a1 (by omega))
        obtain ⟨v1, v2, _⟩ := upM_le (n := upM E 8 / 8) (m := A) (by omega) a1
        have HR : Hid (R1 = min (upM (upM E 8 / 8) A) 65537 ∧ R2 = A) := ⟨by rw [hE, hA]; exact (unveil HMM1).1, by rw [hA]; exact (unveil HMM1).2⟩
        clear hE hA hpp HIN HM HOK HFF HEQ HBIG HMO HML0 HFL HAL HMM1 HEN HAO HE HA hkl hk hx0 hx1 HS0 HST
        generalize upM E 8 = U at *
        generalize upM (U / 8) A = S at *
        have HS2 : Hid (∀ W, Below wr.heap.size wr W → RmS w W t A (.slice vq vn vc) ML) := fun W h => (unveil hrs).below h
        go_upto_region 22 with fail
        refine wp_region_noPanic (wpIn_wide.1 (wpIn_region_sch (ro := none) (n := 0) (fun w' => Hid (RmS w w' t A (.slice vq vn vc) ML))
          (.pure 0 (.pure 3 (.pure 4 (.sole 1 (.pure 2 (.sole 5 (.pure 6 .done)))))))
          7 hmixW (by kernel_rfl) (by kernel_rfl) (by kernel_rfl) (by kernel_rfl) (by kernel_rfl) (by kernel_rfl) (fun _ _ _ _ h => h) (unveil HS2 _ (Below.refl _ wr).drew) ?_))
        iterate 3 (
          refine sch_pure _ rfl _ (.inl ⟨rfl, fun W hS => (by obtain ⟨q0, q1, q2, q3, qf0, qf1, qf2, qf3⟩ := (unveil hS).cells; go_simp; rfl)⟩) (fun B hB => ?_)
          simp only [Act.put, List.setIfInBounds_toArray, List.set_cons_zero, List.set_cons_succ] at hB
          subst hB)
        refine sch_sole _ rfl (fun K hK => ?_)
        go_simp
        refine ⟨trivial, rfl, (callsIn_wide.2 (unveil HU1 _)).mono ?_⟩
        rintro e W5 ⟨rfl, hw5⟩
        obtain rfl := hw5.symm
        refine hK _ _ (unveil HS2 _ (Below.refl _ wr).drew) ?_
        clear hK K
        refine sch_pure _ rfl (.int .i64 (U / 8)) (.inl ⟨rfl, fun W hS => ?_⟩) (fun B hB => ?_)
        · go_simp
          rw [Int.tdiv_eq_ediv_of_nonneg (by omega), IntKind.wrap_i64]
          omega
        simp only [List.getElem_toArray, List.getElem_cons_zero, List.getElem_cons_succ, Act.put, List.setIfInBounds_toArray, List.set_cons_zero, List.set_cons_succ] at hB
        subst hB
        refine sch_sole _ rfl (fun K hK => ?_)
        go_simp
        refine ⟨trivial, rfl, (callsIn_wide.2 (unveil HU2 _)).mono ?_⟩
        rintro e W5 ⟨rfl, hw5⟩
        obtain rfl := hw5.symm
        refine hK _ _ (unveil HS2 _ (Below.refl _ wr).drew) ?_
        clear hK K
        refine sch_pure _ rfl _ (.inl ⟨rfl, fun W hS => (by obtain ⟨q0, q1, q2, q3, qf0, qf1, qf2, qf3⟩ := (unveil hS).cells; go_simp; rfl)⟩) (fun B hB => ?_)
        simp only [Act.put, List.setIfInBounds_toArray, List.set_cons_zero, List.set_cons_succ] at hB
        subst hB
        refine sch_done ?_
        refine listIn_last rfl (fun K hK => ?_)
        obtain ⟨q0, q1, q2, q3, qf0, qf1, qf2, qf3⟩ := (unveil hrs).cells
        go_simp
        refine hK _ _ ?_
        clear hK K
        clear q0 q1 q2 q3 qf0 qf1 qf2 qf3 y0 y1 y2 y3 y4 y5 y6
        have ht := (unveil hrs).turn 0 (.int .i64 S)
        have HT3 : Hid (Bk (wr.setCell ⟨w.heap.size + 1 + 1, 0, none⟩ (.int .i64 S)).drew (w.heap.size + 1 + 1) 32 #[.int .i64 S, .int .i64 A, .bool false, .slice vq vn vc] ∧ Bk (wr.setCell ⟨w.heap.size + 1 + 1, 0, none⟩ (.int .i64 S)).drew (w.heap.size + 1) 32 #[.int .i64 0, .int .i64 0, .bool false, .slice none 0 0] ∧
            Below w.heap.size w (wr.setCell ⟨w.heap.size + 1 + 1, 0, none⟩ (.int .i64 S)).drew ∧ (wr.setCell ⟨w.heap.size + 1 + 1, 0, none⟩ (.int .i64 S)).drew.ownsRow w.heap.size 42 3 (.slice vq vn vc) ML.length (spCs (ML.map Prod.snd))) := ⟨ht.1, ht.2.1, ht.2.2.1.drew, ht.2.2.2⟩
        generalize (wr.setCell ⟨w.heap.size + 1 + 1, 0, none⟩ (.int .i64 S)).drew = W3 at HT3 ⊢
        clear ht
        have q0 := (unveil HT3).1.cell 0
        have q2 := (unveil HT3).1.cell 2
        have qf2 := (unveil HT3).1.frozen 2
        simp only [List.getElem?_toArray, List.getElem?_cons_succ, List.getElem?_cons_zero] at q0 q2
        go_upto_region 24 with fail
        have HT4 : Hid (Bk (W3.setCell ⟨w.heap.size + 1 + 1, 2, none⟩ (.bool (decide (65536 < S)))) (w.heap.size + 1 + 1) 32 #[.int .i64 S, .int .i64 A, .bool (decide (65536 < S)), .slice vq vn vc] ∧ Bk (W3.setCell ⟨w.heap.size + 1 + 1, 2, none⟩ (.bool (decide (65536 < S)))) (w.heap.size + 1) 32 #[.int .i64 0, .int .i64 0, .bool false, .slice none 0 0] ∧
            Below w.heap.size w (W3.setCell ⟨w.heap.size + 1 + 1, 2, none⟩ (.bool (decide (65536 < S)))) ∧ (W3.setCell ⟨w.heap.size + 1 + 1, 2, none⟩ (.bool (decide (65536 < S)))).ownsRow w.heap.size 42 3 (.slice vq vn vc) ML.length (spCs (ML.map Prod.snd))) :=
          ⟨(unveil HT3).1.set 2 _, (unveil HT3).2.1.other _ _ (by omega), (unveil HT3).2.2.1.setCell (p := ⟨w.heap.size + 1 + 1, 2, none⟩) (by show w.heap.size ≤ w.heap.size + 1 + 1; omega) _, ownsRow_setS (unveil HT3).2.2.2 (unveil HT3).1 (by decide) _⟩
        generalize hbb : decide (65536 < S) = bb at *
        have HBB := veil hbb
        clear hbb q0 q2 qf2
        generalize (W3.setCell ⟨w.heap.size + 1 + 1, 2, none⟩ (.bool bb)) = W4 at HT4 ⊢
        have q0 := (unveil HT4).1.cell 0
        have q1 := (unveil HT4).1.cell 1
        have q2 := (unveil HT4).1.cell 2
        have q3 := (unveil HT4).1.cell 3
        have p0 := (unveil HT4).2.1.cell 0
        have p1 := (unveil HT4).2.1.cell 1
        have p2 := (unveil HT4).2.1.cell 2
        have p3 := (unveil HT4).2.1.cell 3
        have f0 := (unveil HT4).2.1.frozen 0
        have f1 := (unveil HT4).2.1.frozen 1
        have f2 := (unveil HT4).2.1.frozen 2
        have f3 := (unveil HT4).2.1.frozen 3
        simp only [List.getElem?_toArray, List.getElem?_cons_succ, List.getElem?_cons_zero] at q0 q1 q2 q3 p0 p1 p2 p3
        go_wp2_with fail
        have hdd : decide (65536 < R1) = bb := by
          rw [← unveil HBB, (unveil HR).1]
          rw [Bool.eq_iff_iff]
          simp only [decide_eq_true_eq]
          omega
        refine bodyPost_ret (res_b (f := Try.f69) rfl rfl ((unveil HT4).2.1.put4 _ _ _ _) rfl) rfl ⟨S, A, vq, vn, vc, ?_, below_put4 (unveil HT4).2.2.1 (by omega) _ _ _ _, fun h => ⟨?_, (unveil HR).2.symm, ?_⟩⟩
        · rw [hdd]; rfl
        · rw [hdd, ← unveil HBB] at h
          have h2 := of_decide_eq_false h
          rw [(unveil HR).1]
          omega
        · rw [List.length_map]
          exact row_put4 (unveil HT4).2.2.2 (unveil HT4).2.1 (by decide) _ _ _ _
end Go.Proofs.Ytkiebejidpebdaa
namespace Go.Proofs.Ytkiebejidpebdaa
open Go Go.RowKit Go.Shelf
set_option linter.unusedVariables false
set_option linter.unusedSimpArgs false

/-- The blocks of box: the type's, the answer's. -/
structure BoS (w W : World) (t : ShT) : Prop where
  t : TyB W w.heap.size t
  z : Bk W (w.heap.size + 1) 32 (bxC 0 0 false (.slice none 0 0))
  be : Below w.heap.size w W
theorem BoS.new (w : World) (t : ShT) : BoS w ((w.alloc (.cells t.cs 25)).alloc (.cells (bxC 0 0 false (.slice none 0 0)) 32)) t := by
  have h1 := Bk.new (w.alloc (.cells t.cs 25)) 32 (bxC 0 0 false (.slice none 0 0))
  rw [World.size_alloc] at h1
  exact ⟨(TyB.new w t).alloc _, h1, below_new2 w _ _⟩
theorem BoS.call {w W W' : World} {t : ShT} (h : BoS w W t) (hb : Below W.heap.size W W') : BoS w W' t := ⟨h.t.below hb, h.z.below hb, h.be.trans (hb.mono h.be.size)⟩
theorem BoS.alloc {w W : World} {t : ShT} (h : BoS w W t) (o : Obj) : BoS w (W.alloc o) t := ⟨h.t.alloc o, h.z.alloc o, h.be.alloc h.be.size o⟩
theorem BoS.fin {w W : World} {t : ShT} (h : BoS w W t) (v0 v1 v2 v3 : Value) : Bk (put4 W (w.heap.size + 1) v0 v1 v2 v3) (w.heap.size + 1) 32 #[v0, v1, v2, v3] ∧ Below w.heap.size w (put4 W (w.heap.size + 1) v0 v1 v2 v3) :=
  ⟨h.z.put4 _ _ _ _, below_put4 h.be (by omega) _ _ _ _⟩
theorem BoS.zcells {w W : World} {t : ShT} (h : BoS w W t) :
    W.cell? ⟨w.heap.size + 1, 0, none⟩ = some (.int .i64 0) ∧ W.cell? ⟨w.heap.size + 1, 1, none⟩ = some (.int .i64 0) ∧ W.cell? ⟨w.heap.size + 1, 2, none⟩ = some (.bool false) ∧ W.cell? ⟨w.heap.size + 1, 3, none⟩ = some (.slice none 0 0) ∧
    W.frozen? ⟨w.heap.size + 1, 0, none⟩ = false ∧ W.frozen? ⟨w.heap.size + 1, 1, none⟩ = false ∧ W.frozen? ⟨w.heap.size + 1, 2, none⟩ = false ∧ W.frozen? ⟨w.heap.size + 1, 3, none⟩ = false :=
  ⟨h.z.cell 0, h.z.cell 1, h.z.cell 2, h.z.cell 3, h.z.frozen 0, h.z.frozen 1, h.z.frozen 2, h.z.frozen 3⟩
set_option maxRecDepth 100000 in
set_option maxHeartbeats 8000000 in
theorem box_int (t : ShT) (w : World) (h1 : (t.sh == 1) = true) :
    Calls Try.prog 42 #[t.v] w (BxP w (sizM t.k) (sizM t.k) false []) := by
  have HS := veil (RSize_any t.k)
  unfold ShT.v ShT.cs
  generalize sizM t.k = z at *
  go_enter Try.func42, Try.ntmps42
  go_wp2_with (go_at_call 68; refine (unveil HS _).mono ?_; rintro e w' ⟨rfl, hw'⟩; obtain rfl := hw'.symm)
  refine bodyPost_ret (res_b (f := Try.f42) rfl rfl (by
    have := Bk.new (w.alloc (.cells #[.int .i64 t.sh, .int .i64 t.k, .int .i64 t.n, .slice t.op t.of.length t.oc, .slice t.fp t.fs.length t.fc, .bool t.pk, .int .i64 t.al] 25)) 32 (bxC z z false (.slice none 0 0))
    rw [World.size_alloc] at this
    exact this) rfl) rfl ⟨z, z, none, 0, 0, rfl, below_new2 w _ _, fun _ => ⟨rfl, rfl, World.ownsRow_nil _ _ _ _⟩⟩
set_option maxRecDepth 100000 in
set_option maxHeartbeats 8000000 in
theorem box_ptr (t : ShT) (w : World) (h1 : (t.sh == 1) = false) (h2 : (t.sh == 2) = true) :
    Calls Try.prog 42 #[t.v] w (BxP w 8 8 false []) := by
  unfold ShT.v ShT.cs
  go_enter Try.func42, Try.ntmps42
  go_wp2_with fail
  refine bodyPost_ret (res_b (f := Try.f42) rfl rfl (by
    have := Bk.new (w.alloc (.cells #[.int .i64 t.sh, .int .i64 t.k, .int .i64 t.n, .slice t.op t.of.length t.oc, .slice t.fp t.fs.length t.fc, .bool t.pk, .int .i64 t.al] 25)) 32 (bxC 8 8 false (.slice none 0 0))
    rw [World.size_alloc] at this
    exact this) rfl) rfl ⟨8, 8, none, 0, 0, rfl, below_new2 w _ _, fun _ => ⟨rfl, rfl, World.ownsRow_nil _ _ _ _⟩⟩
set_option maxRecDepth 100000 in
set_option maxHeartbeats 8000000 in
theorem box_mem (t : ShT) (z a : Int) (bg : Bool) (L : List Mb) (w : World) (hin : t.In w.heap.size w) (h1 : (t.sh == 1) = false) (h2 : (t.sh == 2) = false) (h3 : (t.sh == 3) = false)
    (hm : ∀ W, t.In W.heap.size W → Calls Try.prog 69 #[t.v] W (BxP W z a bg L)) :
    Calls Try.prog 42 #[t.v] w (BxP w z a bg L) := by
  have hS := BoS.new w t
  have HX : Hid (∀ W, BoS w W t → Calls Try.prog 69 #[t.v] W (BxP W z a bg L)) := fun W h => hm W ((hin.below h.be).mono h.be.size)
  have HS := veil hS
  clear hm hin hS
  unfold ShT.v ShT.cs at *
  unfold bxC at HS
  go_enter Try.func42, Try.ntmps42
  go_upto_region 1 with fail
  generalize ((w.alloc (.cells #[.int .i64 t.sh, .int .i64 t.k, .int .i64 t.n, .slice t.op t.of.length t.oc, .slice t.fp t.fs.length t.fc, .bool t.pk, .int .i64 t.al] 25)).alloc (.cells #[.int .i64 0, .int .i64 0, .bool false, .slice none 0 0] 32)) = W0 at HS ⊢
  obtain ⟨y0, y1, y2, y3, y4, y5, y6⟩ := (unveil HS).t.seven
  go_wp2_with (go_at_call 69; refine (unveil HX _ (unveil HS)).mono ?_; rintro r W1 ⟨s, al, q, n, c, he, hb1, hpo⟩; unfold bxC at he; subst he; have HS1 := veil ((unveil HS).call hb1); have HPO := veil hpo; have HSZ := veil (unveil HS).be.size; clear hb1 hpo; obtain ⟨p0, p1, p2, p3, f0, f1, f2, f3⟩ := (unveil HS1).zcells)
  refine bodyPost_ret (res_b (f := Try.f42) rfl rfl ((unveil HS1).fin _ _ _ _).1 rfl) rfl ⟨s, al, q, n, c, rfl, ((unveil HS1).fin _ _ _ _).2, fun h => ?_⟩
  obtain ⟨g1, g2, g3⟩ := unveil HPO h
  exact ⟨g1, g2, row_put4 (ownsRow_baseS g3 (unveil HSZ)) (unveil HS1).z (by decide) _ _ _ _⟩
end Go.Proofs.Ytkiebejidpebdaa
namespace Go.Proofs.Ytkiebejidpebdaa
open Go Go.RowKit Go.Shelf
set_option linter.unusedVariables false
set_option linter.unusedSimpArgs false

theorem BoS.newB {w W : World} {t : ShT} (h : BoS w W t) (cs : Array Value) : BoS w (W.alloc (.cells cs 32)) t ∧ Bk (W.alloc (.cells cs 32)) W.heap.size 32 cs :=
  ⟨h.alloc _, Bk.new W _ _⟩
set_option maxRecDepth 100000 in
set_option maxHeartbeats 20000000 in
theorem box_arr (t x : ShT) (z a : Int) (L : List Mb) (w : World) (hin : t.In w.heap.size w) (h1 : (t.sh == 1) = false) (h2 : (t.sh == 2) = false) (h3 : (t.sh == 3) = true) (hof : t.of = [x]) (hn : 1 ≤ t.n) (hz1 : 1 ≤ z) (hz2 : z ≤ 65537)
    (hm : ∀ W, x.In W.heap.size W → Calls Try.prog 42 #[x.v] W (BxP W z a (decide (65536 < z)) L)) :
    Calls Try.prog 42 #[t.v] w (BxP w (min (min t.n 65537 * z) 65537) a (decide (65536 < min (min t.n 65537 * z) 65537)) []) := by
  have HB : Hid (t.n ≤ 65536 → z ≤ 65536 → 0 ≤ z * t.n ∧ z * t.n ≤ 4294967296) := fun h h' => ⟨Int.mul_nonneg (by omega) (by omega), Int.mul_le_mul h' h (by omega) (by omega)⟩
  have HSM : Hid (t.n ≤ 65536 → z * t.n ≤ 65536 → min (min t.n 65537 * z) 65537 = z * t.n) := fun h h' => small_arr hn hz1 h h'
  rw [big_arr hn hz1 hz2]
  generalize min (min t.n 65537 * z) 65537 = R at *
  have hS := BoS.new w t
  obtain ⟨g, o, hop, hg, hc, hxin⟩ := hin.of 0 (by rw [hof]; simp)
  have hx0 : t.of[0]'(by rw [hof]; simp) = x := by simp [hof]
  rw [hx0] at hc hxin
  generalize hbg : decide (65536 < z) = bg at *
  have HBG := veil hbg
  clear hbg
  have HX : Hid (∀ W, BoS w W t → Calls Try.prog 42 #[x.v] W (BxP W z a bg L)) := fun W h => hm W ((hxin.below h.be).mono h.be.size)
  have hol : t.of.length = 1 := by rw [hof]; rfl
  simp only [Nat.zero_mul, Nat.add_zero] at hc
  have HC : Hid (∀ W, BoS w W t → ∀ j, j < 7 → W.cell? ⟨g, o + j, none⟩ = x.cs[j]?) := fun W h j hj => (h.be.cell (p := ⟨g, o + j, none⟩) hg).trans (hc j hj)
  have HS := veil hS
  clear hm hin hxin hc hS hof hx0
  unfold ShT.v ShT.cs at *
  rw [hol, hop] at HS ⊢
  unfold bxC at HS
  go_enter Try.func42, Try.ntmps42
  go_upto_region 1 with fail
  generalize ((w.alloc (.cells #[.int .i64 t.sh, .int .i64 t.k, .int .i64 t.n, .slice (some ⟨g, o, none⟩) 1 t.oc, .slice t.fp t.fs.length t.fc, .bool t.pk, .int .i64 t.al] 25)).alloc (.cells #[.int .i64 0, .int .i64 0, .bool false, .slice none 0 0] 32)) = W0 at HS ⊢
  obtain ⟨y0, y1, y2, y3, y4, y5, y6⟩ := (unveil HS).t.seven
  rw [hop, hol] at y3
  have hcc := unveil HC W0 (unveil HS)
  have q0 := hcc 0 (by decide)
  have q1 := hcc 1 (by decide)
  have q2 := hcc 2 (by decide)
  have q3 := hcc 3 (by decide)
  have q4 := hcc 4 (by decide)
  have q5 := hcc 5 (by decide)
  have q6 := hcc 6 (by decide)
  simp only [List.getElem?_toArray, List.getElem?_cons_succ, List.getElem?_cons_zero, Nat.add_zero] at q0 q1 q2 q3 q4 q5 q6
  clear hcc HC
  go_upto_region 9 with (go_at_call 42; refine (unveil HX _ (unveil HS)).mono ?_; rintro e W1 ⟨s, al, uq, un, uc, he, hb1, hpost⟩; unfold bxC at he; subst he; have HN := veil (((unveil HS).call hb1).newB #[.int .i64 s, .int .i64 al, .bool bg, .slice uq un uc]); have HPO := veil (fun h => And.intro (hpost h).1 (hpost h).2.1); clear hb1 hpost)
  generalize (W1.alloc (.cells #[.int .i64 s, .int .i64 al, .bool bg, .slice uq un uc] 32)) = W2 at HN ⊢
  generalize W1.heap.size = Bb at HN ⊢
  clear y0 y1 y2 y3 y4 y5 y6 q0 q1 q2 q3 q4 q5 q6
  obtain ⟨y0, y1, y2, y3, y4, y5, y6⟩ := (unveil HN).1.t.seven
  have b0 := (unveil HN).2.cell 0
  have b1 := (unveil HN).2.cell 1
  have b2 := (unveil HN).2.cell 2
  simp only [List.getElem?_toArray, List.getElem?_cons_succ, List.getElem?_cons_zero] at b0 b1 b2
  obtain ⟨p0, p1, p2, p3, f0, f1, f2, f3⟩ := (unveil HN).1.zcells
  have lt0 := (unveil HN).1.t.lt
  have lt1 := (unveil HN).1.z.lt
  have lt2 := (unveil HN).2.lt
  clear hz1 hn
  cases bg
  · obtain ⟨rfl, rfl⟩ := unveil HPO rfl
    have hs : ¬ 65536 < s := of_decide_eq_false (unveil HBG)
    clear HPO HBG hz2
    by_cases hn : t.n > 65536
    · clear HB HSM hs
      go_wp2_with fail
      refine bodyPost_ret (res_b (f := Try.f42) rfl rfl ((unveil HN).1.fin _ _ _ _).1 rfl) rfl ⟨0, 0, none, 0, 0, ?_, ((unveil HN).1.fin _ _ _ _).2, fun h => ?_⟩
      · simp [bxC, hn]
      · simp [hn] at h
    · have hw : wrap64 (s * t.n) = s * t.n := by
        obtain ⟨k1, k2⟩ := unveil HB (by omega) (by omega)
        unfold wrap64
        omega
      have HW := veil hw
      have HSM2 := veil (unveil HSM (by omega))
      have HNN := veil hn
      clear HSM HB hs hw
      go_wp2_with fail
      · rename_i hq
        rw [unveil HW] at hq
        have hq2 : 65536 < s * t.n := by omega
        exact bodyPost_ret (res_b (f := Try.f42) rfl rfl ((unveil HN).1.fin _ _ _ _).1 rfl) rfl ⟨0, 0, none, 0, 0, by simp [bxC, hq2], ((unveil HN).1.fin _ _ _ _).2, fun h => by simp [hq2] at h⟩
      · rename_i hq
        rw [unveil HW] at hq ⊢
        have hn2 : ¬ 65536 < t.n := by have := unveil HNN; omega
        have hq2 : ¬ 65536 < s * t.n := by omega
        exact bodyPost_ret (res_b (f := Try.f42) rfl rfl ((unveil HN).1.fin _ _ _ _).1 rfl) rfl ⟨s * t.n, al, none, 0, 0, by simp [bxC, hn2, hq2], ((unveil HN).1.fin _ _ _ _).2, fun h => ⟨(unveil HSM2 (by omega)).symm, rfl, World.ownsRow_nil _ _ _ _⟩⟩
  · clear HB HSM HPO hz2
    have hs : 65536 < z := of_decide_eq_true (unveil HBG)
    have HZ := veil hs
    clear hs HBG
    go_wp2_with fail
    refine bodyPost_ret (res_b (f := Try.f42) rfl rfl ((unveil HN).1.fin _ _ _ _).1 rfl) rfl ⟨0, 0, none, 0, 0, ?_, ((unveil HN).1.fin _ _ _ _).2, fun h => ?_⟩
    · simp [bxC, unveil HZ]
    · simp [unveil HZ] at h
/-- The list of spots that box tells. -/
def boxL : Nat → ShT → List Mb
  | 0, _ => []
  | d + 1, t => if t.sh == 1 || t.sh == 2 || t.sh == 3 then [] else (t.ml (meaM d)).map Prod.snd
theorem siz_small (k : Int) : decide (65536 < sizM k) = false := by
  have := siz_cases k
  rw [decide_eq_false_iff_not]
  omega
theorem box_any : ∀ (d : Nat) (t : ShT) (w : World), rigM d t = true → t.In w.heap.size w →
    Calls Try.prog 42 #[t.v] w (BxP w (meaM d t).1 (meaM d t).2 (decide (65536 < (meaM d t).1)) (boxL d t))
  | 0, _, _, h, _ => by cases h
  | d + 1, t, w, h, hin => by
    obtain ⟨hf, hp⟩ := rig_form h
    rw [meaM, boxL]
    cases h1 : t.sh == 1
    · cases h2 : t.sh == 2
      · cases h3 : t.sh == 3
        · simp only [Bool.false_eq_true, if_false, Bool.or_false]
          obtain ⟨hs, _, _, _, ha, hfs⟩ := form_struct hf h1 h2 h3
          obtain ⟨f1, f2, f3, _⟩ := ffs_all hfs
          refine box_mem t _ _ _ _ w hin h1 h2 h3 (fun W hW => ?_)
          exact rmembers_any t d W hW f1 (ali_le ha).2 hs (fun f hfm => fok_of (mea_ok d) (f3 f hfm) (hp _ (fs_part hfm))) f3 (fun f hfm hb => mea_bit (f3 f hfm) (hp _ (fs_part hfm)) hb)
            (fun f hfm W' hW' => ⟨_, box_any d f.t W' (hp _ (fs_part hfm)) hW'⟩)
        · simp only [Bool.false_eq_true, if_false, if_true, Bool.or_true]
          obtain ⟨_, q1, q2, _⟩ := form_arr hf h3
          match hof : t.of, q2 with
          | [x], _ =>
            simp only
            have hx : rigM d x = true := hp x (by unfold ShT.parts; rw [hof]; simp)
            exact box_arr t x (meaM d x).1 (meaM d x).2 _ w hin h1 h2 h3 hof q1 (mea_pos d x hx) (mea_ok d x hx).2.1 (fun W hW => box_any d x W hx hW)
      · simp only [Bool.false_eq_true, if_false, if_true, Bool.or_true, Bool.true_or]
        exact box_ptr t w h1 h2
    · simp only [if_true, Bool.true_or]
      rw [siz_small]
      exact box_int t w h1
end Go.Proofs.Ytkiebejidpebdaa
