/-
  The document's own box.
-/
import Derived.Test.YtgomlfaekfabpaaJi
namespace Go.Proofs.Ytgomlfaekfabpaa
open Go Go.RowKit Go.Shelf
set_option linter.unusedVariables false
set_option linter.unusedSimpArgs false

/-- The blocks of box: the type's, the answer's. -/
structure BoS (w W : World) (t : ShT) : Prop where
  t : TyB W w.heap.size t
  z : Bk W (w.heap.size + 1) 32 (bxC 0 0 false (.slice none 0 0))
  be : Below w.heap.size w W
theorem BoS.new (w : World) (t : ShT) : BoS w ((w.alloc (.cells t.cs 25)).alloc (.cells (bxC 0 0 false (.slice none 0 0)) 32)) t := by
  have h1 := Bk.new (w.alloc (.cells t.cs 25)) 32 (bxC 0 0 false (.slice none 0 0))
  rw [World.size_alloc] at h1
  exact ⟨(TyB.new w t).alloc _, h1, below_new2 w _ _⟩
theorem BoS.call {w W W' : World} {t : ShT} (h : BoS w W t) (hb : Below W.heap.size W W') : BoS w W' t := ⟨h.t.below hb, h.z.below hb, h.be.trans (hb.mono h.be.size)⟩
theorem BoS.alloc {w W : World} {t : ShT} (h : BoS w W t) (o : Obj) : BoS w (W.alloc o) t := ⟨h.t.alloc o, h.z.alloc o, h.be.alloc h.be.size o⟩
theorem BoS.fin {w W : World} {t : ShT} (h : BoS w W t) (v0 v1 v2 v3 : Value) : Bk (put4 W (w.heap.size + 1) v0 v1 v2 v3) (w.heap.size + 1) 32 #[v0, v1, v2, v3] ∧ Below w.heap.size w (put4 W (w.heap.size + 1) v0 v1 v2 v3) :=
  ⟨h.z.put4 _ _ _ _, below_put4 h.be (by omega) _ _ _ _⟩
theorem BoS.zcells {w W : World} {t : ShT} (h : BoS w W t) :
    W.cell? ⟨w.heap.size + 1, 0, none⟩ = some (.int .i64 0) ∧ W.cell? ⟨w.heap.size + 1, 1, none⟩ = some (.int .i64 0) ∧ W.cell? ⟨w.heap.size + 1, 2, none⟩ = some (.bool false) ∧ W.cell? ⟨w.heap.size + 1, 3, none⟩ = some (.slice none 0 0) ∧
    W.frozen? ⟨w.heap.size + 1, 0, none⟩ = false ∧ W.frozen? ⟨w.heap.size + 1, 1, none⟩ = false ∧ W.frozen? ⟨w.heap.size + 1, 2, none⟩ = false ∧ W.frozen? ⟨w.heap.size + 1, 3, none⟩ = false :=
  ⟨h.z.cell 0, h.z.cell 1, h.z.cell 2, h.z.cell 3, h.z.frozen 0, h.z.frozen 1, h.z.frozen 2, h.z.frozen 3⟩
set_option maxRecDepth 100000 in
set_option maxHeartbeats 8000000 in
theorem box_int (t : ShT) (w : World) (h1 : (t.sh == 1) = true) :
    Calls Try.prog 42 #[t.v] w (BxP w (sizM t.k) (sizM t.k) false []) := by
  have HS := veil (RSize_any t.k)
  unfold ShT.v ShT.cs
  generalize sizM t.k = z at *
  go_enter Try.func42, Try.ntmps42
  go_wp2_with (go_at_call 68; refine (unveil HS _).mono ?_; rintro e w' ⟨rfl, hw'⟩; obtain rfl := hw'.symm)
  refine bodyPost_ret (res_b (f := Try.f42) rfl rfl (by
    have := Bk.new (w.alloc (.cells #[.int .i64 t.sh, .int .i64 t.k, .int .i64 t.n, .slice t.op t.of.length t.oc, .slice t.fp t.fs.length t.fc, .bool t.pk, .int .i64 t.al] 25)) 32 (bxC z z false (.slice none 0 0))
    rw [World.size_alloc] at this
    exact this) rfl) rfl ⟨z, z, none, 0, 0, rfl, below_new2 w _ _, fun _ => ⟨rfl, rfl, World.ownsRow_nil _ _ _ _⟩⟩
set_option maxRecDepth 100000 in
set_option maxHeartbeats 8000000 in
theorem box_ptr (t : ShT) (w : World) (h1 : (t.sh == 1) = false) (h2 : (t.sh == 2) = true) :
    Calls Try.prog 42 #[t.v] w (BxP w 8 8 false []) := by
  unfold ShT.v ShT.cs
  go_enter Try.func42, Try.ntmps42
  go_wp2_with fail
  refine bodyPost_ret (res_b (f := Try.f42) rfl rfl (by
    have := Bk.new (w.alloc (.cells #[.int .i64 t.sh, .int .i64 t.k, .int .i64 t.n, .slice t.op t.of.length t.oc, .slice t.fp t.fs.length t.fc, .bool t.pk, .int .i64 t.al] 25)) 32 (bxC 8 8 false (.slice none 0 0))
    rw [World.size_alloc] at this
    exact this) rfl) rfl ⟨8, 8, none, 0, 0, rfl, below_new2 w _ _, fun _ => ⟨rfl, rfl, World.ownsRow_nil _ _ _ _⟩⟩
set_option maxRecDepth 100000 in
set_option maxHeartbeats 8000000 in
theorem box_mem (t : ShT) (z a : Int) (bg : Bool) (L : List Mb) (w : World) (hin : t.In w.heap.size w) (h1 : (t.sh == 1) = false) (h2 : (t.sh == 2) = false) (h3 : (t.sh == 3) = false)
    (hm : ∀ W, t.In W.heap.size W → Calls Try.prog 69 #[t.v] W (BxP W z a bg L)) :
    Calls Try.prog 42 #[t.v] w (BxP w z a bg L) := by
  have hS := BoS.new w t
  have HX : Hid (∀ W, BoS w W t → Calls Try.prog 69 #[t.v] W (BxP W z a bg L)) := fun W h => hm W ((hin.below h.be).mono h.be.size)
  have HS := veil hS
  clear hm hin hS
  unfold ShT.v ShT.cs at *
  unfold bxC at HS
  go_enter Try.func42, Try.ntmps42
  go_upto_region 1 with fail
  generalize ((w.alloc (.cells #[.int .i64 t.sh, .int .i64 t.k, .int .i64 t.n, .slice t.op t.of.length t.oc, .slice t.fp t.fs.length t.fc, .bool t.pk, .int .i64 t.al] 25)).alloc (.cells #[.int .i64 0, .int .i64 0, .bool false, .slice none 0 0] 32)) = W0 at HS ⊢
  obtain ⟨y0, y1, y2, y3, y4, y5, y6⟩ := (unveil HS).t.seven
  go_wp2_with (go_at_call 69; refine (unveil HX _ (unveil HS)).mono ?_; rintro r W1 ⟨s, al, q, n, c, he, hb1, hpo⟩; unfold bxC at he; subst he; have HS1 := veil ((unveil HS).call hb1); have HPO := veil hpo; have HSZ := veil (unveil HS).be.size; clear hb1 hpo; obtain ⟨p0, p1, p2, p3, f0, f1, f2, f3⟩ := (unveil HS1).zcells)
  refine bodyPost_ret (res_b (f := Try.f42) rfl rfl ((unveil HS1).fin _ _ _ _).1 rfl) rfl ⟨s, al, q, n, c, rfl, ((unveil HS1).fin _ _ _ _).2, fun h => ?_⟩
  obtain ⟨g1, g2, g3⟩ := unveil HPO h
  exact ⟨g1, g2, row_put4 (ownsRow_baseS g3 (unveil HSZ)) (unveil HS1).z (by decide) _ _ _ _⟩
end Go.Proofs.Ytgomlfaekfabpaa
