/-
  The document's own leaves: lists that are cut; what it keeps; numbers and pointers.
-/
import Derived.Test.YtaffldhmgifdoaaZ9
import Derived.Test.YtaffldhmgifdoaaZ6
import Derived.Maps.AppendAt
import Derived.Maps.Range
namespace Go.Proofs.Ytaffldhmgifdoaa
open Go Go.RowKit Go.Shelf
set_option linter.unusedVariables false
set_option linter.unusedSimpArgs false

/-- One more than may be. -/
def cut (l : List Mb) : List Mb := l.take 2001
theorem cut_len (l : List Mb) : (cut l).length ≤ 2001 := by unfold cut; rw [List.length_take]; omega
theorem cut_small {l : List Mb} (h : l.length ≤ 2001) : cut l = l := List.take_of_length_le h
theorem cut_app (a b : List Mb) : cut (cut a ++ b) = cut (a ++ b) := by
  unfold cut
  rw [List.take_append, List.take_append, List.take_take, Nat.min_self]
  congr 1
  by_cases h : a.length ≤ 2001
  · rw [List.take_of_length_le h]
  · rw [List.length_take, show min 2001 a.length = 2001 by omega, show 2001 - a.length = 0 by omega]
theorem cut_full {a b : List Mb} (h : ¬ (cut a).length ≤ 2000) : cut (a ++ b) = cut a := by
  unfold cut at *
  rw [List.length_take] at h
  rw [List.take_append, show 2001 - a.length = 0 by omega, List.take_zero, List.append_nil]
theorem cut_done (a : List Mb) : ((cut a).length ≤ 2000 ↔ a.length ≤ 2000) ∧ (a.length ≤ 2000 → cut a = a) := by
  refine ⟨?_, fun h => cut_small (by omega)⟩
  unfold cut
  rw [List.length_take]
  omega
/-- What leaves tells. -/
def RlP (base : Nat) (w : World) (v : Value) (out : List Mb) (e : Ending) (w' : World) : Prop :=
  ∃ v', e = .returned v' ∧ w'.ownsRow base 42 3 v' out.length (spCs out) ∧ w.grownBy w' v.ownBlock ∧ (∀ r, v'.ownBlock = some r → v.ownBlock = some r ∨ w.heap.size ≤ r)
/-- Within leaves: the type's box, what box told, its list; all but the list that was handed in stays. -/
structure RlS (w : World) (S1 : Nat) (t : ShT) (Bb : Nat) (z a : Int) (bv : Value) (L : List Mb) (row : Option Nat) (W : World) : Prop where
  t : TyB W w.heap.size t
  b : Bk W Bb 32 (bxC z a false bv)
  l : W.ownsRow w.heap.size 42 3 bv L.length (spCs L)
  gr : w.grownBy W row
  s1 : S1 ≤ W.heap.size
  lt : w.heap.size < S1 ∧ w.heap.size ≤ Bb ∧ Bb < S1
  lb : ∀ r, bv.ownBlock = some r → w.heap.size ≤ r ∧ r < S1
  vl : ∀ r, row = some r → r < w.heap.size
theorem row_far {W W' : World} {base n size : Nat} {e : TypeId} {v : Value} {xs : List Value} {row : Option Nat} (h : W.ownsRow base e size v n xs) (hg : W.grownBy W' row) (hr : ∀ r, row = some r → v.ownBlock ≠ some r) : W'.ownsRow base e size v n xs := by
  refine ⟨h.1, ?_⟩
  rcases h.2 with hn | ⟨g, cap, cur, rfl, hbg, hgg, hrr⟩
  · exact .inl hn
  · exact .inr ⟨g, cap, cur, rfl, hbg, (hg.block g (Array.getElem?_eq_some_iff.1 hgg).1 (fun e' => hr g e'.symm (by simp [Value.ownBlock]))).trans hgg, hrr⟩
theorem RlS.turn {w : World} {S1 : Nat} {t : ShT} {Bb : Nat} {z a : Int} {bv : Value} {L : List Mb} {row row' : Option Nat} {W W' : World} (h : RlS w S1 t Bb z a bv L row W) (hg : W.grownBy W' row') (hr : ∀ r, row' = some r → row = some r ∨ S1 ≤ r) : RlS w S1 t Bb z a bv L row W' := by
  have hl := h.lt
  have hne : ∀ b, w.heap.size ≤ b → b < S1 → b < W.heap.size → W'.heap[b]? = W.heap[b]? := fun b h1 h2 h3 => hg.block b h3 (fun e => by
    rcases hr b e.symm with h4 | h4
    · have := h.vl b h4; omega
    · omega)
  refine ⟨(hne _ (Nat.le_refl _) hl.1 h.t.lt).trans h.t, (hne _ hl.2.1 hl.2.2 h.b.lt).trans h.b, row_far h.l hg (fun r e e2 => ?_), h.gr.andThen hg (fun r e => ?_), Nat.le_trans h.s1 hg.size, h.lt, h.lb, h.vl⟩
  · have h5 := h.lb r e2
    rcases hr r e with h4 | h4
    · have := h.vl r h4; omega
    · omega
  · rcases hr r e with h4 | h4
    · exact .inr h4
    · exact .inl (by omega)
theorem grown_but {a c : World} (h : a.grownBy c none) (row : Option Nat) : a.grownBy c row := ⟨h.os, h.tape, h.output, h.size, fun i hi _ => h.block i hi (by simp)⟩
theorem grown_drew (W : World) (row : Option Nat) : W.grownBy W.drew row := grown_but (below_grown (Below.refl _ W).drew) row
theorem RlS.cells {w : World} {S1 : Nat} {t : ShT} {Bb : Nat} {z a : Int} {bv : Value} {L : List Mb} {row : Option Nat} {W : World} (h : RlS w S1 t Bb z a bv L row W) :
    (W.cell? ⟨w.heap.size, 0, none⟩ = some (.int .i64 t.sh) ∧ W.cell? ⟨w.heap.size, 1, none⟩ = some (.int .i64 t.k) ∧ W.cell? ⟨w.heap.size, 2, none⟩ = some (.int .i64 t.n) ∧ W.cell? ⟨w.heap.size, 3, none⟩ = some (.slice t.op t.of.length t.oc) ∧
      W.cell? ⟨w.heap.size, 4, none⟩ = some (.slice t.fp t.fs.length t.fc) ∧ W.cell? ⟨w.heap.size, 5, none⟩ = some (.bool t.pk) ∧ W.cell? ⟨w.heap.size, 6, none⟩ = some (.int .i64 t.al)) ∧
    (W.cell? ⟨Bb, 0, none⟩ = some (.int .i64 z) ∧ W.cell? ⟨Bb, 1, none⟩ = some (.int .i64 a) ∧ W.cell? ⟨Bb, 2, none⟩ = some (.bool false) ∧ W.cell? ⟨Bb, 3, none⟩ = some bv) ∧ w.heap.size < W.heap.size ∧ Bb < W.heap.size :=
  ⟨h.t.seven, ⟨h.b.cell 0, h.b.cell 1, h.b.cell 2, h.b.cell 3⟩, h.t.lt, h.b.lt⟩
theorem own_lt {W : World} {base n size : Nat} {e : TypeId} {v : Value} {xs : List Value} (h : W.ownsRow base e size v n xs) : ∀ r, v.ownBlock = some r → base ≤ r ∧ r < W.heap.size := fun r e => by
  obtain ⟨h1, cur, h2⟩ := row_turnS h r e
  exact ⟨h1, (Array.getElem?_eq_some_iff.1 h2).1⟩
/-- What is there once box has told. -/
theorem RlS.new {w W1 : World} (t : ShT) (z a : Int) {bv : Value} {L : List Mb} {base n : Nat} {v : Value} {xs : List Value} (hv : w.ownsRow base 42 3 v n xs) (hb : Below (w.alloc (.cells t.cs 25)).heap.size (w.alloc (.cells t.cs 25)) W1)
    (hl : W1.ownsRow (w.alloc (.cells t.cs 25)).heap.size 42 3 bv L.length (spCs L)) :
    RlS w (W1.heap.size + 1) t W1.heap.size z a bv L v.ownBlock (W1.alloc (.cells (bxC z a false bv) 32)) := by
  have hs := hb.size
  rw [World.size_alloc] at hs
  have h0 : Below w.heap.size w W1 := ((Below.refl _ w).alloc (Nat.le_refl _) _).trans (hb.mono (by simp))
  refine ⟨((TyB.new w t).below hb).alloc _, Bk.new W1 _ _, ownsRow_baseS (hl.alloc _) (by simp), grown_but (below_grown (h0.alloc (by omega) _)) _, by simp, ⟨by omega, by omega, by omega⟩, fun r e => ?_, fun r e => (own_lt hv r e).2⟩
  have := own_lt hl r e
  rw [World.size_alloc] at this
  omega
/-- One spot is put behind the list. -/
theorem RlP.append {base : Nat} {w W Wa W' : World} {S1 : Nat} {t : ShT} {Bb : Nat} {z a : Int} {bv v v' : Value} {L P : List Mb} {m : Mb} {row : Option Nat} (hs : RlS w S1 t Bb z a bv L row W) (hWa : W.grownBy Wa none) (hg : Wa.grownBy W' v.ownBlock) (hv : ∀ r, v.ownBlock = some r → row = some r ∨ S1 ≤ r)
    (hown : W'.ownsRow base 42 3 v' (P.length + 1) (spCs P ++ spC m)) (ho : v'.ownBlock = v.ownBlock ∨ v'.ownBlock = some Wa.heap.size) :
    W'.ownsRow base 42 3 v' (P ++ [m]).length (spCs (P ++ [m])) ∧ RlS w S1 t Bb z a bv L row W' ∧ ∀ r, v'.ownBlock = some r → row = some r ∨ S1 ≤ r := by
  refine ⟨?_, (hs.turn hWa (fun r e => by cases e)).turn hg hv, fun r e => ?_⟩
  · rw [spCs_snoc, List.length_append]; exact hown
  · rcases ho with h | h
    · exact hv r (h ▸ e)
    · rw [h] at e
      cases e
      exact .inr (Nat.le_trans hs.s1 hWa.size)
set_option maxRecDepth 100000 in
set_option maxHeartbeats 8000000 in
theorem rl_full (t : ShT) (fr : Int) (base : Nat) (P out : List Mb) (v : Value) (w : World) (hv : w.ownsRow base 42 3 v P.length (spCs P)) (hl : ¬ P.length ≤ 2000) (hout : out = P) :
    Calls Try.prog 58 #[v, t.v, .int .i64 fr] w (RlP base w v out) := by
  subst hout
  obtain ⟨q, c, rfl⟩ := row_slice hv
  have hg : ((out.length : Nat) : Int) > 2000 := by omega
  have HV := veil hv
  clear hv hl
  unfold ShT.v ShT.cs
  go_enter Try.func58, Try.ntmps58
  go_wp2_with fail
  go_ret
  exact ⟨_, rfl, (unveil HV).alloc _, World.grownBy_alloc _ _ _, fun r e => .inl e⟩
set_option maxRecDepth 100000 in
set_option maxHeartbeats 20000000 in
theorem rl_int (t : ShT) (fr z a : Int) (base : Nat) (P : List Mb) (v : Value) (w : World) (hv : w.ownsRow base 42 3 v P.length (spCs P)) (hl : P.length ≤ 2000) (hN : base ≤ w.heap.size) (h1 : (t.sh == 1) = true) (hz0 : 0 ≤ z) (hz1 : z ≤ 65536)
    (hbx : ∀ W, Calls Try.prog 55 #[t.v] (w.alloc W) (BxP (w.alloc W) z a false [])) :
    Calls Try.prog 58 #[v, t.v, .int .i64 fr] w (RlP base w v (P ++ [⟨fr, 8 * z, t.k, 0⟩])) := by
  obtain ⟨q, c, rfl⟩ := row_slice hv
  have hg : ¬ ((P.length : Nat) : Int) > 2000 := by omega
  have HV := veil hv
  have HN := veil hN
  have HBX := veil hbx
  have HNW := veil (fun W1 h bv hl => RlS.new (w := w) (W1 := W1) t z a (bv := bv) (L := []) hv h hl)
  clear hv hbx hN
  unfold ShT.v ShT.cs at *
  unfold bxC at HNW
  go_enter Try.func58, Try.ntmps58
  go_upto_region 4 with (go_at_call 55; refine (unveil HBX _).mono ?_; rintro e W1 ⟨s, al, uq, un, uc, he, hb1, hpost⟩; obtain ⟨rfl, rfl, hrow⟩ := hpost rfl; unfold bxC at he; subst he; have HS := veil (unveil HNW W1 hb1 _ hrow); have HVW := veil (row_far ((unveil HV).alloc (.cells #[.int .i64 t.sh, .int .i64 t.k, .int .i64 t.n, .slice t.op t.of.length t.oc, .slice t.fp t.fs.length t.fc, .bool t.pk, .int .i64 t.al] 25)) (below_grown hb1) (fun r e => by cases e)); clear hb1 hrow hpost)
  have HV2 := veil ((unveil HVW).alloc (.cells #[.int .i64 s, .int .i64 al, .bool false, .slice uq un uc] 32))
  generalize (W1.alloc (.cells #[.int .i64 s, .int .i64 al, .bool false, .slice uq un uc] 32)) = W2 at HS HV2 ⊢
  generalize W1.heap.size = Bb at HS ⊢
  clear HNW HBX HVW
  obtain ⟨⟨y0, y1, y2, y3, y4, y5, y6⟩, ⟨b0, b1, b2, b3⟩, lt0, lt1⟩ := (unveil HS).cells
  obtain ⟨i0, hi, hq0, hq1, hq2⟩ := info_parts infoSp
  have hrowa : (W2.alloc (.cells (spC ⟨fr, 8 * s, t.k, 0⟩).toArray 42)).ownsRow base 42 3 (.slice q P.length c) P.length (spCs P) := (unveil HV2).alloc _
  have hbs : base ≤ W2.heap.size := by have := unveil HN; have := (unveil HS).gr.size; omega
  go_wp2_with (at_builtin; refine wpList_append_own_at _ rfl _ _ 30 rfl base 42 i0 _ 3 24 Try.underlying30 hi hq0 hq1 hq2 rfl (by decide) _ _ _ rfl hrowa ⟨W2.heap.size, 0, none⟩ 1 1 (spC ⟨fr, 8 * s, t.k, 0⟩) rfl rfl (sp_cells W2 ⟨fr, 8 * s, t.k, 0⟩ 42) (by intro u hu; simp [spC] at hu; rcases hu with rfl | rfl | rfl <;> rfl) (by unfold maxLen; omega) (by omega) (by simp; omega) ?_; intro v' W8 hown' hgrow _ hob)
  go_ret
  obtain ⟨g1, g2, g3⟩ := RlP.append (unveil HS) (World.grownBy_alloc _ _ _) hgrow (fun r e => .inl e) hown' hob
  exact ⟨_, rfl, g1, g2.gr, fun r e => (g3 r e).imp id (fun h => by have := (unveil HS).lt; omega)⟩
end Go.Proofs.Ytaffldhmgifdoaa
