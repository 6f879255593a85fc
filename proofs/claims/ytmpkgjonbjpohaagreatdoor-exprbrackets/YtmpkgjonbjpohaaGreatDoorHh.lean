/-
  Package kind: count, how often each word is said.
-/
import Derived.Test.YtmpkgjonbjpohaaGreatDoorHg
import Derived.Laws.ResultCell
namespace Go.Proofs.YtmpkgjonbjpohaaGreatDoor
open Go Go.RowKit Go.Shelf
attribute [local go_sem] Oper.semAt_some
set_option linter.unusedVariables false
set_option linter.unusedSimpArgs false

/-- How often each of the six words is said. -/
structure Ty where
  c : Int
  s : Int
  l : Int
  i : Int
  g : Int
  u : Int
def Ty.cells (t : Ty) : Array Value := #[.int .i64 t.c, .int .i64 t.s, .int .i64 t.l, .int .i64 t.i, .int .i64 t.g, .int .i64 t.u]
def Ty.ok (t : Ty) : Prop := (0 ≤ t.c ∧ t.c ≤ 1) ∧ (0 ≤ t.s ∧ t.s ≤ 1) ∧ (0 ≤ t.l ∧ t.l ≤ 2) ∧ (0 ≤ t.i ∧ t.i ≤ 1) ∧ (0 ≤ t.g ∧ t.g ≤ 1) ∧ (0 ≤ t.u ∧ t.u ≤ 1)
def zTy : Ty := ⟨0, 0, 0, 0, 0, 0⟩
/-- One word more; none, if it is none, or said too often. -/
def Ty.more (t : Ty) (s : List UInt8) : Option Ty :=
  if thrM s then
    if plcM s == 0 then (if t.c == 1 then none else some { t with c := t.c + 1 })
    else if plcM s == 1 then (if t.s == 1 then none else some { t with s := t.s + 1 })
    else if plcM s == 2 then (if t.l == 2 then none else some { t with l := t.l + 1 })
    else if plcM s == 3 then (if t.i == 1 then none else some { t with i := t.i + 1 })
    else if plcM s == 4 then (if t.g == 1 then none else some { t with g := t.g + 1 })
    else (if t.u == 1 then none else some { t with u := t.u + 1 })
  else none
def cntM (t : Ty) : List (List UInt8) → Ty × Bool
  | [] => (t, true)
  | s :: r => match t.more s with
    | none => (t, false)
    | some t' => cntM t' r
def TBox (W : World) (b : Nat) (t : Ty) : Prop := W.heap[b]? = some (.cells t.cells 171 (0, 0))
theorem TBox.lt {W : World} {b : Nat} {t : Ty} (h : TBox W b t) : b < W.heap.size := (Array.getElem?_eq_some_iff.1 h).1
theorem TBox.six {W : World} {b : Nat} {t : Ty} (h : TBox W b t) : W.cell? ⟨b, 0, none⟩ = some (.int .i64 t.c) ∧ W.cell? ⟨b, 1, none⟩ = some (.int .i64 t.s) ∧ W.cell? ⟨b, 2, none⟩ = some (.int .i64 t.l) ∧
    W.cell? ⟨b, 3, none⟩ = some (.int .i64 t.i) ∧ W.cell? ⟨b, 4, none⟩ = some (.int .i64 t.g) ∧ W.cell? ⟨b, 5, none⟩ = some (.int .i64 t.u) := by
  refine ⟨?_, ?_, ?_, ?_, ?_, ?_⟩ <;> (rw [World.cell?, show W.heap[b]? = _ from h]; rfl)
theorem TBox.frozen {W : World} {b : Nat} {t : Ty} (h : TBox W b t) (i : Nat) : W.frozen? ⟨b, i, none⟩ = false := by
  simp [World.frozen?, show W.heap[b]? = _ from h]
theorem TBox.turn {W W' : World} {row : Option Nat} {b : Nat} {x : Ty} (h : TBox W b x) (hg : W.grownBy W' row) (hr : ∀ r, row = some r → b < r) : TBox W' b x :=
  (hg.block b h.lt (fun e => by have := hr b e.symm; omega)).trans h
theorem TBox.setCell {W : World} {b j i : Nat} {x : Ty} (h : TBox W b x) (hj : b ≠ j) (v : Value) : TBox (W.setCell ⟨j, i, none⟩ v) b x := (Below.heap_setCell _ _ _ b hj).trans h
theorem grown_setK (w : World) (b i : Nat) (v : Value) : w.grownBy (w.setCell ⟨b, i, none⟩ v) (some b) :=
  ⟨rfl, rfl, rfl, (KeepsWalks.setCell w _ v).size, fun k _ hk => Below.heap_setCell _ _ _ k (fun e => hk (by simp at e; rw [e]))⟩
theorem drewK {B : Nat} {W W' : World} (h : Below B W W') : Below B W W'.drew := ⟨h.os, h.tape, h.output, h.size, h.block⟩
theorem BoxedK.turn {W W' : World} {row : Option Nat} {b : Nat} {t : TypeId} {v : Value} (h : Boxed W b t v) (hg : W.grownBy W' row) (hr : ∀ r, row = some r → b < r) : Boxed W' b t v :=
  h.kept hg (fun e => by have := hr b e.symm; omega)
/-- How often each word may be said: the package variable. -/
def Mo (W : World) : Prop := W.cell? ⟨5, 0, none⟩ = some (.int .i64 1) ∧ W.cell? ⟨5, 1, none⟩ = some (.int .i64 1) ∧ W.cell? ⟨5, 2, none⟩ = some (.int .i64 2) ∧ W.cell? ⟨5, 3, none⟩ = some (.int .i64 1) ∧ W.cell? ⟨5, 4, none⟩ = some (.int .i64 1) ∧ W.cell? ⟨5, 5, none⟩ = some (.int .i64 1)
theorem Mo.below {B : Nat} {W W' : World} (h : Mo W) (hb : Below B W W') (hB : 10 < B) : Mo W' := by
  obtain ⟨h0, h1, h2, h3, h4, h5⟩ := h
  have k : ∀ i, W'.cell? ⟨5, i, none⟩ = W.cell? ⟨5, i, none⟩ := fun i => hb.cell (p := ⟨5, i, none⟩) (by show 5 < B; omega)
  exact ⟨(k 0).trans h0, (k 1).trans h1, (k 2).trans h2, (k 3).trans h3, (k 4).trans h4, (k 5).trans h5⟩
/-- What a round hands on; what it leaves when it ends. -/
def CrI (w : World) (l : List (List UInt8)) (R : Ty × Bool) (pre : List (List UInt8)) (W : World) : Prop :=
  ∃ T : Ty, TBox W (w.heap.size + 1) T ∧ Hid T.ok ∧ TBox W w.heap.size zTy ∧ Boxed W (w.heap.size + 2) 4 (.bool (decide (0 < l.length))) ∧ Below w.heap.size w W ∧ Hid (∀ rest, pre ++ rest = l → cntM T rest = R)
def CrX (w : World) (R : Ty × Bool) (c : Code) (W : World) : Prop :=
  c = .exit 0 ∧ ∃ T : Ty, TBox W (w.heap.size + 1) T ∧ TBox W w.heap.size zTy ∧ Boxed W (w.heap.size + 2) 4 (.bool false) ∧ Below w.heap.size w W ∧ Hid (R = (T, false))
theorem CrI.abides (w : World) (l : List (List UInt8)) (R : Ty × Bool) : AbidesO (w.heap.size + 4) (w.heap.size + 6) 0 (CrI w l R) := by
  refine ⟨fun pre X Y row hs hg hr => ?_, fun pre X hs => ?_⟩
  · obtain ⟨T, h1, h2, h3, h4, h5, h6⟩ := hs
    have hr' : ∀ r, row = some r → w.heap.size + 4 ≤ r := fun r e => (hr r e).1
    exact ⟨T, h1.turn hg (fun r e => by have := hr' r e; omega), h2, h3.turn hg (fun r e => by have := hr' r e; omega), BoxedK.turn h4 hg (fun r e => by have := hr' r e; omega), h5.grown hg h5.size (fun r e => by have := hr' r e; omega), h6⟩
  · obtain ⟨T, h1, h2, h3, h4, h5, h6⟩ := hs
    exact ⟨T, h1, h2, h3, h4, h5.drew, h6⟩
theorem CrX.abides (w : World) (R : Ty × Bool) (c : Code) : AbidesO (w.heap.size + 4) (w.heap.size + 6) 0 (fun (_ : List (List UInt8)) W => CrX w R c W) := by
  refine ⟨fun pre X Y row hs hg hr => ?_, fun pre X hs => ?_⟩
  · obtain ⟨rfl, T, h1, h3, h4, h5, h6⟩ := hs
    have hr' : ∀ r, row = some r → w.heap.size + 4 ≤ r := fun r e => (hr r e).1
    exact ⟨rfl, T, h1.turn hg (fun r e => by have := hr' r e; omega), h3.turn hg (fun r e => by have := hr' r e; omega), BoxedK.turn h4 hg (fun r e => by have := hr' r e; omega), h5.grown hg h5.size (fun r e => by have := hr' r e; omega), h6⟩
  · obtain ⟨rfl, T, h1, h3, h4, h5, h6⟩ := hs
    exact ⟨rfl, T, h1, h3, h4, h5.drew, h6⟩
theorem six_tally {w : World} {R : Nat} {z0 z1 z2 z3 z4 z5 : Value} (h : w.heap[R]? = some (.cells #[z0, z1, z2, z3, z4, z5] 171 (0, 0))) (a0 a1 a2 a3 a4 a5 : Value) :
    ((((((w.setCell ⟨R, 0, none⟩ a0).setCell ⟨R, 1, none⟩ a1).setCell ⟨R, 2, none⟩ a2).setCell ⟨R, 3, none⟩ a3).setCell ⟨R, 4, none⟩ a4).setCell ⟨R, 5, none⟩ a5).heap[R]? = some (.cells #[a0, a1, a2, a3, a4, a5] 171 (0, 0)) := by
  simp [World.setCell, Array.getElem?_modify, h]
theorem res_count {tmps : Array Value} {w : World} {R : Nat} {cs : Array Value} (hp : tmps.getD 2 undef = .pointer (some ⟨R, 0, none⟩)) (hg : w.heap[R]? = some (.cells cs 171 (0, 0))) (hz : cs.size = 6) :
    (results Tryz.f136 tmps).run Tryz.prog w = .ok (.tuple #[.agg cs, tmps.getD 3 undef]) w := by
  rw [results_cell_tmp rfl, hp]
  have hi : (Tryz.prog.info? 171).map (·.size) = some cs.size := by rw [hz]; kernel_rfl
  simp [asAddr, run_loadVar_row w R 171 171 cs (0, 0) _ hg Tryz.underlying171 rfl hi]
theorem TBox.put {W : World} {b : Nat} {t t' : Ty} (h : TBox W b t) (i : Nat) (v : Value) (ht : t.cells.setIfInBounds i v = t'.cells) : TBox (W.setCell ⟨b, i, none⟩ v) b t' := by
  unfold TBox at *
  rw [← ht]
  simp [World.setCell, Array.getElem?_modify, h]
theorem TBox.drewK {W : World} {b : Nat} {t : Ty} (h : TBox W b t) : TBox W.drew b t := h
theorem BoxedK.drew {W : World} {b : Nat} {t : TypeId} {v : Value} (h : Boxed W b t v) : Boxed W.drew b t v := h
theorem BoxedK.setCell {b i j : Nat} {t : TypeId} {u : Value} {W : World} (h : Boxed W j t u) (hj : j ≠ b) (v : Value) : Boxed (W.setCell ⟨b, i, none⟩ v) j t u := (Below.heap_setCell W ⟨b, i, none⟩ v j hj).trans h
theorem more_some {t t' : Ty} {s : List UInt8} (h : t.more s = some t') (ho : t.ok) : t'.ok ∧ ∀ r, cntM t (s :: r) = cntM t' r := by
  refine ⟨?_, fun r => by rw [cntM, h]⟩
  unfold Ty.more at h
  unfold Ty.ok at *
  obtain ⟨⟨_, _⟩, ⟨_, _⟩, ⟨_, _⟩, ⟨_, _⟩, ⟨_, _⟩, ⟨_, _⟩⟩ := ho
  cases hth : thrM s
  · rw [hth] at h; cases h
  · rw [hth, if_pos rfl] at h
    have key : ∀ (b : Bool) (x : Ty), (if b = true then none else some x) = some t' → b = false ∧ x = t' := by
      intro b x e
      cases b
      · exact ⟨rfl, by simpa using e⟩
      · cases e
    by_cases q0 : (plcM s == 0) = true
    · rw [if_pos q0] at h; obtain ⟨e, rfl⟩ := key _ _ h; simp at e ⊢; omega
    rw [if_neg q0] at h
    by_cases q1 : (plcM s == 1) = true
    · rw [if_pos q1] at h; obtain ⟨e, rfl⟩ := key _ _ h; simp at e ⊢; omega
    rw [if_neg q1] at h
    by_cases q2 : (plcM s == 2) = true
    · rw [if_pos q2] at h; obtain ⟨e, rfl⟩ := key _ _ h; simp at e ⊢; omega
    rw [if_neg q2] at h
    by_cases q3 : (plcM s == 3) = true
    · rw [if_pos q3] at h; obtain ⟨e, rfl⟩ := key _ _ h; simp at e ⊢; omega
    rw [if_neg q3] at h
    by_cases q4 : (plcM s == 4) = true
    · rw [if_pos q4] at h; obtain ⟨e, rfl⟩ := key _ _ h; simp at e ⊢; omega
    rw [if_neg q4] at h
    obtain ⟨e, rfl⟩ := key _ _ h; simp at e ⊢; omega
def put6K (W : World) (b : Nat) (a0 a1 a2 a3 a4 a5 : Value) : World := (((((W.setCell ⟨b, 0, none⟩ a0).setCell ⟨b, 1, none⟩ a1).setCell ⟨b, 2, none⟩ a2).setCell ⟨b, 3, none⟩ a3).setCell ⟨b, 4, none⟩ a4).setCell ⟨b, 5, none⟩ a5
theorem TBox.put6 {W : World} {b : Nat} {z x : Ty} (h : TBox W b z) : TBox (put6K W b (.int .i64 x.c) (.int .i64 x.s) (.int .i64 x.l) (.int .i64 x.i) (.int .i64 x.g) (.int .i64 x.u)) b x := six_tally h _ _ _ _ _ _
theorem heap_put6K (W : World) (b D : Nat) (hD : D ≠ b) (a0 a1 a2 a3 a4 a5 : Value) : (put6K W b a0 a1 a2 a3 a4 a5).heap[D]? = W.heap[D]? := by
  have h : ∀ (W : World) (i : Nat) (v : Value), (W.setCell ⟨b, i, none⟩ v).heap[D]? = W.heap[D]? := fun W i v => Below.heap_setCell W ⟨b, i, none⟩ v D hD
  unfold put6K
  rw [h, h, h, h, h, h]
theorem below_put6K {B b : Nat} {w W : World} (h : Below B w W) (hb : B ≤ b) (a0 a1 a2 a3 a4 a5 : Value) : Below B w (put6K W b a0 a1 a2 a3 a4 a5) := by
  unfold put6K
  exact (((((h.setCell (p := ⟨b, 0, none⟩) hb _).setCell (p := ⟨b, 1, none⟩) hb _).setCell (p := ⟨b, 2, none⟩) hb _).setCell (p := ⟨b, 3, none⟩) hb _).setCell (p := ⟨b, 4, none⟩) hb _).setCell (p := ⟨b, 5, none⟩) hb _
theorem heap_drewK (W : World) (D : Nat) : W.drew.heap[D]? = W.heap[D]? := rfl
/-- What count ends with. -/
theorem count_fin {w W' : World} {D' : Nat} {tc ts tl ti tg tu : Int} (h0 : TBox W' w.heap.size zTy) (hb : Below w.heap.size w W') (hK : W'.heap[D']? = some (.deferred (some []))) (hD : D' ≠ w.heap.size) :
    TBox (put6K W' w.heap.size (.int .i64 tc) (.int .i64 ts) (.int .i64 tl) (.int .i64 ti) (.int .i64 tg) (.int .i64 tu)).drew w.heap.size ⟨tc, ts, tl, ti, tg, tu⟩ ∧ (put6K W' w.heap.size (.int .i64 tc) (.int .i64 ts) (.int .i64 tl) (.int .i64 ti) (.int .i64 tg) (.int .i64 tu)).drew.heap[D']? = some (.deferred (some [])) ∧ Below w.heap.size w (put6K W' w.heap.size (.int .i64 tc) (.int .i64 ts) (.int .i64 tl) (.int .i64 ti) (.int .i64 tg) (.int .i64 tu)).drew :=
  ⟨TBox.drewK (TBox.put6 (x := ⟨tc, ts, tl, ti, tg, tu⟩) h0), (heap_drewK _ _).trans ((heap_put6K W' w.heap.size D' hD _ _ _ _ _ _).trans hK), drewK (below_put6K hb (Nat.le_refl _) _ _ _ _ _ _)⟩
end Go.Proofs.YtmpkgjonbjpohaaGreatDoor
