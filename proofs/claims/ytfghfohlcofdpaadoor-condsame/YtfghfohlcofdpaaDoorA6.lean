/-
  Package cond: pop.
-/
import Derived.Test.YtfghfohlcofdpaaDoorA5
import Derived.Test.YtfghfohlcofdpaaDoorG1
namespace Go.Proofs.YtfghfohlcofdpaaDoor
open Go Go.RowKit
set_option linter.unusedVariables false
set_option linter.unusedSimpArgs false

theorem set_block {W : World} {M : Nat} {cs : Array Value} {t : TypeId} {fr : Nat × Nat} (h : W.heap[M]? = some (.cells cs t fr)) (i : Nat) (v : Value) : (W.setCell ⟨M, i, none⟩ v).heap[M]? = some (.cells (cs.setIfInBounds i v) t fr) := by
  obtain ⟨hlt, hk⟩ := Array.getElem?_eq_some_iff.1 h
  show (W.heap.modify M _)[M]? = _
  rw [Array.getElem?_eq_getElem (by rw [Array.size_modify]; exact hlt), Array.getElem_modify_self, hk]
  rfl
/-- What the reckoner's own functions leave as it was. -/
structure Fk (R : Nat) (W W' : World) : Prop where
  below : Below R W W'
  keep : ∀ b, b < W.heap.size → (∀ cs fr, W.heap[b]? ≠ some (.cells cs 78 fr)) → (∀ cs fr, W.heap[b]? ≠ some (.cells cs 97 fr)) → W'.heap[b]? = W.heap[b]?
theorem Fk.of {R : Nat} {W W' : World} (hb : Below W.heap.size W W') (hR : R ≤ W.heap.size) : Fk R W W' := ⟨hb.mono hR, fun b h _ _ => hb.block b h⟩
theorem Fk.trans {R : Nat} {W W' W'' : World} (h : Fk R W W') (h' : Fk R W' W'') : Fk R W W'' :=
  ⟨h.below.trans h'.below, fun b hb h1 h2 => by
    have e := h.keep b hb h1 h2
    exact (h'.keep b (Nat.lt_of_lt_of_le hb h.below.size) (by rw [e]; exact h1) (by rw [e]; exact h2)).trans e⟩
/-- A cell of a block of the reckoner's own is set. -/
theorem Fk.setCell {R M i : Nat} {W W' : World} (h : Fk R W W') (hM : R ≤ M) {cs : Array Value} {t : TypeId} {fr : Nat × Nat} (hb : W'.heap[M]? = some (.cells cs t fr)) (ht : t = 78 ∨ t = 97) (v : Value) : Fk R W (W'.setCell ⟨M, i, none⟩ v) :=
  ⟨h.below.setCell (p := ⟨M, i, none⟩) hM v, fun b hbs h1 h2 => by
    have e := h.keep b hbs h1 h2
    refine (Below.heap_setCell W' ⟨M, i, none⟩ v b (fun hh => ?_)).trans e
    have hh' : b = M := hh
    subst hh'
    rw [e] at hb
    rcases ht with rfl | rfl
    · exact h1 _ _ hb
    · exact h2 _ _ hb⟩
/-- All blocks that were there but R are as they were. -/
structure Fz (R : Nat) (W W' : World) : Prop where
  below : Below R W W'
  keep : ∀ b, b < W.heap.size → b ≠ R → W'.heap[b]? = W.heap[b]?
theorem Fz.of {R : Nat} {W W' : World} (hb : Below W.heap.size W W') (hR : R ≤ W.heap.size) : Fz R W W' := ⟨hb.mono hR, fun b h _ => hb.block b h⟩
theorem Fz.trans {R : Nat} {W W' W'' : World} (h : Fz R W W') (h' : Fz R W' W'') : Fz R W W'' :=
  ⟨h.below.trans h'.below, fun b hb hne => (h'.keep b (Nat.lt_of_lt_of_le hb h.below.size) hne).trans (h.keep b hb hne)⟩
theorem Fz.setCell {R M i : Nat} {W W' : World} (h : Fz R W W') (hM : M = R ∨ W.heap.size ≤ M) (hR : R ≤ W.heap.size) (v : Value) : Fz R W (W'.setCell ⟨M, i, none⟩ v) :=
  ⟨h.below.setCell (p := ⟨M, i, none⟩) (by show R ≤ M; omega) v, fun b hb hne => (Below.heap_setCell W' ⟨M, i, none⟩ v b (by show b ≠ M; omega)).trans (h.keep b hb hne)⟩
theorem Fz.fk {R : Nat} {W W' : World} {cs : Array Value} {fr : Nat × Nat} (h : Fz R W W') (hb : W.heap[R]? = some (.cells cs 78 fr)) : Fk R W W' :=
  ⟨h.below, fun b hlt h1 _ => h.keep b hlt (fun e => h1 cs fr (e ▸ hb))⟩
theorem VBox.fk {R M : Nat} {W W' : World} {b : Value} {u : Bool} (h : VBox W M b u) (hf : Fk R W W') : VBox W' M b u := by
  have h' : W.heap[M]? = _ := h
  exact (hf.keep M h.lt (fun cs fr => by rw [h']; simp) (fun cs fr => by rw [h']; simp)).trans h
theorem row_pop {W : World} {base g n cap : Nat} {x : Wt} {st : List Wt} (h : W.ownsRow base 97 6 (.slice (some ⟨g, 0, none⟩) (n + 1) cap) (n + 1) (wCells (x :: st).reverse)) (hn : n = st.length) : W.ownsRow base 97 6 (.slice (some ⟨g, 0, none⟩) n cap) n (wCells st.reverse) := by
  subst hn
  rcases h.2 with ⟨e, _⟩ | ⟨g', cap', cur, e, h1, h2, h3, h4, h5, h6⟩
  · cases e
  · obtain ⟨rfl, rfl⟩ : g = g' ∧ cap = cap' := by simpa using e
    refine ⟨by rw [wCells_length, List.length_reverse], .inr ⟨g, cap, cur, rfl, h1, h2, by omega, h4, h5, ?_⟩⟩
    have e2 := congrArg (List.take (st.length * 6)) h6
    rw [List.take_take, Nat.min_eq_left (by omega), List.reverse_cons, wCells_snoc] at e2
    rw [e2]
    rw [List.take_append_of_le_length (by simp [wCells_length]), List.take_of_length_le (by simp [wCells_length])]
theorem skN_cons (x : Wt) (st : List Wt) : skN (x :: st) = if x.skips then skN st + 1 else skN st := by
  unfold skN
  rw [List.countP_cons]
  cases x.skips <;> simp
theorem skN_nonneg (st : List Wt) : 0 ≤ skN st := by unfold skN; omega
theorem skN_le (st : List Wt) : skN st ≤ st.length := by
  unfold skN
  have := List.countP_le_length (p := fun x : Wt => x.skips) (l := st)
  omega
end Go.Proofs.YtfghfohlcofdpaaDoor
