/-
  Package cond: the list of what waits: last, push, pop.
  Package cond: pop.
  Package cond: pop.
  Package cond: push.
  Package cond: leave.
  Package cond: settle.
-/
import Derived.Test.YtfghfohlcofdpaaGreatDoorA4
import Derived.Laws.OwnMore
import Derived.Deep.AppendLies
import Derived.Test.YtfghfohlcofdpaaGreatDoorG1
import Derived.Deep.RegionLaw
import Derived.OwnWalk
namespace Go.Proofs.YtfghfohlcofdpaaGreatDoor
open Go Go.RowKit
set_option linter.unusedVariables false
set_option linter.unusedSimpArgs false

def Wt.l (x : Wt) : List Value := [.string ⟨x.sign.toArray⟩, .int .i64 x.lev, .int .u64 x.a.b, .bool x.a.u, .bool x.taken, .bool x.skips]
/-- The cells of what waits, the first one first. -/
def wCells (l : List Wt) : List Value := l.flatMap Wt.l
theorem wCells_length (l : List Wt) : (wCells l).length = l.length * 6 := by
  induction l with
  | nil => rfl
  | cons x r ih => simp only [wCells, List.flatMap_cons, List.length_append, List.length_cons] at ih ⊢; rw [ih]; simp [Wt.l]; omega
theorem wCells_snoc (l : List Wt) (x : Wt) : wCells (l ++ [x]) = wCells l ++ x.l := by simp [wCells]
/-- How many of those that wait skip what comes. -/
def skN (st : List Wt) : Int := (st.countP (·.skips) : Nat)
/-- The reckoner in its box: those that wait, the last one first. -/
structure Rk (W : World) (R : Nat) (v : Value) (st : List Wt) (und : Bool) : Prop where
  box : W.heap[R]? = some (.cells #[v, .int .i64 (skN st), .bool und] 53 (0, 0))
  row : W.ownsRow (R + 1) 70 6 v st.length (wCells st.reverse)
theorem Rk.lt {W : World} {R : Nat} {v : Value} {st : List Wt} {und : Bool} (h : Rk W R v st und) : R < W.heap.size := (Array.getElem?_eq_some_iff.1 h.box).1
theorem Rk.three {W : World} {R : Nat} {v : Value} {st : List Wt} {und : Bool} (h : Rk W R v st und) : W.cell? ⟨R, 0, none⟩ = some v ∧ W.cell? ⟨R, 1, none⟩ = some (.int .i64 (skN st)) ∧ W.cell? ⟨R, 2, none⟩ = some (.bool und) := by
  refine ⟨?_, ?_, ?_⟩ <;> (rw [World.cell?, h.box]; rfl)
theorem Rk.frozen {W : World} {R : Nat} {v : Value} {st : List Wt} {und : Bool} (h : Rk W R v st und) (i : Nat) : W.frozen? ⟨R, i, none⟩ = false := by
  simp [World.frozen?, h.box]
theorem ownsRow_slice {W : World} {base n size : Nat} {e : TypeId} {v : Value} {xs : List Value} (h : W.ownsRow base e size v n xs) : ∃ p cap, v = .slice p n cap := by
  rcases h.2 with ⟨rfl, h0⟩ | ⟨g, cap, cur, rfl, _⟩
  · exact ⟨none, 0, by rw [h0]⟩
  · exact ⟨_, _, rfl⟩
theorem ownsRow_bel {w w' : World} {B : Nat} {e : TypeId} {k : Nat} {v : Value} {n : Nat} {xs : List Value} (h : w.ownsRow B e k v n xs) (hb : Below w.heap.size w w') : w'.ownsRow B e k v n xs := by
  refine ⟨h.1, ?_⟩
  rcases h.2 with h | ⟨g, cap, cur, e1, e2, e3, r⟩
  · exact .inl h
  · exact .inr ⟨g, cap, cur, e1, e2, (hb.block g (Array.getElem?_eq_some_iff.1 e3).1).trans e3, r⟩
theorem Rk.next {W W' : World} {R : Nat} {v : Value} {st : List Wt} {und : Bool} (h : Rk W R v st und) (hb : Below W.heap.size W W') : Rk W' R v st und :=
  ⟨(hb.block R h.lt).trans h.box, ownsRow_bel h.row hb⟩
/-- The last one's cells. -/
theorem Rk.top {W : World} {R : Nat} {v : Value} {x : Wt} {st : List Wt} {und : Bool} (h : Rk W R v (x :: st) und) : ∃ g cap, v = .slice (some ⟨g, 0, none⟩) (st.length + 1) cap ∧ R + 1 ≤ g ∧ st.length + 1 ≤ cap ∧ cap ≤ maxLen ∧
    W.cell? ⟨g, st.length * 6, none⟩ = some (.string ⟨x.sign.toArray⟩) ∧ W.cell? ⟨g, st.length * 6 + 1, none⟩ = some (.int .i64 x.lev) ∧ W.cell? ⟨g, st.length * 6 + 2, none⟩ = some (.int .u64 x.a.b) ∧
    W.cell? ⟨g, st.length * 6 + 3, none⟩ = some (.bool x.a.u) ∧ W.cell? ⟨g, st.length * 6 + 4, none⟩ = some (.bool x.taken) ∧ W.cell? ⟨g, st.length * 6 + 5, none⟩ = some (.bool x.skips) := by
  have hr := h.row
  rcases hr.2 with ⟨_, h0⟩ | ⟨g, cap, cur, rfl, h1, h2, h3, h4, h5, h6⟩
  · simp at h0
  · rw [List.length_cons] at h3 h6
    refine ⟨g, cap, rfl, h1, h3, h4, ?_⟩
    have key : ∀ j u, j < 6 → x.l[j]? = some u → W.cell? ⟨g, st.length * 6 + j, none⟩ = some u := fun j u hj hu => by
      have e : (cur.toList.take ((st.length + 1) * 6))[st.length * 6 + j]? = (wCells (x :: st).reverse)[st.length * 6 + j]? := by rw [h6]
      rw [List.getElem?_take_of_lt (by omega), List.reverse_cons, wCells_snoc, List.getElem?_append_right (by rw [wCells_length, List.length_reverse]; omega), wCells_length, List.length_reverse, Nat.add_sub_cancel_left, hu] at e
      rw [World.cell?, h2]
      simpa using e
    exact ⟨key 0 _ (by decide) rfl, key 1 _ (by decide) rfl, key 2 _ (by decide) rfl, key 3 _ (by decide) rfl, key 4 _ (by decide) rfl, key 5 _ (by decide) rfl⟩
theorem res_w {f : Func} {k : Nat} {tmps : Array Value} {w : World} {R : Nat} {cs : Array Value} (hr : f.results = #[.cell k 70]) (hp : tmps.getD k undef = .pointer (some ⟨R, 0, none⟩)) (hg : w.heap[R]? = some (.cells cs 70 (0, 0))) (hz : cs.size = 6) :
    (results f tmps).run Tryz.prog w = .ok (.agg cs) w := by
  have hi : (Tryz.prog.info? 70).map (·.size) = some cs.size := by rw [hz]; kernel_rfl
  have hp' : tmps[k]?.getD undef = .pointer (some ⟨R, 0, none⟩) := by simpa using hp
  simp [results, hr, hp', asAddr, run_loadVar_row w R 70 70 cs (0, 0) _ hg Tryz.underlying70 rfl hi]
set_option maxRecDepth 100000 in
set_option maxHeartbeats 4000000 in
theorem last_any (R : Nat) (v : Value) (x : Wt) (st : List Wt) (und : Bool) (w : World) (h : Rk w R v (x :: st) und) :
    Calls Tryz.prog 28 #[.pointer (some ⟨R, 0, none⟩)] w fun e w' => e = .returned x.v ∧ Below w.heap.size w w' := by
  obtain ⟨g, cap, rfl, hg, hc, hm, t0, t1, t2, t3, t4, t5⟩ := h.top
  obtain ⟨c0, _, _⟩ := h.three
  have hb := below_new w (.cells #[.string ⟨#[]⟩, .int .i64 0, .int .u64 0, .bool false, .bool false, .bool false] 70)
  have hn := World.alloc_heap_new w (.cells #[.string ⟨#[]⟩, .int .i64 0, .int .u64 0, .bool false, .bool false, .bool false] 70)
  have hlR := h.lt
  have hlg := World.block_lt_of_cell? _ _ t0
  obtain ⟨s, lev, ⟨ab, au⟩, taken, skips⟩ := x
  simp only [Wt.v] at *
  have hi : ((st.length + 1 : Nat) : Int) - 1 = (st.length : Int) := by omega
  clear h
  generalize st.length = n at *
  have hm' : cap ≤ 9223372036854775807 := hm
  have hw : wrap64 (n : Int) = n := by unfold wrap64; omega
  have hw' : IntKind.i64.wrap (n : Int) = n := by rw [IntKind.wrap_i64]; omega
  go_enter Tryz.func28, Tryz.ntmps28
  go_upto_region 1 with fail
  go_region
  all_goals (
    go_wp2
    refine bodyPost_ret (res_w (f := Tryz.f28) rfl rfl (World.alloc_heap_new w _) rfl) rfl ⟨rfl, ?_⟩
    have b := below_new w (.cells #[.string ⟨s.toArray⟩, .int .i64 lev, .int .u64 ab, .bool au, .bool taken, .bool skips] 70)
    exact ⟨b.os, b.tape, b.output, b.size, b.block⟩)
end Go.Proofs.YtfghfohlcofdpaaGreatDoor
namespace Go.Proofs.YtfghfohlcofdpaaGreatDoor
open Go Go.RowKit
set_option linter.unusedVariables false
set_option linter.unusedSimpArgs false

theorem set_block {W : World} {M : Nat} {cs : Array Value} {t : TypeId} {fr : Nat × Nat} (h : W.heap[M]? = some (.cells cs t fr)) (i : Nat) (v : Value) : (W.setCell ⟨M, i, none⟩ v).heap[M]? = some (.cells (cs.setIfInBounds i v) t fr) := by
  obtain ⟨hlt, hk⟩ := Array.getElem?_eq_some_iff.1 h
  show (W.heap.modify M _)[M]? = _
  rw [Array.getElem?_eq_getElem (by rw [Array.size_modify]; exact hlt), Array.getElem_modify_self, hk]
  rfl
/-- What the reckoner's own functions leave as it was. -/
structure Fk (R : Nat) (W W' : World) : Prop where
  below : Below R W W'
  keep : ∀ b, b < W.heap.size → (∀ cs fr, W.heap[b]? ≠ some (.cells cs 53 fr)) → (∀ cs fr, W.heap[b]? ≠ some (.cells cs 70 fr)) → W'.heap[b]? = W.heap[b]?
theorem Fk.of {R : Nat} {W W' : World} (hb : Below W.heap.size W W') (hR : R ≤ W.heap.size) : Fk R W W' := ⟨hb.mono hR, fun b h _ _ => hb.block b h⟩
theorem Fk.trans {R : Nat} {W W' W'' : World} (h : Fk R W W') (h' : Fk R W' W'') : Fk R W W'' :=
  ⟨h.below.trans h'.below, fun b hb h1 h2 => by
    have e := h.keep b hb h1 h2
    exact (h'.keep b (Nat.lt_of_lt_of_le hb h.below.size) (by rw [e]; exact h1) (by rw [e]; exact h2)).trans e⟩
/-- A cell of a block of the reckoner's own is set. -/
theorem Fk.setCell {R M i : Nat} {W W' : World} (h : Fk R W W') (hM : R ≤ M) {cs : Array Value} {t : TypeId} {fr : Nat × Nat} (hb : W'.heap[M]? = some (.cells cs t fr)) (ht : t = 53 ∨ t = 70) (v : Value) : Fk R W (W'.setCell ⟨M, i, none⟩ v) :=
  ⟨h.below.setCell (p := ⟨M, i, none⟩) hM v, fun b hbs h1 h2 => by
    have e := h.keep b hbs h1 h2
    refine (Below.heap_setCell W' ⟨M, i, none⟩ v b (fun hh => ?_)).trans e
    have hh' : b = M := hh
    subst hh'
    rw [e] at hb
    rcases ht with rfl | rfl
    · exact h1 _ _ hb
    · exact h2 _ _ hb⟩
/-- All blocks that were there but R are as they were. -/
structure Fz (R : Nat) (W W' : World) : Prop where
  below : Below R W W'
  keep : ∀ b, b < W.heap.size → b ≠ R → W'.heap[b]? = W.heap[b]?
theorem Fz.of {R : Nat} {W W' : World} (hb : Below W.heap.size W W') (hR : R ≤ W.heap.size) : Fz R W W' := ⟨hb.mono hR, fun b h _ => hb.block b h⟩
theorem Fz.trans {R : Nat} {W W' W'' : World} (h : Fz R W W') (h' : Fz R W' W'') : Fz R W W'' :=
  ⟨h.below.trans h'.below, fun b hb hne => (h'.keep b (Nat.lt_of_lt_of_le hb h.below.size) hne).trans (h.keep b hb hne)⟩
theorem Fz.setCell {R M i : Nat} {W W' : World} (h : Fz R W W') (hM : M = R ∨ W.heap.size ≤ M) (hR : R ≤ W.heap.size) (v : Value) : Fz R W (W'.setCell ⟨M, i, none⟩ v) :=
  ⟨h.below.setCell (p := ⟨M, i, none⟩) (by show R ≤ M; omega) v, fun b hb hne => (Below.heap_setCell W' ⟨M, i, none⟩ v b (by show b ≠ M; omega)).trans (h.keep b hb hne)⟩
theorem Fz.fk {R : Nat} {W W' : World} {cs : Array Value} {fr : Nat × Nat} (h : Fz R W W') (hb : W.heap[R]? = some (.cells cs 53 fr)) : Fk R W W' :=
  ⟨h.below, fun b hlt h1 _ => h.keep b hlt (fun e => h1 cs fr (e ▸ hb))⟩
theorem VBox.fk {R M : Nat} {W W' : World} {b : Value} {u : Bool} (h : VBox W M b u) (hf : Fk R W W') : VBox W' M b u := by
  have h' : W.heap[M]? = _ := h
  exact (hf.keep M h.lt (fun cs fr => by rw [h']; simp) (fun cs fr => by rw [h']; simp)).trans h
theorem row_pop {W : World} {base g n cap : Nat} {x : Wt} {st : List Wt} (h : W.ownsRow base 70 6 (.slice (some ⟨g, 0, none⟩) (n + 1) cap) (n + 1) (wCells (x :: st).reverse)) (hn : n = st.length) : W.ownsRow base 70 6 (.slice (some ⟨g, 0, none⟩) n cap) n (wCells st.reverse) := by
  subst hn
  rcases h.2 with ⟨e, _⟩ | ⟨g', cap', cur, e, h1, h2, h3, h4, h5, h6⟩
  · cases e
  · obtain ⟨rfl, rfl⟩ : g = g' ∧ cap = cap' := by simpa using e
    refine ⟨by rw [wCells_length, List.length_reverse], .inr ⟨g, cap, cur, rfl, h1, h2, by omega, h4, h5, ?_⟩⟩
    have e2 := congrArg (List.take (st.length * 6)) h6
    rw [List.take_take, Nat.min_eq_left (by omega), List.reverse_cons, wCells_snoc] at e2
    rw [e2]
    rw [List.take_append_of_le_length (by simp [wCells_length]), List.take_of_length_le (by simp [wCells_length])]
theorem skN_cons (x : Wt) (st : List Wt) : skN (x :: st) = if x.skips then skN st + 1 else skN st := by
  unfold skN
  rw [List.countP_cons]
  cases x.skips <;> simp
theorem skN_nonneg (st : List Wt) : 0 ≤ skN st := by unfold skN; omega
theorem skN_le (st : List Wt) : skN st ≤ st.length := by
  unfold skN
  have := List.countP_le_length (p := fun x : Wt => x.skips) (l := st)
  omega
end Go.Proofs.YtfghfohlcofdpaaGreatDoor
namespace Go.Proofs.YtfghfohlcofdpaaGreatDoor
open Go Go.RowKit
set_option linter.unusedVariables false
set_option linter.unusedSimpArgs false
theorem row_ne {W : World} {base n size M i : Nat} {e : TypeId} {v u : Value} {xs : List Value} (h : W.ownsRow base e size v n xs) (hne : ∀ g o n c, v = .slice (some ⟨g, o, none⟩) n c → g ≠ M) : (W.setCell ⟨M, i, none⟩ u).ownsRow base e size v n xs := by
  refine ⟨h.1, ?_⟩
  rcases h.2 with h | ⟨g, cap, cur, e1, e2, e3, r⟩
  · exact .inl h
  · exact .inr ⟨g, cap, cur, e1, e2, (Below.heap_setCell W ⟨M, i, none⟩ u g (hne g 0 _ _ e1)).trans e3, r⟩
def put6 (W : World) (M : Nat) (a b c d e f : Value) : World :=
  (((((W.setCell ⟨M, 0, none⟩ a).setCell ⟨M, 1, none⟩ b).setCell ⟨M, 2, none⟩ c).setCell ⟨M, 3, none⟩ d).setCell ⟨M, 4, none⟩ e).setCell ⟨M, 5, none⟩ f
theorem put6_block {W : World} {M : Nat} {a b c d e f : Value} (h : W.heap[M]? = some (.cells #[a, b, c, d, e, f] 70 (0, 0))) (a' b' c' d' e' f' : Value) : (put6 W M a' b' c' d' e' f').heap[M]? = some (.cells #[a', b', c', d', e', f'] 70 (0, 0)) :=
  set_block (set_block (set_block (set_block (set_block (set_block h 0 a') 1 b') 2 c') 3 d') 4 e') 5 f'
theorem put6_fk {R M : Nat} {W W' : World} {a b c d e f : Value} (hf : Fk R W W') (hM : R ≤ M) (h : W'.heap[M]? = some (.cells #[a, b, c, d, e, f] 70 (0, 0))) (a' b' c' d' e' f' : Value) : Fk R W (put6 W' M a' b' c' d' e' f') :=
  (((((hf.setCell hM h (.inr rfl) a').setCell hM (set_block h 0 a') (.inr rfl) b').setCell hM (set_block (set_block h 0 a') 1 b') (.inr rfl) c').setCell hM (set_block (set_block (set_block h 0 a') 1 b') 2 c') (.inr rfl) d').setCell hM (set_block (set_block (set_block (set_block h 0 a') 1 b') 2 c') 3 d') (.inr rfl) e').setCell hM (set_block (set_block (set_block (set_block (set_block h 0 a') 1 b') 2 c') 3 d') 4 e') (.inr rfl) f'
theorem put6_fz {R M : Nat} {W W' : World} (hf : Fz R W W') (hM : W.heap.size ≤ M) (hR : R ≤ W.heap.size) (a b c d e f : Value) : Fz R W (put6 W' M a b c d e f) :=
  (((((hf.setCell (.inr hM) hR a).setCell (.inr hM) hR b).setCell (.inr hM) hR c).setCell (.inr hM) hR d).setCell (.inr hM) hR e).setCell (.inr hM) hR f
theorem put6_rk {R M : Nat} {W : World} {v : Value} {st : List Wt} {und : Bool} (h : Rk W R v st und) (hM : R ≠ M) (hne : ∀ g o n c, v = .slice (some ⟨g, o, none⟩) n c → g ≠ M) (a b c d e f : Value) : Rk (put6 W M a b c d e f) R v st und := by
  have key : ∀ (W : World) (i : Nat) (u : Value), Rk W R v st und → Rk (W.setCell ⟨M, i, none⟩ u) R v st und := fun W i u h => ⟨(Below.heap_setCell W ⟨M, i, none⟩ u R hM).trans h.box, row_ne h.row hne⟩
  exact key _ _ _ (key _ _ _ (key _ _ _ (key _ _ _ (key _ _ _ (key _ _ _ h)))))
theorem sixes {W : World} {M : Nat} {a b c d e f : Value} (h : W.heap[M]? = some (.cells #[a, b, c, d, e, f] 70 (0, 0))) : (W.cell? ⟨M, 0, none⟩ = some a ∧ W.cell? ⟨M, 1, none⟩ = some b ∧ W.cell? ⟨M, 2, none⟩ = some c ∧ W.cell? ⟨M, 3, none⟩ = some d ∧ W.cell? ⟨M, 4, none⟩ = some e ∧ W.cell? ⟨M, 5, none⟩ = some f) ∧ ∀ i, W.frozen? ⟨M, i, none⟩ = false := by
  refine ⟨⟨?_, ?_, ?_, ?_, ?_, ?_⟩, fun i => by simp [World.frozen?, h]⟩ <;> (rw [World.cell?, h]; rfl)
theorem Rk.set0 {W : World} {R : Nat} {v v' : Value} {st : List Wt} {und : Bool} {k : Int} (h : W.heap[R]? = some (.cells #[v, .int .i64 k, .bool und] 53 (0, 0))) : (W.setCell ⟨R, 0, none⟩ v').heap[R]? = some (.cells #[v', .int .i64 k, .bool und] 53 (0, 0)) := set_block h 0 v'
set_option maxRecDepth 100000 in
set_option maxHeartbeats 4000000 in
theorem pop_any (R : Nat) (v : Value) (x : Wt) (st : List Wt) (und : Bool) (w : World) (h : Rk w R v (x :: st) und) :
    Calls Tryz.prog 29 #[.pointer (some ⟨R, 0, none⟩)] w fun e w' => e = .returned x.v ∧ (∃ v', Rk w' R v' st und ∧ ∀ g o n c, v' = .slice (some ⟨g, o, none⟩) n c → ∃ n' c', v = .slice (some ⟨g, o, none⟩) n' c') ∧ Fz R w w' := by
  have hlR := h.lt
  have hgl : ∀ g cap, v = .slice (some ⟨g, 0, none⟩) (st.length + 1) cap → g < w.heap.size := fun g' cap' e => by
    obtain ⟨g, cap, hv, _, _, _, t0, _⟩ := h.top
    rw [hv] at e
    cases e
    exact World.block_lt_of_cell? _ _ t0
  have hb0 := below_new w (.cells #[.string ⟨#[]⟩, .int .i64 0, .int .u64 0, .bool false, .bool false, .bool false] 70)
  have hn0 := World.alloc_heap_new w (.cells #[.string ⟨#[]⟩, .int .i64 0, .int .u64 0, .bool false, .bool false, .bool false] 70)
  have hk0 := h.next hb0
  have HL := hide (last_any R v x st und _ hk0)
  have HB0 := hide hb0
  have HN0 := hide hn0
  have HK0 := hide hk0
  have HSK := hide (skN_cons x st)
  have hz0 : (w.alloc (.cells #[.string ⟨#[]⟩, .int .i64 0, .int .u64 0, .bool false, .bool false, .bool false] 70)).heap.size = w.heap.size + 1 := by simp
  obtain ⟨s, lev, ⟨ab, au⟩, taken, skips⟩ := x
  simp only [Wt.v] at HL ⊢
  clear hb0 hn0 hk0 h
  go_enter Tryz.func29, Tryz.ntmps29
  go_wp2_with fail
  refine (unhide HL).mono ?_
  rintro e W1 ⟨rfl, hb1⟩
  have hal := below_new W1 (.cells #[.string ⟨s.toArray⟩, .int .i64 lev, .int .u64 ab, .bool au, .bool taken, .bool skips] 70)
  have hk2 := ((unhide HK0).next hb1).next hal
  have hs1 := hb1.size
  rw [hz0] at hs1
  have hr2 := (hal.block w.heap.size (by omega)).trans ((hb1.block w.heap.size (by omega)).trans (unhide HN0))
  have hx2 := World.alloc_heap_new W1 (.cells #[.string ⟨s.toArray⟩, .int .i64 lev, .int .u64 ab, .bool au, .bool taken, .bool skips] 70)
  obtain ⟨g, cap, hv, hg, hc, hm, t0, t1, t2, t3, t4, t5⟩ := hk2.top
  have HGL := hgl g cap hv
  subst hv
  clear hgl
  obtain ⟨c0, c1, c2⟩ := hk2.three
  have f0 := hk2.frozen 0
  have f1 := hk2.frozen 1
  have HK2 := hide hk2
  have HR2 := hide hr2
  have HX2 := hide hx2
  have HF2 := hide ((Fz.of (R := R) (unhide HB0) (by omega)).trans ((Fz.of (R := R) hb1 (by omega)).trans (Fz.of (R := R) hal (by omega))))
  have hz2 : (W1.alloc (.cells #[.string ⟨s.toArray⟩, .int .i64 lev, .int .u64 ab, .bool au, .bool taken, .bool skips] 70)).heap.size = W1.heap.size + 1 := by simp
  have hm' : cap ≤ 9223372036854775807 := hm
  obtain ⟨n, hn⟩ : ∃ n, st.length = n := ⟨_, rfl⟩
  rw [hn] at hc c0
  have HNN := hide hn
  have hnc : (n : Int) ≤ (cap : Int) := by omega
  have hn63 : n ≤ 9223372036854775806 := by omega
  clear hal hb1 hk2 hr2 hx2 HL HB0 HN0 HK0 t0 t1 t2 t3 t4 t5 hn
  go_upto_region 2 with fail
  go_region
  all_goals (
    have HB3 : Hid ((World.setCell (W1.alloc (.cells #[.string ⟨s.toArray⟩, .int .i64 lev, .int .u64 ab, .bool au, .bool taken, .bool skips] 70)) ⟨R, 0, none⟩ (.slice (some ⟨g, 0, none⟩) n cap)).drew.heap[R]? = some (.cells #[.slice (some ⟨g, 0, none⟩) n cap, .int .i64 (skN (⟨s, lev, ⟨ab, au⟩, taken, skips⟩ :: st)), .bool und] 53 (0, 0))) := set_block (unhide HK2).box 0 _
    have HW3 : Hid ((World.setCell (W1.alloc (.cells #[.string ⟨s.toArray⟩, .int .i64 lev, .int .u64 ab, .bool au, .bool taken, .bool skips] 70)) ⟨R, 0, none⟩ (.slice (some ⟨g, 0, none⟩) n cap)).drew.ownsRow (R + 1) 70 6 (.slice (some ⟨g, 0, none⟩) n cap) n (wCells st.reverse)) := by
      have hr := (unhide HK2).row
      rw [List.length_cons, unhide HNN] at hr
      exact ownsRow_setCell (row_pop hr (unhide HNN).symm) (Nat.lt_succ_self _) _
    have HR3 : Hid ((World.setCell (W1.alloc (.cells #[.string ⟨s.toArray⟩, .int .i64 lev, .int .u64 ab, .bool au, .bool taken, .bool skips] 70)) ⟨R, 0, none⟩ (.slice (some ⟨g, 0, none⟩) n cap)).drew.heap[w.heap.size]? = some (.cells #[.string ⟨#[]⟩, .int .i64 0, .int .u64 0, .bool false, .bool false, .bool false] 70 (0, 0))) := (Below.heap_setCell _ _ _ _ (by show w.heap.size ≠ R; omega)).trans (unhide HR2)
    have HX3 : Hid ((World.setCell (W1.alloc (.cells #[.string ⟨s.toArray⟩, .int .i64 lev, .int .u64 ab, .bool au, .bool taken, .bool skips] 70)) ⟨R, 0, none⟩ (.slice (some ⟨g, 0, none⟩) n cap)).drew.heap[W1.heap.size]? = some (.cells #[.string ⟨s.toArray⟩, .int .i64 lev, .int .u64 ab, .bool au, .bool taken, .bool skips] 70 (0, 0))) := (Below.heap_setCell _ _ _ _ (by show W1.heap.size ≠ R; omega)).trans (unhide HX2)
    have HF3 : Hid (Fz R w (World.setCell (W1.alloc (.cells #[.string ⟨s.toArray⟩, .int .i64 lev, .int .u64 ab, .bool au, .bool taken, .bool skips] 70)) ⟨R, 0, none⟩ (.slice (some ⟨g, 0, none⟩) n cap)).drew) := by
      have f := (unhide HF2).setCell (M := R) (i := 0) (.inl rfl) (by omega) (.slice (some ⟨g, 0, none⟩) n cap)
      exact ⟨⟨f.below.os, f.below.tape, f.below.output, f.below.size, f.below.block⟩, f.keep⟩
    have hgs : g < w.heap.size := HGL
    clear HK2 HR2 HX2 HF2 f0 f1 c0 c1 c2
    generalize World.drew _ = W3 at *
    obtain ⟨⟨r0, r1, r2, r3, r4, r5⟩, fr⟩ := sixes (unhide HR3)
    obtain ⟨⟨x0, x1, x2, x3, x4, x5⟩, _⟩ := sixes (unhide HX3)
    have fr0 := fr 0
    have fr1 := fr 1
    have fr2 := fr 2
    have fr3 := fr 3
    have fr4 := fr 4
    have fr5 := fr 5
    have c1 : W3.cell? ⟨R, 1, none⟩ = some (.int .i64 (skN (⟨s, lev, ⟨ab, au⟩, taken, skips⟩ :: st))) := by rw [World.cell?, unhide HB3]; rfl
    have f1 : W3.frozen? ⟨R, 1, none⟩ = false := by simp [World.frozen?, unhide HB3]
    have hsk := unhide HSK
    have hs0 := skN_nonneg st
    have hs9 : skN st ≤ (n : Int) := by have := skN_le st; rw [unhide HNN] at this; exact this
    rw [hsk] at c1 HB3
    clear fr hsk
    have HHS : Hid (skN st = skN st) := rfl
    cases skips
    · simp only [Bool.false_eq_true, if_false] at c1 HB3
      have HK4 : Hid (Rk W3 R (.slice (some ⟨g, 0, none⟩) n cap) st und) := ⟨unhide HB3, by rw [unhide HNN]; exact unhide HW3⟩
      go_wp2
      refine bodyPost_ret (res_w (f := Tryz.f29) rfl rfl (put6_block (unhide HR3) _ _ _ _ _ _) rfl) rfl ⟨rfl, ⟨_, put6_rk (unhide HK4) (by omega) (fun g' o n c e => by cases e; omega) _ _ _ _ _ _, fun g' o n c e => by cases e; simp⟩, put6_fz (unhide HF3) (Nat.le_refl _) (by omega) _ _ _ _ _ _⟩
    · simp only [if_true] at c1 HB3
      have e1 : skN st + 1 - 1 = skN st := by omega
      generalize hkk : skN st = kk at *
      have hneR : w.heap.size ≠ R := by omega
      have HB4 : Hid ((W3.setCell ⟨R, 1, none⟩ (.int .i64 kk)).heap[R]? = some (.cells #[.slice (some ⟨g, 0, none⟩) n cap, .int .i64 kk, .bool und] 53 (0, 0))) := set_block (unhide HB3) 1 _
      have HK4 : Hid (Rk (W3.setCell ⟨R, 1, none⟩ (.int .i64 kk)) R (.slice (some ⟨g, 0, none⟩) n cap) st und) := ⟨by rw [hkk]; exact unhide HB4, by rw [unhide HNN]; exact ownsRow_setCell (unhide HW3) (Nat.lt_succ_self _) _⟩
      have HR4 := hide ((Below.heap_setCell W3 ⟨R, 1, none⟩ (.int .i64 kk) _ hneR).trans (unhide HR3))
      have HF4 := hide ((unhide HF3).setCell (M := R) (i := 1) (.inl rfl) (by omega) (.int .i64 kk))
      clear hkk
      go_wp2
      refine bodyPost_ret (res_w (f := Tryz.f29) rfl rfl (put6_block (unhide HR4) _ _ _ _ _ _) rfl) rfl ⟨rfl, ⟨_, put6_rk (unhide HK4) (by omega) (fun g' o n c e => by cases e; omega) _ _ _ _ _ _, fun g' o n c e => by cases e; simp⟩, put6_fz (unhide HF4) (Nat.le_refl _) (by omega) _ _ _ _ _ _⟩)
end Go.Proofs.YtfghfohlcofdpaaGreatDoor
namespace Go.Proofs.YtfghfohlcofdpaaGreatDoor
open Go Go.RowKit
set_option linter.unusedVariables false
set_option linter.unusedSimpArgs false

theorem info96 : (Tryz.prog.info? 70).map (fun i => (i.zero, i.size, i.bytes)) = some (some (.agg #[.string ⟨#[]⟩, .int .i64 0, .int .u64 0, .bool false, .bool false, .bool false]), 6, 48) := by kernel_rfl
set_option maxRecDepth 100000 in
set_option maxHeartbeats 4000000 in
theorem push_any (R : Nat) (v : Value) (x : Wt) (st : List Wt) (und : Bool) (w : World) (h : Rk w R v st und) (hst : st.length ≤ 1000000) :
    Calls Tryz.prog 23 #[.pointer (some ⟨R, 0, none⟩), x.v] w fun e w' => e = .returned (.tuple #[]) ∧ (∃ v', Rk w' R v' (x :: st) und) ∧ Fk R w w' := by
  have hlR := h.lt
  have hb1 := below_new w (.cells #[.string ⟨x.sign.toArray⟩, .int .i64 x.lev, .int .u64 x.a.b, .bool x.a.u, .bool x.taken, .bool x.skips] 70)
  have hn1 := World.alloc_heap_new w (.cells #[.string ⟨x.sign.toArray⟩, .int .i64 x.lev, .int .u64 x.a.b, .bool x.a.u, .bool x.taken, .bool x.skips] 70)
  have hk1 := h.next hb1
  have hz1 : (w.alloc (.cells #[.string ⟨x.sign.toArray⟩, .int .i64 x.lev, .int .u64 x.a.b, .bool x.a.u, .bool x.taken, .bool x.skips] 70)).heap.size = w.heap.size + 1 := by simp
  have hown : ∀ g, v.ownBlock = some g → R + 1 ≤ g ∧ g < w.heap.size ∧ ∃ cur, w.heap[g]? = some (.cells cur 70 (0, 0)) := fun g hg => by
    rcases h.row.2 with ⟨e, _⟩ | ⟨g', cap, cur, e, a1, a2, _⟩
    · rw [e] at hg; cases hg
    · rw [e] at hg
      obtain rfl : g' = g := by simpa [Value.ownBlock] using hg
      exact ⟨a1, (Array.getElem?_eq_some_iff.1 a2).1, cur, a2⟩
  obtain ⟨i0, hi0, hq0, hq1, hq2⟩ := info_parts info96
  obtain ⟨q, cp, hvq⟩ := ownsRow_slice h.row
  obtain ⟨c0, c1, c2⟩ := hk1.three
  obtain ⟨⟨x0, x1, x2, x3, x4, x5⟩, _⟩ := sixes hn1
  obtain ⟨s, lev, ⟨ab, au⟩, taken, skips⟩ := x
  simp only [Wt.v] at *
  have HK1 := hide hk1
  have HN1 := hide hn1
  have HB1 := hide hb1
  have HOWN := hide hown
  have hf0 := hk1.frozen 0
  have hbo := below_new (w.alloc (.cells #[.string ⟨s.toArray⟩, .int .i64 lev, .int .u64 ab, .bool au, .bool taken, .bool skips] 70)) (.cells #[.string ⟨s.toArray⟩, .int .i64 lev, .int .u64 ab, .bool au, .bool taken, .bool skips] 70)
  have hk2 : Rk ((w.alloc (.cells #[.string ⟨s.toArray⟩, .int .i64 lev, .int .u64 ab, .bool au, .bool taken, .bool skips] 70)).alloc (.cells #[.string ⟨s.toArray⟩, .int .i64 lev, .int .u64 ab, .bool au, .bool taken, .bool skips] 70)).drew R v st und := by
    have a := hk1.next hbo
    exact ⟨a.box, a.row⟩
  have HK2 := hide hk2
  have HNEW : Hid (((w.alloc (.cells #[.string ⟨s.toArray⟩, .int .i64 lev, .int .u64 ab, .bool au, .bool taken, .bool skips] 70)).alloc (.cells #[.string ⟨s.toArray⟩, .int .i64 lev, .int .u64 ab, .bool au, .bool taken, .bool skips] 70)).drew.heap[w.heap.size + 1]? = some (.cells #[.string ⟨s.toArray⟩, .int .i64 lev, .int .u64 ab, .bool au, .bool taken, .bool skips] 70)) := by
    have a := World.alloc_heap_new (w.alloc (.cells #[.string ⟨s.toArray⟩, .int .i64 lev, .int .u64 ab, .bool au, .bool taken, .bool skips] 70)) (.cells #[.string ⟨s.toArray⟩, .int .i64 lev, .int .u64 ab, .bool au, .bool taken, .bool skips] 70)
    rw [hz1] at a
    exact a
  have hzz : ((w.alloc (.cells #[.string ⟨s.toArray⟩, .int .i64 lev, .int .u64 ab, .bool au, .bool taken, .bool skips] 70)).alloc (.cells #[.string ⟨s.toArray⟩, .int .i64 lev, .int .u64 ab, .bool au, .bool taken, .bool skips] 70)).drew.heap.size = w.heap.size + 2 := by
    show ((w.alloc (.cells #[.string ⟨s.toArray⟩, .int .i64 lev, .int .u64 ab, .bool au, .bool taken, .bool skips] 70)).alloc (.cells #[.string ⟨s.toArray⟩, .int .i64 lev, .int .u64 ab, .bool au, .bool taken, .bool skips] 70)).heap.size = _
    simp
  have HZZ := hide hzz
  have HXB : Hid (((w.alloc (.cells #[.string ⟨s.toArray⟩, .int .i64 lev, .int .u64 ab, .bool au, .bool taken, .bool skips] 70)).alloc (.cells #[.string ⟨s.toArray⟩, .int .i64 lev, .int .u64 ab, .bool au, .bool taken, .bool skips] 70)).drew.heap[w.heap.size]? = some (.cells #[.string ⟨s.toArray⟩, .int .i64 lev, .int .u64 ab, .bool au, .bool taken, .bool skips] 70)) := (hbo.block w.heap.size (by rw [hz1]; omega)).trans hn1
  have HF2 : Hid (Fk R w ((w.alloc (.cells #[.string ⟨s.toArray⟩, .int .i64 lev, .int .u64 ab, .bool au, .bool taken, .bool skips] 70)).alloc (.cells #[.string ⟨s.toArray⟩, .int .i64 lev, .int .u64 ab, .bool au, .bool taken, .bool skips] 70)).drew) := by
    have f := (Fk.of (R := R) hb1 (by omega)).trans (Fk.of (R := R) hbo (by rw [hz1]; omega))
    exact ⟨⟨f.below.os, f.below.tape, f.below.output, f.below.size, f.below.block⟩, f.keep⟩
  subst hvq
  clear hk1 hn1 hb1 hown h hk2 hbo hzz
  go_enter Tryz.func23, Tryz.ntmps23
  go_upto_region 1 with fail
  go_region_law (refine step_append_lies _ rfl (.tmp 8) (.tmp 10) 51 rfl (R + 1) 70 i0 _ 6 48 Tryz.underlying51 hi0 hq0 hq1 hq2 rfl (by decide) (.slice q st.length cp) st.length (wCells st.reverse) (by simp [Act.eval, Act.put]) (unhide HK2).row ⟨w.heap.size + 1, 0, none⟩ 1 1 [.string ⟨s.toArray⟩, .int .i64 lev, .int .u64 ab, .bool au, .bool taken, .bool skips] (by simp [Act.eval, Act.put]) rfl (World.news_of_block (cs := #[.string ⟨s.toArray⟩, .int .i64 lev, .int .u64 ab, .bool au, .bool taken, .bool skips]) (t := 70) (fr := (0, 0)) (unhide HNEW)) (by simp [Value.oneCell']) (by decide) (by unfold maxLen; omega) (by omega) (by rw [unhide HZZ]; omega) _ (unhide HZZ) ?_
                 intro g' cap' W4 hrow4 hgr4 hor4 hlt4
                 have hbox4 := (hgr4.block R (by rw [unhide HZZ]; omega) (fun e => by have := (unhide HOWN _ e.symm).1; omega)).trans (unhide HK2).box
                 have d0 : W4.cell? ⟨R, 0, none⟩ = some (.slice q st.length cp) := by rw [World.cell?, hbox4]; rfl
                 have g0 : W4.frozen? ⟨R, 0, none⟩ = false := by simp [World.frozen?, hbox4]
                 have HBX4 := hide hbox4
                 have HRW4 := hide hrow4
                 have HGR4 := hide hgr4
                 have hx4 := (hgr4.block w.heap.size (by rw [unhide HZZ]; omega) (fun e => by have := (unhide HOWN _ e.symm).2.1; omega)).trans (unhide HXB)
                 have HX4 := hide hx4
                 clear hbox4 hrow4 hgr4 hor4 hx4)
  all_goals (
    have HB5 := hide (set_block (unhide HBX4) 0 (.slice (some ⟨g', 0, none⟩) (st.length + 1) cap'))
    have HW5 := hide (ownsRow_setCell (b := R) (i := 0) (unhide HRW4) (Nat.lt_succ_self _) (.slice (some ⟨g', 0, none⟩) (st.length + 1) cap'))
    have HX5 := hide ((Below.heap_setCell W4 ⟨R, 0, none⟩ (.slice (some ⟨g', 0, none⟩) (st.length + 1) cap') w.heap.size (by show w.heap.size ≠ R; omega)).trans (unhide HX4))
    have HF4 : Hid (Fk R w W4) := ⟨(unhide HF2).below.grown (unhide HGR4) (by rw [unhide HZZ]; omega) (fun k e => by have := (unhide HOWN _ e).1; omega), fun b hb h1 h2 => by
      have e := (unhide HF2).keep b hb h1 h2
      refine ((unhide HGR4).block b (by rw [unhide HZZ]; omega) (fun ee => ?_)).trans e
      obtain ⟨_, _, cur, hcur⟩ := unhide HOWN _ ee.symm
      exact h2 _ _ hcur⟩
    have HF5 := hide ((unhide HF4).setCell (M := R) (i := 0) (Nat.le_refl _) (unhide HBX4) (.inl rfl) (.slice (some ⟨g', 0, none⟩) (st.length + 1) cap'))
    clear HBX4 HRW4 HGR4 HX4 HF4 HF2 HXB HK2 HNEW HZZ HK1 HN1 HB1 HOWN d0 g0 c0 c1 c2 x0 x1 x2 x3 x4 x5 hf0
    generalize W4.setCell ⟨R, 0, none⟩ (.slice (some ⟨g', 0, none⟩) (st.length + 1) cap') = W5 at *
    obtain ⟨⟨x0, x1, x2, x3, x4, x5⟩, _⟩ := sixes (unhide HX5)
    have c1 : W5.cell? ⟨R, 1, none⟩ = some (.int .i64 (skN st)) := by rw [World.cell?, unhide HB5]; rfl
    have f1 : W5.frozen? ⟨R, 1, none⟩ = false := by simp [World.frozen?, unhide HB5]
    have hs0 := skN_nonneg st
    have hs9 : skN st ≤ 1000000 := by have := skN_le st; omega
    have HWR : Hid (W5.ownsRow (R + 1) 70 6 (.slice (some ⟨g', 0, none⟩) (st.length + 1) cap') ((⟨s, lev, ⟨ab, au⟩, taken, skips⟩ : Wt) :: st).length (wCells ((⟨s, lev, ⟨ab, au⟩, taken, skips⟩ : Wt) :: st).reverse)) := by
      rw [Hid, List.length_cons, List.reverse_cons, wCells_snoc]
      exact unhide HW5
    cases skips
    · have HKF : Hid (Rk W5 R (.slice (some ⟨g', 0, none⟩) (st.length + 1) cap') (⟨s, lev, ⟨ab, au⟩, taken, false⟩ :: st) und) := ⟨by rw [skN_cons]; exact unhide HB5, unhide HWR⟩
      go_wp2
      refine bodyPost_end (results_none (fn := Tryz.f23) rfl _ _ _) rfl ⟨rfl, ⟨_, unhide HKF⟩, unhide HF5⟩
    · have HKF : Hid (Rk (W5.setCell ⟨R, 1, none⟩ (.int .i64 (skN st + 1))) R (.slice (some ⟨g', 0, none⟩) (st.length + 1) cap') (⟨s, lev, ⟨ab, au⟩, taken, true⟩ :: st) und) := ⟨by rw [skN_cons]; exact set_block (unhide HB5) 1 _, ownsRow_setCell (unhide HWR) (Nat.lt_succ_self _) _⟩
      have HF6 := hide ((unhide HF5).setCell (M := R) (i := 1) (Nat.le_refl _) (unhide HB5) (.inl rfl) (.int .i64 (skN st + 1)))
      generalize skN st = kk at *
      go_wp2
      refine bodyPost_end (results_none (fn := Tryz.f23) rfl _ _ _) rfl ⟨rfl, ⟨_, unhide HKF⟩, unhide HF6⟩)
end Go.Proofs.YtfghfohlcofdpaaGreatDoor
namespace Go.Proofs.YtfghfohlcofdpaaGreatDoor
open Go Go.RowKit
set_option linter.unusedVariables false
set_option linter.unusedSimpArgs false

theorem fld96_0 (a b c d e f : Value) (W : World) : (Instr.field 70 (.agg #[a, b, c, d, e, f]) 0).run Tryz.prog W = .ok a W := by kernel_rfl
theorem fld96_1 (a b c d e f : Value) (W : World) : (Instr.field 70 (.agg #[a, b, c, d, e, f]) 1).run Tryz.prog W = .ok b W := by kernel_rfl
def zeroW : Wt := ⟨[], 0, ⟨0, false⟩, false, false⟩
/-- An open sign is taken away, if it is the last one that waits. -/
def leaveM (sg : List UInt8) : List Wt → Wt × Bool × List Wt
  | [] => (zeroW, false, [])
  | x :: st => if x.sign == sg then (x, true, st) else (zeroW, false, x :: st)
theorem res_wt {f : Func} {k j : Nat} {tmps : Array Value} {w : World} {R : Nat} {cs : Array Value} (hr : f.results = #[.cell k 70, .tmp j]) (hp : tmps.getD k undef = .pointer (some ⟨R, 0, none⟩)) (hg : w.heap[R]? = some (.cells cs 70 (0, 0))) (hz : cs.size = 6) :
    (results f tmps).run Tryz.prog w = .ok (.tuple #[.agg cs, tmps.getD j undef]) w := by
  have hi : (Tryz.prog.info? 70).map (·.size) = some cs.size := by rw [hz]; kernel_rfl
  have hp' : tmps[k]?.getD undef = .pointer (some ⟨R, 0, none⟩) := by simpa using hp
  simp [results, hr, hp', asAddr, run_loadVar_row w R 70 70 cs (0, 0) _ hg Tryz.underlying70 rfl hi]
/-- A row's block is one that was there. -/
theorem Rk.olds {W : World} {R : Nat} {v : Value} {st : List Wt} {und : Bool} (h : Rk W R v st und) : ∀ g o n c, v = .slice (some ⟨g, o, none⟩) n c → g < W.heap.size := by
  intro g o n c e
  rcases h.row.2 with ⟨e', _⟩ | ⟨g', cap, cur, e', _, a2, _⟩
  · rw [e'] at e; cases e
  · rw [e'] at e; cases e; exact (Array.getElem?_eq_some_iff.1 a2).1
set_option maxRecDepth 100000 in
set_option maxHeartbeats 4000000 in
theorem leave_any (R : Nat) (v : Value) (sg : List UInt8) (st : List Wt) (und : Bool) (w : World) (h : Rk w R v st und) :
    Calls Tryz.prog 26 #[.pointer (some ⟨R, 0, none⟩), .string ⟨sg.toArray⟩] w fun e w' => e = .returned (.tuple #[(leaveM sg st).1.v, .bool (leaveM sg st).2.1]) ∧ (∃ v', Rk w' R v' (leaveM sg st).2.2 und) ∧ Fk R w w' := by
  have hlR := h.lt
  have hb0 := below_new w (.cells #[.string ⟨#[]⟩, .int .i64 0, .int .u64 0, .bool false, .bool false, .bool false] 70)
  have hn0 := World.alloc_heap_new w (.cells #[.string ⟨#[]⟩, .int .i64 0, .int .u64 0, .bool false, .bool false, .bool false] 70)
  have hz0 : (w.alloc (.cells #[.string ⟨#[]⟩, .int .i64 0, .int .u64 0, .bool false, .bool false, .bool false] 70)).heap.size = w.heap.size + 1 := by simp
  have hk0 := h.next hb0
  obtain ⟨c0, _, _⟩ := hk0.three
  obtain ⟨p, cp, hvp⟩ := ownsRow_slice h.row
  have HK0 := hide hk0
  have HN0 := hide hn0
  have HB0 := hide hb0
  have HOL := hide h.olds
  subst hvp
  clear h hk0 hn0 hb0
  match st with
  | [] =>
    simp only [leaveM, zeroW, Wt.v, List.length_nil] at *
    go_enter Tryz.func26, Tryz.ntmps26
    go_wp2
    refine bodyPost_ret (res_wt (f := Tryz.f26) rfl rfl (unhide HN0) rfl) rfl ⟨rfl, ⟨_, unhide HK0⟩, Fk.of (unhide HB0) (by omega)⟩
  | x :: r =>
    have HL := hide (last_any R _ x r und _ (unhide HK0))
    have hll : (((x :: r).length : Nat) : Int) = (r.length : Int) + 1 := by simp
    have i1 : ((r.length : Int) + 1 == 0) = false := by rw [beq_eq_false_iff_ne]; omega
    have HLM : Hid (leaveM sg (x :: r) = if x.sign == sg then (x, true, r) else (zeroW, false, x :: r)) := rfl
    generalize leaveM sg (x :: r) = LM at *
    rw [List.length_cons] at c0
    generalize r.length = n at *
    cases hE : x.sign == sg
    · rw [hE] at HLM
      simp only [Bool.false_eq_true, if_false] at HLM
      obtain rfl := unhide HLM
      simp only [zeroW, Wt.v] at HL ⊢
      obtain ⟨s, lev, ⟨ab, au⟩, taken, skips⟩ := x
      simp only at HL hE
      have hE' : (s != sg) = true := by simp [bne, hE]
      go_enter Tryz.func26, Tryz.ntmps26
      go_wp2_with fail
      refine (unhide HL).mono ?_
      rintro e W1 ⟨rfl, hb1⟩
      have hn1 := (hb1.block w.heap.size (by omega)).trans (unhide HN0)
      obtain ⟨⟨r0, r1, r2, r3, r4, r5⟩, fr⟩ := sixes hn1
      have fr0 := fr 0
      have fr1 := fr 1
      have fr2 := fr 2
      have fr3 := fr 3
      have fr4 := fr 4
      have fr5 := fr 5
      have HN1 := hide hn1
      have HK1 := hide ((unhide HK0).next hb1)
      have HF1 := hide ((Fk.of (R := R) (unhide HB0) (by omega)).trans (Fk.of hb1 (by omega)))
      clear fr hn1 hb1 HL
      have hfl := fld96_0
      go_wp2
      refine bodyPost_ret (res_wt (f := Tryz.f26) rfl rfl (put6_block (unhide HN1) _ _ _ _ _ _) rfl) rfl ⟨rfl, ⟨_, put6_rk (unhide HK1) (by omega) (fun g o n c e => by have := unhide HOL g o n c e; omega) _ _ _ _ _ _⟩, put6_fk (unhide HF1) (by omega) (unhide HN1) _ _ _ _ _ _⟩
    · rw [hE] at HLM
      simp only [if_true] at HLM
      obtain rfl := unhide HLM
      have HP := hide (fun W v (hk : Rk W R v (x :: r) und) => pop_any R v x r und W hk)
      obtain ⟨s, lev, ⟨ab, au⟩, taken, skips⟩ := x
      simp only [Wt.v] at HL HP hE ⊢
      have hE' : (s != sg) = false := by simp [bne, hE]
      go_enter Tryz.func26, Tryz.ntmps26
      go_wp2_with fail
      refine (unhide HL).mono ?_
      rintro e W1 ⟨rfl, hb1⟩
      have HN1 := hide ((hb1.block w.heap.size (by omega)).trans (unhide HN0))
      have HP1 := hide (unhide HP W1 _ ((unhide HK0).next hb1))
      have HBX := hide ((unhide HK0).next hb1).box
      have HF1 := hide ((Fk.of (R := R) (unhide HB0) (by omega)).trans (Fk.of hb1 (by omega)))
      have hl1 : w.heap.size < W1.heap.size := by have := hb1.size; omega
      clear HL HP hb1
      have hfl := fld96_0
      go_wp2_with fail
      refine (unhide HP1).mono ?_
      rintro e W2 ⟨rfl, ⟨v', hk2, hsame⟩, hf2⟩
      have hn2 := (hf2.keep w.heap.size hl1 (by omega)).trans (unhide HN1)
      obtain ⟨⟨r0, r1, r2, r3, r4, r5⟩, fr⟩ := sixes hn2
      have fr0 := fr 0
      have fr1 := fr 1
      have fr2 := fr 2
      have fr3 := fr 3
      have fr4 := fr 4
      have fr5 := fr 5
      have HN2 := hide hn2
      have HK2 := hide hk2
      have HF2 := hide ((unhide HF1).trans (hf2.fk (unhide HBX)))
      have HNE : Hid (∀ g o n c, v' = .slice (some ⟨g, o, none⟩) n c → g ≠ w.heap.size) := fun g o n c e => by
        obtain ⟨n', c', e'⟩ := hsame g o n c e
        have := unhide HOL g o n' c' e'
        omega
      clear fr hn2 hk2 hf2 HP1
      go_wp2
      refine bodyPost_ret (res_wt (f := Tryz.f26) rfl rfl (put6_block (unhide HN2) _ _ _ _ _ _) rfl) rfl ⟨rfl, ⟨_, put6_rk (unhide HK2) (by omega) (unhide HNE) _ _ _ _ _ _⟩, put6_fk (unhide HF2) (by omega) (unhide HN2) _ _ _ _ _ _⟩
end Go.Proofs.YtfghfohlcofdpaaGreatDoor
namespace Go.Proofs.YtfghfohlcofdpaaGreatDoor
open Go Go.RowKit
set_option linter.unusedVariables false
set_option linter.unusedSimpArgs false

/-- A value's bits are 64. -/
def okV (v : Vl) : Prop := 0 ≤ v.b ∧ v.b < 18446744073709551616
/-- All that waits and binds at least as tightly is worked out. -/
def settleM (l : Int) : List Wt → Bool → Vl → List Wt × Bool × Vl
  | [], und, v => ([], und, v)
  | x :: st, und, v => if l ≤ x.lev then settleM l st (und || (!(ofM x v).2 && skN st == 0)) (ofM x v).1 else (x :: st, und, v)
theorem wrapU (n : Int) : 0 ≤ IntKind.u64.wrap n ∧ IntKind.u64.wrap n < 18446744073709551616 := by rw [IntKind.wrap_u64]; omega
theorem ok_truth (b : Bool) : okV (truthM b) := by cases b <;> exact ⟨by decide, by decide⟩
theorem ok_pref (s : List UInt8) {v : Vl} (h : okV v) : okV (prefM s v) := by
  unfold prefM
  split
  · exact ok_truth _
  · split
    · exact wrapU _
    · split
      · exact ⟨bits_lo_u64 .xor _ _, by have := bits_hi_u64 .xor IntKind.u64.max v.b; show bits .xor .u64 IntKind.u64.max v.b < _; omega⟩
      · exact h
theorem ok_join (s : List UInt8) (a b : Int) : 0 ≤ joinM s a b ∧ joinM s a b < 18446744073709551616 := by
  unfold joinM
  split
  · exact wrapU _
  · split
    · exact wrapU _
    · split
      · exact wrapU _
      · split
        · exact ⟨bits_lo_u64 .and _ _, by have := bits_hi_u64 .and a b; omega⟩
        · split
          · exact ⟨bits_lo_u64 .xor _ _, by have := bits_hi_u64 .xor a b; omega⟩
          · exact ⟨bits_lo_u64 .or _ _, by have := bits_hi_u64 .or a b; omega⟩
theorem ok_shift (s : List UInt8) {a : Vl} (h : okV a) (y : Int) : 0 ≤ (shiftM s a y).1 ∧ (shiftM s a y).1 < 18446744073709551616 := by
  unfold shiftM
  split
  · exact ⟨by decide, by decide⟩
  · split
    · exact wrapU _
    · split
      · have hp : (0 : Int) < 2 ^ y.toNat := Int.pow_pos (by decide)
        refine ⟨Int.ediv_nonneg h.1 (by omega), Int.lt_of_le_of_lt (Int.ediv_le_self _ h.1) h.2⟩
      · exact wrapU _
theorem ok_div (s : List UInt8) {a b : Int} (ha : 0 ≤ a ∧ a < 18446744073709551616) (hb : 0 ≤ b ∧ b < 18446744073709551616) (u : Bool) : 0 ≤ (divM s a b u).1 ∧ (divM s a b u).1 < 18446744073709551616 := by
  unfold divM
  split
  · exact ⟨by decide, by decide⟩
  · split
    · split
      · exact wrapU _
      · rw [Int.tmod_eq_emod_of_nonneg ha.1]
        refine ⟨Int.emod_nonneg _ (by assumption), ?_⟩
        have h0 : ¬ b = 0 := by assumption
        exact Int.lt_trans (Int.emod_lt_of_pos a (by omega)) hb.2
    · split
      · exact wrapU _
      · exact wrapU _
theorem ok_of {x : Wt} {v : Vl} (hx : okV x.a) (hv : okV v) : okV (ofM x v).1 := by
  unfold ofM
  simp only
  split
  · exact ok_pref _ hv
  · split
    · cases x.taken
      · exact hv
      · exact hx
    · split
      · exact ok_truth _
      · split
        · exact ok_truth _
        · split
          · exact ok_truth _
          · split
            · exact ok_truth _
            · split
              · exact ok_shift _ hx _
              · split
                · exact ok_div _ hx hv _
                · exact ok_join _ _ _
end Go.Proofs.YtfghfohlcofdpaaGreatDoor
