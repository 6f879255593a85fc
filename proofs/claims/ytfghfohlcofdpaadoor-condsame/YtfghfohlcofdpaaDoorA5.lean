/-
  Package cond: the list of what waits: last, push, pop.
-/
import Derived.Test.YtfghfohlcofdpaaDoorA4
import Derived.Laws.OwnMore
import Derived.Deep.AppendLies
namespace Go.Proofs.YtfghfohlcofdpaaDoor
open Go Go.RowKit
set_option linter.unusedVariables false
set_option linter.unusedSimpArgs false

def Wt.l (x : Wt) : List Value := [.string ⟨x.sign.toArray⟩, .int .i64 x.lev, .int .u64 x.a.b, .bool x.a.u, .bool x.taken, .bool x.skips]
/-- The cells of what waits, the first one first. -/
def wCells (l : List Wt) : List Value := l.flatMap Wt.l
theorem wCells_length (l : List Wt) : (wCells l).length = l.length * 6 := by
  induction l with
  | nil => rfl
  | cons x r ih => simp only [wCells, List.flatMap_cons, List.length_append, List.length_cons] at ih ⊢; rw [ih]; simp [Wt.l]; omega
theorem wCells_snoc (l : List Wt) (x : Wt) : wCells (l ++ [x]) = wCells l ++ x.l := by simp [wCells]
/-- How many of those that wait skip what comes. -/
def skN (st : List Wt) : Int := (st.countP (·.skips) : Nat)
/-- The reckoner in its box: those that wait, the last one first. -/
structure Rk (W : World) (R : Nat) (v : Value) (st : List Wt) (und : Bool) : Prop where
  box : W.heap[R]? = some (.cells #[v, .int .i64 (skN st), .bool und] 78 (0, 0))
  row : W.ownsRow (R + 1) 97 6 v st.length (wCells st.reverse)
theorem Rk.lt {W : World} {R : Nat} {v : Value} {st : List Wt} {und : Bool} (h : Rk W R v st und) : R < W.heap.size := (Array.getElem?_eq_some_iff.1 h.box).1
theorem Rk.three {W : World} {R : Nat} {v : Value} {st : List Wt} {und : Bool} (h : Rk W R v st und) : W.cell? ⟨R, 0, none⟩ = some v ∧ W.cell? ⟨R, 1, none⟩ = some (.int .i64 (skN st)) ∧ W.cell? ⟨R, 2, none⟩ = some (.bool und) := by
  refine ⟨?_, ?_, ?_⟩ <;> (rw [World.cell?, h.box]; rfl)
theorem Rk.frozen {W : World} {R : Nat} {v : Value} {st : List Wt} {und : Bool} (h : Rk W R v st und) (i : Nat) : W.frozen? ⟨R, i, none⟩ = false := by
  simp [World.frozen?, h.box]
theorem ownsRow_slice {W : World} {base n size : Nat} {e : TypeId} {v : Value} {xs : List Value} (h : W.ownsRow base e size v n xs) : ∃ p cap, v = .slice p n cap := by
  rcases h.2 with ⟨rfl, h0⟩ | ⟨g, cap, cur, rfl, _⟩
  · exact ⟨none, 0, by rw [h0]⟩
  · exact ⟨_, _, rfl⟩
theorem ownsRow_bel {w w' : World} {B : Nat} {e : TypeId} {k : Nat} {v : Value} {n : Nat} {xs : List Value} (h : w.ownsRow B e k v n xs) (hb : Below w.heap.size w w') : w'.ownsRow B e k v n xs := by
  refine ⟨h.1, ?_⟩
  rcases h.2 with h | ⟨g, cap, cur, e1, e2, e3, r⟩
  · exact .inl h
  · exact .inr ⟨g, cap, cur, e1, e2, (hb.block g (Array.getElem?_eq_some_iff.1 e3).1).trans e3, r⟩
theorem Rk.next {W W' : World} {R : Nat} {v : Value} {st : List Wt} {und : Bool} (h : Rk W R v st und) (hb : Below W.heap.size W W') : Rk W' R v st und :=
  ⟨(hb.block R h.lt).trans h.box, ownsRow_bel h.row hb⟩
/-- The last one's cells. -/
theorem Rk.top {W : World} {R : Nat} {v : Value} {x : Wt} {st : List Wt} {und : Bool} (h : Rk W R v (x :: st) und) : ∃ g cap, v = .slice (some ⟨g, 0, none⟩) (st.length + 1) cap ∧ R + 1 ≤ g ∧ st.length + 1 ≤ cap ∧ cap ≤ maxLen ∧
    W.cell? ⟨g, st.length * 6, none⟩ = some (.string ⟨x.sign.toArray⟩) ∧ W.cell? ⟨g, st.length * 6 + 1, none⟩ = some (.int .i64 x.lev) ∧ W.cell? ⟨g, st.length * 6 + 2, none⟩ = some (.int .u64 x.a.b) ∧
    W.cell? ⟨g, st.length * 6 + 3, none⟩ = some (.bool x.a.u) ∧ W.cell? ⟨g, st.length * 6 + 4, none⟩ = some (.bool x.taken) ∧ W.cell? ⟨g, st.length * 6 + 5, none⟩ = some (.bool x.skips) := by
  have hr := h.row
  rcases hr.2 with ⟨_, h0⟩ | ⟨g, cap, cur, rfl, h1, h2, h3, h4, h5, h6⟩
  · simp at h0
  · rw [List.length_cons] at h3 h6
    refine ⟨g, cap, rfl, h1, h3, h4, ?_⟩
    have key : ∀ j u, j < 6 → x.l[j]? = some u → W.cell? ⟨g, st.length * 6 + j, none⟩ = some u := fun j u hj hu => by
      have e : (cur.toList.take ((st.length + 1) * 6))[st.length * 6 + j]? = (wCells (x :: st).reverse)[st.length * 6 + j]? := by rw [h6]
      rw [List.getElem?_take_of_lt (by omega), List.reverse_cons, wCells_snoc, List.getElem?_append_right (by rw [wCells_length, List.length_reverse]; omega), wCells_length, List.length_reverse, Nat.add_sub_cancel_left, hu] at e
      rw [World.cell?, h2]
      simpa using e
    exact ⟨key 0 _ (by decide) rfl, key 1 _ (by decide) rfl, key 2 _ (by decide) rfl, key 3 _ (by decide) rfl, key 4 _ (by decide) rfl, key 5 _ (by decide) rfl⟩
theorem res_w {f : Func} {k : Nat} {tmps : Array Value} {w : World} {R : Nat} {cs : Array Value} (hr : f.results = #[.cell k 97]) (hp : tmps.getD k undef = .pointer (some ⟨R, 0, none⟩)) (hg : w.heap[R]? = some (.cells cs 97 (0, 0))) (hz : cs.size = 6) :
    (results f tmps).run Tryd.prog w = .ok (.agg cs) w := by
  have hi : (Tryd.prog.info? 97).map (·.size) = some cs.size := by rw [hz]; kernel_rfl
  have hp' : tmps[k]?.getD undef = .pointer (some ⟨R, 0, none⟩) := by simpa using hp
  simp [results, hr, hp', asAddr, run_loadVar_row w R 97 97 cs (0, 0) _ hg Tryd.underlying97 rfl hi]
set_option maxRecDepth 100000 in
set_option maxHeartbeats 4000000 in
theorem last_any (R : Nat) (v : Value) (x : Wt) (st : List Wt) (und : Bool) (w : World) (h : Rk w R v (x :: st) und) :
    Calls Tryd.prog 51 #[.pointer (some ⟨R, 0, none⟩)] w fun e w' => e = .returned x.v ∧ Below w.heap.size w w' := by
  obtain ⟨g, cap, rfl, hg, hc, hm, t0, t1, t2, t3, t4, t5⟩ := h.top
  obtain ⟨c0, _, _⟩ := h.three
  have hb := below_new w (.cells #[.string ⟨#[]⟩, .int .i64 0, .int .u64 0, .bool false, .bool false, .bool false] 97)
  have hn := World.alloc_heap_new w (.cells #[.string ⟨#[]⟩, .int .i64 0, .int .u64 0, .bool false, .bool false, .bool false] 97)
  have hlR := h.lt
  have hlg := World.block_lt_of_cell? _ _ t0
  obtain ⟨s, lev, ⟨ab, au⟩, taken, skips⟩ := x
  simp only [Wt.v] at *
  have hi : ((st.length + 1 : Nat) : Int) - 1 = (st.length : Int) := by omega
  clear h
  generalize st.length = n at *
  have hm' : cap ≤ 9223372036854775807 := hm
  have hw : wrap64 (n : Int) = n := by unfold wrap64; omega
  have hw' : IntKind.i64.wrap (n : Int) = n := by rw [IntKind.wrap_i64]; omega
  go_enter Tryd.func51, Tryd.ntmps51
  go_upto_region 1 with fail
  go_region
  all_goals (
    go_wp2
    refine bodyPost_ret (res_w (f := Tryd.f51) rfl rfl (World.alloc_heap_new w _) rfl) rfl ⟨rfl, ?_⟩
    have b := below_new w (.cells #[.string ⟨s.toArray⟩, .int .i64 lev, .int .u64 ab, .bool au, .bool taken, .bool skips] 97)
    exact ⟨b.os, b.tape, b.output, b.size, b.block⟩)
end Go.Proofs.YtfghfohlcofdpaaDoor
