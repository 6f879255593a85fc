/-
  Arguments opened: a list of tokens that is handed in.
-/
import Derived.Test.YticiddcgafhkhaaDoorC0
import Derived.Test.YticiddcgafhkhaaDoorK1
import Derived.Deep.Slices
namespace Go.Proofs.YticiddcgafhkhaaDoor
open Go.ChangeShapes Go.WideShapes Go.ChangeAt Go.RowKit
set_option linter.unusedVariables false

theorem cells34 : Tryd.prog.cellsOf 49 = 6 := by kernel_rfl
theorem cells4 : Tryd.prog.cellsOf 4 = 1 := by kernel_rfl
/-- A text's letters and one more, of each token. -/
def gBulk : List Gt → Nat
  | [] => 0
  | t :: r => t.s.length + 1 + gBulk r
theorem gBulk_take (l : List Gt) : ∀ k, gBulk (l.take k) ≤ gBulk l := by
  induction l with
  | nil => intro k; simp [gBulk]
  | cons t r ih =>
    intro k
    cases k with
    | zero => simp [gBulk]
    | succ k => have := ih k; simp only [List.take_succ_cons, gBulk]; omega
theorem gBulk_app (l m : List Gt) : gBulk (l ++ m) = gBulk l + gBulk m := by
  induction l with
  | nil => simp [gBulk]
  | cons t r ih => simp only [List.cons_append, gBulk, ih]; omega
theorem gBulk_len (l : List Gt) : l.length ≤ gBulk l := by
  induction l with
  | nil => simp [gBulk]
  | cons t r ih => simp only [List.length_cons, gBulk]; omega
theorem sep_len (k : Nat) (t : Gt) : (sepG k t).length ≤ 1 := by
  unfold sepG
  split
  · simp
  · split
    · simp
    · split <;> simp
theorem spP_bulk (l : List Gt) : ∀ k, k ≤ l.length → (spP l k).length ≤ gBulk (l.take k) := by
  intro k
  induction k with
  | zero => intro _; simp [spP_zero]
  | succ k ih =>
    intro hk
    have := ih (by omega)
    have h1 := sep_len k l[k]
    rw [spP_succ (by omega), List.take_succ_eq_append_getElem (by omega), gBulk_app, List.length_append, List.length_append]
    simp only [gBulk]
    omega
theorem spG_bulk (l : List Gt) : (spG l).length ≤ gBulk l := by
  have := spP_bulk l l.length (Nat.le_refl _)
  rw [List.take_length] at this
  exact this

set_option maxRecDepth 100000 in
/-- One token of the six cells. -/
theorem tok_open {H : Type} {enc : TypeId × Value → H} {W : World} {n : Nat} {cs : List Value} {y : DataW H × List MemPlace}
    (h : DataW.trod enc Tryd.prog W 0 (fun _ => true) true n 49 cs = some y) :
    ∃ t : Gt, cs = [.int .i64 t.kind, .string ⟨t.s.toArray⟩, .string ⟨t.f.toArray⟩, .int .i64 t.line, .bool t.sp, .bool t.fi] ∧ t.s.length + 1 ≤ Rows.uptoBulk y.1 := by
  obtain ⟨xs, k, _, hxy, hl, hxl, hf⟩ := DataW.trod_struct Tryd.underlying49 h
  rw [cells34] at hl
  match xs, hxl, cs, hl with
  | [y0, y1, y2, y3, y4, y5], _, [v0, v1, v2, v3, v4, v5], _ =>
    have g0 := hf 0 _ rfl
    have g1 := hf 1 _ rfl
    have g2 := hf 2 _ rfl
    have g3 := hf 3 _ rfl
    have g4 := hf 4 _ rfl
    have g5 := hf 5 _ rfl
    simp [cells3, cells9, cells4] at g0 g1 g2 g3 g4 g5
    obtain ⟨a, e0, _, _⟩ := DataW.trod_int Tryd.underlying3 g0
    obtain ⟨s, e1, d1, _⟩ := DataW.trod_string Tryd.underlying9 g1
    obtain ⟨f, e2, _, _⟩ := DataW.trod_string Tryd.underlying9 g2
    obtain ⟨m, e3, _, _⟩ := DataW.trod_int Tryd.underlying3 g3
    obtain ⟨b, e4, _⟩ := DataW.trod_bool Tryd.underlying4 g4
    obtain ⟨c, e5, _⟩ := DataW.trod_bool Tryd.underlying4 g5
    simp only [List.cons.injEq, and_true] at e0 e1 e2 e3 e4 e5
    refine ⟨⟨a, s.data.toList, f.data.toList, m, b, c⟩, by rw [e0, e1, e2, e3, e4, e5], ?_⟩
    have hd1 : y1.1 = .lit (.string s.data.toList) := by simpa using congrArg Prod.fst d1
    rw [hxy]
    simp only [List.map_cons, List.map_nil, Rows.uptoBulk, Rows.uptoBulkAll, hd1]
    omega

theorem pick_fun {α β : Type} {r : α → β → Prop} (h : ∀ x, ∃ y, r x y) : ∃ f : α → β, ∀ x, r x (f x) := ⟨fun x => Classical.choose (h x), fun x => Classical.choose_spec (h x)⟩
/-- The argument opened: tokens lie behind the address. -/
theorem open_toks {H : Type} {enc : TypeId × Value → H} {W : World} {p : Option Addr} {len cap fuel : Nat} {x : DataW H × List MemPlace}
    (h : DataW.trod enc Tryd.prog W 0 (fun _ => true) true fuel 23 [.slice p len cap] = some x) :
    ∃ lf : List Gt, lf.length = len ∧ TkG W.heap.size W (.slice p lf.length cap) lf ∧ len ≤ cap ∧ cap ≤ maxLen ∧ gBulk lf ≤ Rows.uptoBulk x.1 := by
  rcases Go.Deep.open_slice Tryd.underlying23 h with ⟨hc, hx⟩ | ⟨a, len', cap', m, k, D, Pl, hc, _, hl, hm, hmm, hx, hall⟩
  · obtain ⟨rfl, rfl, rfl⟩ : p = none ∧ len = 0 ∧ cap = 0 := by simpa using hc
    exact ⟨[], rfl, ⟨none, 0, rfl, fun i hi => by simp at hi⟩, Nat.le_refl _, Nat.zero_le _, by simp [gBulk]⟩
  · obtain ⟨rfl, rfl, rfl⟩ : p = some a ∧ len = len' ∧ cap = cap' := by simpa using hc
    simp only [if_true] at hmm
    subst hmm
    have key : ∀ i, ∃ t : Gt, i < m → (W.cell? (a.add (i * 6)) = some (.int .i64 t.kind) ∧ W.cell? (a.add (i * 6 + 1)) = some (.string ⟨t.s.toArray⟩) ∧ W.cell? (a.add (i * 6 + 2)) = some (.string ⟨t.f.toArray⟩) ∧
        W.cell? (a.add (i * 6 + 3)) = some (.int .i64 t.line) ∧ W.cell? (a.add (i * 6 + 4)) = some (.bool t.sp) ∧ W.cell? (a.add (i * 6 + 5)) = some (.bool t.fi)) ∧ t.s.length + 1 ≤ Rows.uptoBulk (D i) := fun i => by
      by_cases hi : i < m
      · obtain ⟨cs', h1, h2⟩ := hall i hi
        rw [cells34] at h1
        obtain ⟨_, hlen, hcell⟩ := World.cells?_some h1
        obtain ⟨t, rfl, hb⟩ := tok_open h2
        refine ⟨t, fun _ => ⟨?_, hb⟩⟩
        have c : ∀ j, j < 6 → W.cell? (a.add (i * 6 + j)) = [Value.int .i64 t.kind, .string ⟨t.s.toArray⟩, .string ⟨t.f.toArray⟩, .int .i64 t.line, .bool t.sp, .bool t.fi][j]? := fun j hj => by
          have := hcell j hj
          rw [Go.Deep.add_add] at this
          exact this
        exact ⟨c 0 (by decide), c 1 (by decide), c 2 (by decide), c 3 (by decide), c 4 (by decide), c 5 (by decide)⟩
      · exact ⟨⟨0, [], [], 0, false, false⟩, fun h => absurd h hi⟩
    obtain ⟨G, hG⟩ := pick_fun key
    refine ⟨(List.range len).map G, by simp, ⟨some a, m, by simp, fun i hi => ?_⟩, hl, hm, ?_⟩
    · have hi' : i < len := by simpa using hi
      obtain ⟨⟨c0, c1, c2, c3, c4, c5⟩, _⟩ := hG i (by omega)
      obtain ⟨b, off, spot⟩ := a
      have c00 := (hG 0 (by omega)).1.1
      have hspot : spot = none := by simpa [Addr.add] using World.cell?_spot c00
      subst hspot
      rw [add_plain] at c0 c1 c2 c3 c4 c5
      simp only [← Nat.add_assoc] at c1 c2 c3 c4 c5
      simp only [List.getElem_map, List.getElem_range]
      exact ⟨b, off, rfl, World.block_lt_of_cell? W _ c0, c0, c1, c2, c3, c4, c5⟩
    · rw [hx]
      simp only [Rows.uptoBulk]
      have hs : ∀ n, n ≤ m → gBulk ((List.range n).map G) ≤ Rows.uptoBulkAll ((List.range n).map D) := by
        intro n
        induction n with
        | zero => intro _; simp [gBulk]
        | succ n ih =>
          intro hn
          have := ih (by omega)
          have h2 := (hG n (by omega)).2
          rw [List.range_succ, List.map_append, List.map_append, gBulk_app]
          have happ : ∀ (l r : List (DataW H)), Rows.uptoBulkAll (l ++ r) = Rows.uptoBulkAll l + Rows.uptoBulkAll r := by
            intro l r
            induction l with
            | nil => simp [Rows.uptoBulkAll]
            | cons x l ih => simp only [List.cons_append, Rows.uptoBulkAll, ih]; omega
          rw [happ]
          simp only [List.map_cons, List.map_nil, gBulk, Rows.uptoBulkAll]
          omega
      have := hs len hl
      omega
end Go.Proofs.YticiddcgafhkhaaDoor
