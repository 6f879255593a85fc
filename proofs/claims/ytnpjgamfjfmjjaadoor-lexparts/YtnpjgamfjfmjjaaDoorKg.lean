/-
  Tokens that are handed in, opened; their bulk.
-/
import Derived.Test.YtnpjgamfjfmjjaaDoorS5
import Derived.Test.YtnpjgamfjfmjjaaDoorXk
import Derived.Deep.Slices
import Derived.Deep.DeepHandedRow
namespace Go.Proofs.YtnpjgamfjfmjjaaDoor
open Go.ChangeShapes Go.WideShapes Go.ChangeAt Go.RowKit
set_option linter.unusedVariables false

theorem laidOut : laidOutB Tryd.prog = true := by kernel_rfl
theorem cells3 : Tryd.prog.cellsOf 3 = 1 := by kernel_rfl
theorem cells2 : Tryd.prog.cellsOf 2 = 1 := by kernel_rfl
theorem cells4 : Tryd.prog.cellsOf 4 = 1 := by kernel_rfl
theorem cellsT : Tryd.prog.cellsOf 25 = 6 := by kernel_rfl
theorem add_plain (b o j : Nat) : (⟨b, o, none⟩ : Addr).add j = ⟨b, o + j, none⟩ := by unfold Addr.add; split <;> simp_all
theorem pick_fun {α β : Type} {r : α → β → Prop} (h : ∀ x, ∃ y, r x y) : ∃ f : α → β, ∀ x, r x (f x) := ⟨fun x => Classical.choose (h x), fun x => Classical.choose_spec (h x)⟩
set_option maxRecDepth 100000 in
/-- One word of the six cells. -/
theorem tok_openB {H : Type} {enc : TypeId × Value → H} {W : World} {n : Nat} {cs : List Value} {y : DataW H × List MemPlace}
    (h : DataW.trod enc Tryd.prog W 0 (fun _ => true) true n 25 cs = some y) :
    ∃ x : Gt, cs = [.int .i64 x.kind, .string ⟨x.s.toArray⟩, .string ⟨x.f.toArray⟩, .int .i64 x.line, .bool x.sp, .bool x.fi] ∧ x.s.length + 1 ≤ Rows.uptoBulk y.1 := by
  obtain ⟨xs, k, _, hxy, hl, hxl, hf⟩ := DataW.trod_struct Tryd.underlying25 h
  rw [cellsT] at hl
  match xs, hxl, cs, hl with
  | [y0, y1, y2, y3, y4, y5], _, [v0, v1, v2, v3, v4, v5], _ =>
    have g0 := hf 0 _ rfl
    have g1 := hf 1 _ rfl
    have g2 := hf 2 _ rfl
    have g3 := hf 3 _ rfl
    have g4 := hf 4 _ rfl
    have g5 := hf 5 _ rfl
    simp [cells3, cells9, cells4] at g0 g1 g2 g3 g4 g5
    obtain ⟨a, e0, _, _⟩ := DataW.trod_int Tryd.underlying3 g0
    obtain ⟨s, e1, d1, _⟩ := DataW.trod_string Tryd.underlying9 g1
    obtain ⟨f, e2, _, _⟩ := DataW.trod_string Tryd.underlying9 g2
    obtain ⟨m, e3, _, _⟩ := DataW.trod_int Tryd.underlying3 g3
    obtain ⟨b1, e4, _, _⟩ := DataW.trod_bool Tryd.underlying4 g4
    obtain ⟨b2, e5, _, _⟩ := DataW.trod_bool Tryd.underlying4 g5
    simp only [List.cons.injEq, and_true] at e0 e1 e2 e3 e4 e5
    refine ⟨⟨a, s.data.toList, f.data.toList, m, b1, b2⟩, by rw [e0, e1, e2, e3, e4, e5], ?_⟩
    have hd1 : y1.1 = .lit (.string s.data.toList) := by simpa using congrArg Prod.fst d1
    rw [hxy]
    simp only [List.map_cons, List.map_nil, Rows.uptoBulk, Rows.uptoBulkAll, hd1]
    omega
def tBulk : List Gt → Nat
  | [] => 0
  | x :: r => x.s.length + 1 + tBulk r
theorem tBulk_mem {l : List Gt} {x : Gt} (h : x ∈ l) : x.s.length ≤ tBulk l := by
  induction l with
  | nil => cases h
  | cons t r ih =>
    rcases List.mem_cons.1 h with rfl | h
    · simp only [tBulk]; omega
    · have := ih h; simp only [tBulk]; omega
theorem tBulk_take (l : List Gt) (n : Nat) : tBulk (l.take n) ≤ tBulk l := by
  induction l generalizing n with
  | nil => simp
  | cons t r ih =>
    cases n with
    | zero => simp [tBulk]
    | succ n => have := ih n; simp only [List.take_succ_cons, tBulk]; omega
theorem bulkAll_map {H : Type} (D : Nat → DataW H) (G : Nat → Gt) : ∀ (k : Nat), (∀ i, i < k → (G i).s.length + 1 ≤ Rows.uptoBulk (D i)) → ∀ (b : Nat), b = 0 → tBulk ((List.range k).map G) ≤ Rows.uptoBulkAll ((List.range k).map D)
  | 0, _, _, _ => by simp [tBulk]
  | k + 1, h, b, hb => by
    have ih := bulkAll_map D G k (fun i hi => h i (by omega)) b hb
    have w1 : ∀ l m : List Gt, tBulk (l ++ m) = tBulk l + tBulk m := by
      intro l m; induction l with
      | nil => simp [tBulk]
      | cons t r ih => simp only [List.cons_append, tBulk, ih]; omega
    have w2 : ∀ l m : List (DataW H), Rows.uptoBulkAll (l ++ m) = Rows.uptoBulkAll l + Rows.uptoBulkAll m := by
      intro l m; induction l with
      | nil => simp [Rows.uptoBulkAll]
      | cons t r ih => simp only [List.cons_append, Rows.uptoBulkAll, ih]; omega
    rw [List.range_succ, List.map_append, List.map_append, w1, w2]
    have := h k (by omega)
    simp only [List.map_cons, List.map_nil, tBulk, Rows.uptoBulkAll]
    omega
/-- The argument opened: words lie behind the address. -/
theorem open_toksB {H : Type} {enc : TypeId × Value → H} {W : World} {p : Option Addr} {len cap fuel : Nat} {x : DataW H × List MemPlace}
    (h : DataW.trod enc Tryd.prog W 0 (fun _ => true) true fuel 22 [.slice p len cap] = some x) :
    ∃ lf : List Gt, lf.length = len ∧ TkG W.heap.size W (.slice p lf.length cap) lf ∧ len ≤ cap ∧ cap ≤ maxLen ∧ (p = none → cap = 0) ∧ tBulk lf ≤ Rows.uptoBulk x.1 := by
  rcases Go.Deep.open_slice Tryd.underlying22 h with ⟨hc, hx⟩ | ⟨a, len', cap', m, k, D, Pl, hc, _, hl, hm, hmm, hx, hall⟩
  · obtain ⟨rfl, rfl, rfl⟩ : p = none ∧ len = 0 ∧ cap = 0 := by simpa using hc
    exact ⟨[], rfl, ⟨none, 0, rfl, fun i hi => by simp at hi⟩, Nat.le_refl _, Nat.zero_le _, fun _ => rfl, Nat.zero_le _⟩
  · obtain ⟨rfl, rfl, rfl⟩ : p = some a ∧ len = len' ∧ cap = cap' := by simpa using hc
    simp only [if_true] at hmm
    subst hmm
    have key : ∀ i, ∃ t : Gt, i < m → (W.cell? (a.add (i * 6)) = some (.int .i64 t.kind) ∧ W.cell? (a.add (i * 6 + 1)) = some (.string ⟨t.s.toArray⟩) ∧ W.cell? (a.add (i * 6 + 2)) = some (.string ⟨t.f.toArray⟩) ∧
        W.cell? (a.add (i * 6 + 3)) = some (.int .i64 t.line) ∧ W.cell? (a.add (i * 6 + 4)) = some (.bool t.sp) ∧ W.cell? (a.add (i * 6 + 5)) = some (.bool t.fi)) ∧ t.s.length + 1 ≤ Rows.uptoBulk (D i) := fun i => by
      by_cases hi : i < m
      · obtain ⟨cs', h1, h2⟩ := hall i hi
        rw [cellsT] at h1
        obtain ⟨_, hlen, hcell⟩ := World.cells?_some h1
        obtain ⟨t, rfl, hb⟩ := tok_openB h2
        refine ⟨t, fun _ => ⟨?_, hb⟩⟩
        have c : ∀ j, j < 6 → W.cell? (a.add (i * 6 + j)) = [Value.int .i64 t.kind, .string ⟨t.s.toArray⟩, .string ⟨t.f.toArray⟩, .int .i64 t.line, .bool t.sp, .bool t.fi][j]? := fun j hj => by
          have := hcell j hj
          rw [Go.Deep.add_add] at this
          exact this
        exact ⟨c 0 (by decide), c 1 (by decide), c 2 (by decide), c 3 (by decide), c 4 (by decide), c 5 (by decide)⟩
      · exact ⟨⟨0, [], [], 0, false, false⟩, fun h => absurd h hi⟩
    obtain ⟨G, hG⟩ := pick_fun key
    refine ⟨(List.range len).map G, by simp, ⟨some a, m, by simp, fun i hi => ?_⟩, hl, hm, fun h => (by cases h), ?_⟩
    · have hi' : i < len := by simpa using hi
      obtain ⟨⟨c0, c1, c2, c3, c4, c5⟩, _⟩ := hG i (by omega)
      obtain ⟨b, off, spot⟩ := a
      have c00 := (hG 0 (by omega)).1.1
      have hspot : spot = none := by simpa [Addr.add] using World.cell?_spot c00
      subst hspot
      rw [add_plain] at c0 c1 c2 c3 c4 c5
      simp only [← Nat.add_assoc] at c1 c2 c3 c4 c5
      simp only [List.getElem_map, List.getElem_range]
      exact ⟨b, off, rfl, World.block_lt_of_cell? W _ c0, c0, c1, c2, c3, c4, c5⟩
    · have hb := bulkAll_map D G len (fun i hi => (hG i (by omega)).2) 0 rfl
      rw [hx]
      simp only [Rows.uptoBulk]
      omega
end Go.Proofs.YtnpjgamfjfmjjaaDoor
