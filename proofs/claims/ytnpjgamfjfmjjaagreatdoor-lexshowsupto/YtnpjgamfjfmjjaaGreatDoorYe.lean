/-
  Words that are handed in, opened; their bulk.
-/
import Derived.Test.YtnpjgamfjfmjjaaGreatDoorS3
import Derived.Test.YtnpjgamfjfmjjaaGreatDoorXq
import Derived.Test.YtnpjgamfjfmjjaaGreatDoorYb
import Derived.Deep.Slices
import Derived.Deep.DeepHandedRow
namespace Go.Proofs.YtnpjgamfjfmjjaaGreatDoor
open Go.ChangeShapes Go.WideShapes Go.ChangeAt Go.RowKit
set_option linter.unusedVariables false

theorem laidOut : laidOutB Tryz.prog = true := by kernel_rfl
theorem cells3 : Tryz.prog.cellsOf 3 = 1 := by kernel_rfl
theorem cells2 : Tryz.prog.cellsOf 2 = 1 := by kernel_rfl
theorem cells4 : Tryz.prog.cellsOf 4 = 1 := by kernel_rfl
theorem cellsW : Tryz.prog.cellsOf 34 = 6 := by kernel_rfl
theorem add_plain (b o j : Nat) : (⟨b, o, none⟩ : Addr).add j = ⟨b, o + j, none⟩ := by unfold Addr.add; split <;> simp_all
theorem pick_fun {α β : Type} {r : α → β → Prop} (h : ∀ x, ∃ y, r x y) : ∃ f : α → β, ∀ x, r x (f x) := ⟨fun x => Classical.choose (h x), fun x => Classical.choose_spec (h x)⟩
theorem wf64 {n : Int} (h : (Lit.int .i64 n).wf = true) : okV64 n := by
  unfold okV64
  simp [Lit.wf] at h
  have e1 : IntKind.i64.min = -9223372036854775808 := by decide
  have e2 : IntKind.i64.max = 9223372036854775807 := by decide
  omega
set_option maxRecDepth 100000 in
/-- One word of the six cells. -/
theorem wd_open {H : Type} {enc : TypeId × Value → H} {W : World} {n : Nat} {cs : List Value} {y : DataW H × List MemPlace}
    (h : DataW.trod enc Tryz.prog W 0 (fun _ => true) true n 34 cs = some y) :
    ∃ x : Wd, cs = [.int .i64 x.kind, .string ⟨x.s.toArray⟩, .int .i64 x.v, .int .i64 x.t, .string ⟨x.f.toArray⟩, .int .i64 x.line] ∧ okV64 x.v ∧ x.s.length + 1 ≤ Rows.uptoBulk y.1 := by
  obtain ⟨xs, k, _, hxy, hl, hxl, hf⟩ := DataW.trod_struct Tryz.underlying34 h
  rw [cellsW] at hl
  match xs, hxl, cs, hl with
  | [y0, y1, y2, y3, y4, y5], _, [v0, v1, v2, v3, v4, v5], _ =>
    have g0 := hf 0 _ rfl
    have g1 := hf 1 _ rfl
    have g2 := hf 2 _ rfl
    have g3 := hf 3 _ rfl
    have g4 := hf 4 _ rfl
    have g5 := hf 5 _ rfl
    simp [cells3, cells9, cells2] at g0 g1 g2 g3 g4 g5
    obtain ⟨a, e0, _, _⟩ := DataW.trod_int Tryz.underlying3 g0
    obtain ⟨s, e1, d1, _⟩ := DataW.trod_string Tryz.underlying9 g1
    obtain ⟨v, e2, _, wv⟩ := DataW.trod_int Tryz.underlying2 g2
    obtain ⟨t, e3, _, _⟩ := DataW.trod_int Tryz.underlying3 g3
    obtain ⟨f, e4, _, _⟩ := DataW.trod_string Tryz.underlying9 g4
    obtain ⟨m, e5, _, _⟩ := DataW.trod_int Tryz.underlying3 g5
    simp only [List.cons.injEq, and_true] at e0 e1 e2 e3 e4 e5
    refine ⟨⟨a, s.data.toList, v, t, f.data.toList, m⟩, by rw [e0, e1, e2, e3, e4, e5], wf64 wv, ?_⟩
    have hd1 : y1.1 = .lit (.string s.data.toList) := by simpa using congrArg Prod.fst d1
    rw [hxy]
    simp only [List.map_cons, List.map_nil, Rows.uptoBulk, Rows.uptoBulkAll, hd1]
    omega
def wBulk : List Wd → Nat
  | [] => 0
  | x :: r => x.s.length + 1 + wBulk r
theorem wBulk_mem {l : List Wd} {x : Wd} (h : x ∈ l) : x.s.length ≤ wBulk l := by
  induction l with
  | nil => cases h
  | cons t r ih =>
    rcases List.mem_cons.1 h with rfl | h
    · simp only [wBulk]; omega
    · have := ih h; simp only [wBulk]; omega
theorem wBulk_take (l : List Wd) (n : Nat) : wBulk (l.take n) ≤ wBulk l := by
  induction l generalizing n with
  | nil => simp
  | cons t r ih =>
    cases n with
    | zero => simp [wBulk]
    | succ n => have := ih n; simp only [List.take_succ_cons, wBulk]; omega
theorem bulkAll_map {H : Type} (D : Nat → DataW H) (G : Nat → Wd) : ∀ (k : Nat), (∀ i, i < k → (G i).s.length + 1 ≤ Rows.uptoBulk (D i)) → ∀ (b : Nat), b = 0 → wBulk ((List.range k).map G) ≤ Rows.uptoBulkAll ((List.range k).map D)
  | 0, _, _, _ => by simp [wBulk]
  | k + 1, h, b, hb => by
    have ih := bulkAll_map D G k (fun i hi => h i (by omega)) b hb
    have w1 : ∀ l m : List Wd, wBulk (l ++ m) = wBulk l + wBulk m := by
      intro l m; induction l with
      | nil => simp [wBulk]
      | cons t r ih => simp only [List.cons_append, wBulk, ih]; omega
    have w2 : ∀ l m : List (DataW H), Rows.uptoBulkAll (l ++ m) = Rows.uptoBulkAll l + Rows.uptoBulkAll m := by
      intro l m; induction l with
      | nil => simp [Rows.uptoBulkAll]
      | cons t r ih => simp only [List.cons_append, Rows.uptoBulkAll, ih]; omega
    rw [List.range_succ, List.map_append, List.map_append, w1, w2]
    have := h k (by omega)
    simp only [List.map_cons, List.map_nil, wBulk, Rows.uptoBulkAll]
    omega
/-- The argument opened: words lie behind the address. -/
theorem open_words {H : Type} {enc : TypeId × Value → H} {W : World} {p : Option Addr} {len cap fuel : Nat} {x : DataW H × List MemPlace}
    (h : DataW.trod enc Tryz.prog W 0 (fun _ => true) true fuel 24 [.slice p len cap] = some x) :
    ∃ lf : List Wd, lf.length = len ∧ WdG W.heap.size W (.slice p lf.length cap) lf ∧ len ≤ cap ∧ cap ≤ maxLen ∧ (∀ y ∈ lf, okV64 y.v) ∧ wBulk lf ≤ Rows.uptoBulk x.1 := by
  rcases Go.Deep.open_slice Tryz.underlying24 h with ⟨hc, hx⟩ | ⟨a, len', cap', m, k, D, Pl, hc, _, hl, hm, hmm, hx, hall⟩
  · obtain ⟨rfl, rfl, rfl⟩ : p = none ∧ len = 0 ∧ cap = 0 := by simpa using hc
    exact ⟨[], rfl, ⟨none, 0, rfl, fun i hi => by simp at hi⟩, Nat.le_refl _, Nat.zero_le _, fun s hs => (by cases hs), Nat.zero_le _⟩
  · obtain ⟨rfl, rfl, rfl⟩ : p = some a ∧ len = len' ∧ cap = cap' := by simpa using hc
    simp only [if_true] at hmm
    subst hmm
    have key : ∀ i, ∃ t : Wd, i < m → (W.cell? (a.add (i * 6)) = some (.int .i64 t.kind) ∧ W.cell? (a.add (i * 6 + 1)) = some (.string ⟨t.s.toArray⟩) ∧ W.cell? (a.add (i * 6 + 2)) = some (.int .i64 t.v) ∧
        W.cell? (a.add (i * 6 + 3)) = some (.int .i64 t.t) ∧ W.cell? (a.add (i * 6 + 4)) = some (.string ⟨t.f.toArray⟩) ∧ W.cell? (a.add (i * 6 + 5)) = some (.int .i64 t.line)) ∧ okV64 t.v ∧ t.s.length + 1 ≤ Rows.uptoBulk (D i) := fun i => by
      by_cases hi : i < m
      · obtain ⟨cs', h1, h2⟩ := hall i hi
        rw [cellsW] at h1
        obtain ⟨_, hlen, hcell⟩ := World.cells?_some h1
        obtain ⟨t, rfl, hv, hb⟩ := wd_open h2
        refine ⟨t, fun _ => ⟨?_, hv, hb⟩⟩
        have c : ∀ j, j < 6 → W.cell? (a.add (i * 6 + j)) = [Value.int .i64 t.kind, .string ⟨t.s.toArray⟩, .int .i64 t.v, .int .i64 t.t, .string ⟨t.f.toArray⟩, .int .i64 t.line][j]? := fun j hj => by
          have := hcell j hj
          rw [Go.Deep.add_add] at this
          exact this
        exact ⟨c 0 (by decide), c 1 (by decide), c 2 (by decide), c 3 (by decide), c 4 (by decide), c 5 (by decide)⟩
      · exact ⟨⟨0, [], 0, 0, [], 0⟩, fun h => absurd h hi⟩
    obtain ⟨G, hG⟩ := pick_fun key
    refine ⟨(List.range len).map G, by simp, ⟨some a, m, by simp, fun i hi => ?_⟩, hl, hm, fun s hs => ?_, ?_⟩
    · have hi' : i < len := by simpa using hi
      obtain ⟨⟨c0, c1, c2, c3, c4, c5⟩, _⟩ := hG i (by omega)
      obtain ⟨b, off, spot⟩ := a
      have c00 := (hG 0 (by omega)).1.1
      have hspot : spot = none := by simpa [Addr.add] using World.cell?_spot c00
      subst hspot
      rw [add_plain] at c0 c1 c2 c3 c4 c5
      simp only [← Nat.add_assoc] at c1 c2 c3 c4 c5
      simp only [List.getElem_map, List.getElem_range]
      exact ⟨b, off, rfl, World.block_lt_of_cell? W _ c0, c0, c1, c2, c3, c4, c5⟩
    · obtain ⟨i, hi, rfl⟩ := List.mem_map.1 hs
      have hi' := List.mem_range.1 hi
      exact (hG i (by omega)).2.1
    · have hb := bulkAll_map D G len (fun i hi => (hG i (by omega)).2.2) 0 rfl
      rw [hx]
      simp only [Rows.uptoBulk]
      omega
theorem splM_len (x : Wd) (hx : x.kind ≠ 3 ∨ True) : (splM x).length ≤ 4 * x.s.length + 30 := by
  unfold splM
  split
  · unfold spiM
    split
    · simp [octE]
    · have h1 := dec_len (IntKind.u64.wrap x.v).toNat (by have := u64_wrap x.v; omega)
      have h2 := sufE_len x.t
      simp; omega
  · split
    · unfold quoM; simp [octs_len]
    · omega
theorem shP_bulk (l : List Wd) : ∀ (k : Nat), k ≤ l.length → (shP l k).length ≤ 4 * wBulk (l.take k) + 31 * k
  | 0, _ => by simp [shP]
  | k + 1, h => by
    have ih := shP_bulk l k (by omega)
    have hk : k < l.length := by omega
    rw [shP_succ hk, List.take_succ_eq_append_getElem hk]
    have w1 : ∀ l m : List Wd, wBulk (l ++ m) = wBulk l + wBulk m := by
      intro l m; induction l with
      | nil => simp [wBulk]
      | cons t r ih => simp only [List.cons_append, wBulk, ih]; omega
    rw [w1]
    have hs := splM_len l[k] (.inr trivial)
    have hsep : (if k = 0 then [] else [(32 : UInt8)]).length ≤ 1 := by split <;> simp
    simp only [List.length_append, wBulk]
    omega
end Go.Proofs.YtnpjgamfjfmjjaaGreatDoor
