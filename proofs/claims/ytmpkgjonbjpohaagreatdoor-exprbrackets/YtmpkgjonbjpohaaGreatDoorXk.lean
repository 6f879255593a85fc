/-
  The statements' own lexed and shown of layer 7; words in memory.
-/
import Derived.Test.YtmpkgjonbjpohaaGreatDoorXj
namespace Go.Proofs.YtmpkgjonbjpohaaGreatDoor
open Go Go.RowKit
set_option linter.unusedVariables false
set_option linter.unusedSimpArgs false

/-- A slice value that reads as these words, in a block below B. -/
def WdG (B : Nat) (W : World) (v : Value) (l : List Wd) : Prop :=
  ∃ p cap, v = .slice p l.length cap ∧ ∀ (i : Nat) (h : i < l.length), ∃ g o, p = some ⟨g, o, none⟩ ∧ g < B ∧
    W.cell? ⟨g, o + i * 6, none⟩ = some (.int .i64 l[i].kind) ∧ W.cell? ⟨g, o + i * 6 + 1, none⟩ = some (.string ⟨l[i].s.toArray⟩) ∧ W.cell? ⟨g, o + i * 6 + 2, none⟩ = some (.int .i64 l[i].v) ∧
    W.cell? ⟨g, o + i * 6 + 3, none⟩ = some (.int .i64 l[i].t) ∧ W.cell? ⟨g, o + i * 6 + 4, none⟩ = some (.string ⟨l[i].f.toArray⟩) ∧ W.cell? ⟨g, o + i * 6 + 5, none⟩ = some (.int .i64 l[i].line)
theorem WdG.below {B : Nat} {W W' : World} {v : Value} {l : List Wd} (h : WdG B W v l) (hb : Below B W W') : WdG B W' v l := by
  obtain ⟨p, cap, rfl, hc⟩ := h
  refine ⟨p, cap, rfl, fun i hi => ?_⟩
  obtain ⟨g, o, rfl, h1, c0, c1, c2, c3, c4, c5⟩ := hc i hi
  have key : ∀ j u, W.cell? ⟨g, j, none⟩ = some u → W'.cell? ⟨g, j, none⟩ = some u := fun j u hu => (hb.cell (p := ⟨g, j, none⟩) h1).trans hu
  exact ⟨g, o, rfl, h1, key _ _ c0, key _ _ c1, key _ _ c2, key _ _ c3, key _ _ c4, key _ _ c5⟩
theorem WdG.mono {B B' : Nat} {W : World} {v : Value} {l : List Wd} (h : WdG B W v l) (hb : B ≤ B') : WdG B' W v l := by
  obtain ⟨p, cap, rfl, hc⟩ := h
  refine ⟨p, cap, rfl, fun i hi => ?_⟩
  obtain ⟨g, o, rfl, h1, hr⟩ := hc i hi
  exact ⟨g, o, rfl, by omega, hr⟩
theorem wdCells_at : ∀ (l : List Wd) (i : Nat) (h : i < l.length) (j : Nat), j < 6 → (wdCells l)[i * 6 + j]? = (wdC l[i])[j]?
  | [], i, h, _, _ => by simp at h
  | x :: r, 0, h, j, hj => by
    show (wdC x ++ wdCells r)[0 * 6 + j]? = (wdC x)[j]?
    rw [Nat.zero_mul, Nat.zero_add]
    exact List.getElem?_append_left hj
  | x :: r, i + 1, h, j, hj => by
    have hi : i < r.length := by simpa using h
    have := wdCells_at r i hi j hj
    show (wdC x ++ wdCells r)[(i + 1) * 6 + j]? = (wdC r[i])[j]?
    rw [← this, show (i + 1) * 6 + j = (wdC x).length + (i * 6 + j) by simp [wdC]; omega, List.getElem?_append_right (by omega)]
    congr 1
    omega
theorem WdG.of {W : World} {base n : Nat} {v : Value} {L : List Wd} (h : W.ownsRow base 42 6 v n (wdCells L)) (hn : n = L.length) : WdG W.heap.size W v L := by
  subst hn
  have hc : ∀ {g : Nat}, v.ownBlock = some g → ∀ j u, (wdCells L)[j]? = some u → W.cell? ((⟨g, 0, none⟩ : Addr).add j) = some u := fun hg => h.cells hg
  have hlt := h.lt
  rcases h.2 with ⟨rfl, h0⟩ | ⟨g, cap, cur, rfl, hbg, _⟩
  · exact ⟨none, 0, by rw [h0], fun i hi => by omega⟩
  · refine ⟨some ⟨g, 0, none⟩, cap, rfl, fun i hi => ⟨g, 0, rfl, (hlt g rfl).2, ?_⟩⟩
    have key : ∀ j u, j < 6 → (wdC L[i])[j]? = some u → W.cell? ⟨g, 0 + i * 6 + j, none⟩ = some u := fun j u hj hu => by
      have := hc (g := g) rfl (i * 6 + j) u (by rw [wdCells_at L i hi j hj]; exact hu)
      rw [add_row'] at this; rw [Nat.zero_add]; exact this
    exact ⟨key 0 _ (by decide) rfl, key 1 _ (by decide) rfl, key 2 _ (by decide) rfl, key 3 _ (by decide) rfl, key 4 _ (by decide) rfl, key 5 _ (by decide) rfl⟩
/-- A line's tokens. -/
def lx (s : List UInt8) : List Gt := (Tk.lex [(1, s)]).1.map Tk.T.g
theorem lx_len (s : List UInt8) : (lx s).length ≤ 1000000 := by
  have := Tk.lex_len [(1, s)]
  unfold lx; simp; omega
theorem lx_bytes (s : List UInt8) : ∀ t ∈ lx s, t.s.length ≤ s.length ∧ ∀ c ∈ t.s, c ∈ s := by
  intro t ht
  obtain ⟨x, hx, rfl⟩ := List.mem_map.1 ht
  have := Tk.lex_infix hx
  exact ⟨this.length_le, fun c hc => this.subset hc⟩
theorem numM_ne {s : List UInt8} (h : (numM s).2 = true) : s ≠ [] := by
  rintro rfl
  exact absurd h (by decide)
theorem tokOK_ascii (t : Gt) (hl : t.s.length < 4294967281) (h : ∀ c ∈ t.s, c.toNat < 128) : TokOK t :=
  ⟨by omega, fun _ _ => caOK_ascii _ _ _ hl h (by decide) (by decide), fun _ hn => ⟨numM_ne hn, caOK_ascii _ _ _ hl h (by decide) (by decide), caOK_ascii _ _ _ hl h (by decide) (by decide)⟩⟩
end Go.Proofs.YtmpkgjonbjpohaaGreatDoor
