/-
  Tokens that were made, read again; token.Lex of one line; token.One; burinlaw02.shown.
-/
import Derived.Test.YtmpkgjonbjpohaaGreatDoorQ6
namespace Go.Proofs.YtmpkgjonbjpohaaGreatDoor
open Go Go.RowKit
set_option linter.unusedVariables false
set_option linter.unusedSimpArgs false

/-- A slice value that reads as these tokens, in a block from 'base' on. -/
def TkS (base : Nat) (W : World) (v : Value) (l : List Tk.T) : Prop :=
  ∃ p cap, v = .slice p l.length cap ∧ ∀ (i : Nat) (h : i < l.length), ∃ g, p = some ⟨g, 0, none⟩ ∧ base ≤ g ∧ g < W.heap.size ∧
    W.cell? ⟨g, i * 6, none⟩ = some (.int .i64 (l[i].kind : Nat)) ∧ W.cell? ⟨g, i * 6 + 1, none⟩ = some (.string ⟨l[i].s.toArray⟩) ∧ W.cell? ⟨g, i * 6 + 2, none⟩ = some (.string ⟨#[]⟩) ∧
    W.cell? ⟨g, i * 6 + 3, none⟩ = some (.int .i64 l[i].line) ∧ W.cell? ⟨g, i * 6 + 4, none⟩ = some (.bool l[i].sp) ∧ W.cell? ⟨g, i * 6 + 5, none⟩ = some (.bool l[i].fi)
theorem tokCells_at : ∀ (l : List Tk.T) (i : Nat) (h : i < l.length) (j : Nat), j < 6 → (tokCells l)[i * 6 + j]? = (tokC l[i])[j]?
  | [], i, h, _, _ => by simp at h
  | x :: r, 0, h, j, hj => by
    show (tokC x ++ tokCells r)[0 * 6 + j]? = (tokC x)[j]?
    rw [Nat.zero_mul, Nat.zero_add]
    exact List.getElem?_append_left hj
  | x :: r, i + 1, h, j, hj => by
    have hi : i < r.length := by simpa using h
    have := tokCells_at r i hi j hj
    show (tokC x ++ tokCells r)[(i + 1) * 6 + j]? = (tokC r[i])[j]?
    rw [← this, show (i + 1) * 6 + j = (tokC x).length + (i * 6 + j) by simp [tokC]; omega, List.getElem?_append_right (by omega)]
    congr 1
    omega
theorem add_row' (g j : Nat) : (⟨g, 0, none⟩ : Addr).add j = ⟨g, j, none⟩ := by unfold Addr.add; split <;> simp_all
theorem TkS.of {W : World} {base n : Nat} {v : Value} {L : List Tk.T} (h : W.ownsRow base 115 6 v n (tokCells L)) (hn : n = L.length) : TkS base W v L := by
  subst hn
  have hc : ∀ {g : Nat}, v.ownBlock = some g → ∀ j u, (tokCells L)[j]? = some u → W.cell? ((⟨g, 0, none⟩ : Addr).add j) = some u := fun hg => h.cells hg
  have hlt := h.lt
  rcases h.2 with ⟨rfl, h0⟩ | ⟨g, cap, cur, rfl, hbg, _⟩
  · exact ⟨none, 0, by rw [h0], fun i hi => by omega⟩
  · refine ⟨some ⟨g, 0, none⟩, cap, rfl, fun i hi => ⟨g, rfl, hbg, (hlt g rfl).2, ?_⟩⟩
    have key : ∀ j u, j < 6 → (tokC L[i])[j]? = some u → W.cell? ⟨g, i * 6 + j, none⟩ = some u := fun j u hj hu => by
      have := hc (g := g) rfl (i * 6 + j) u (by rw [tokCells_at L i hi j hj]; exact hu)
      rw [add_row'] at this; exact this
    exact ⟨key 0 _ (by decide) rfl, key 1 _ (by decide) rfl, key 2 _ (by decide) rfl, key 3 _ (by decide) rfl, key 4 _ (by decide) rfl, key 5 _ (by decide) rfl⟩
theorem TkS.below {W W' : World} {B base : Nat} {v : Value} {L : List Tk.T} (h : TkS base W v L) (hb : Below B W W') (hB : W.heap.size ≤ B) : TkS base W' v L := by
  obtain ⟨p, cap, rfl, hc⟩ := h
  refine ⟨p, cap, rfl, fun i hi => ?_⟩
  obtain ⟨g, rfl, h1, h2, c0, c1, c2, c3, c4, c5⟩ := hc i hi
  have key : ∀ j u, W.cell? ⟨g, j, none⟩ = some u → W'.cell? ⟨g, j, none⟩ = some u := fun j u hu => (hb.cell (p := ⟨g, j, none⟩) (by show g < B; omega)).trans hu
  exact ⟨g, rfl, h1, Nat.lt_of_lt_of_le h2 hb.size, key _ _ c0, key _ _ c1, key _ _ c2, key _ _ c3, key _ _ c4, key _ _ c5⟩

def lex1 (s : ByteArray) : List Tk.T × Int × Int := Tk.lex [(1, s.data.toList)]
theorem Lex_one (s : ByteArray) (w : World) (hs : s.size ≤ 140737488355328) (hw0 : 10 < w.heap.size) (hsg : Sg w) :
    Calls Tryz.prog 36 #[.slice (some ⟨w.heap.size, 0, none⟩) 1 1] (w.alloc (.cells #[.int .i64 1, .string s] 78)) fun e w' => ∃ v', e = .returned (.tuple #[v', .int .i64 (lex1 s).2.1, .int .i64 (lex1 s).2.2]) ∧
      TkS (w.heap.size + 1) w' v' (lex1 s).1 ∧ Below (w.heap.size + 1) (w.alloc (.cells #[.int .i64 1, .string s] 78)) w' := by
  have hz : (w.alloc (.cells #[.int .i64 1, .string s] 78)).heap.size = w.heap.size + 1 := by simp
  have hnew : (w.alloc (.cells #[.int .i64 1, .string s] 78)).heap[w.heap.size]? = some (.cells #[.int .i64 1, .string s] 78 (0, 0)) := World.alloc_heap_new w _
  have hl : LnB (w.alloc (.cells #[.int .i64 1, .string s] 78)).heap.size (w.alloc (.cells #[.int .i64 1, .string s] 78)) (.slice (some ⟨w.heap.size, 0, none⟩) 1 1) [(1, s)] := by
    refine ⟨some ⟨w.heap.size, 0, none⟩, 1, rfl, fun i hi => ⟨w.heap.size, 0, rfl, by omega, ?_, ?_⟩⟩
    · obtain rfl : i = 0 := by simpa using hi
      rw [World.cell?, hnew]; rfl
    · obtain rfl : i = 0 := by simpa using hi
      rw [World.cell?, hnew]; rfl
  have hsg' : Sg (w.alloc (.cells #[.int .i64 1, .string s] 78)) := Sg.below hsg ((Below.refl _ w).alloc (Nat.le_refl _) _) hw0
  have hf : Fits [(1, s)] := ⟨by simp, fun x hx => by simp at hx; subst hx; exact hs⟩
  refine (Lex_any _ _ _ hf (by omega) hl hsg').mono ?_
  rintro e w' ⟨v', rfl, hrow, hb⟩
  rw [hz] at hrow hb
  exact ⟨v', rfl, TkS.of hrow rfl, hb⟩

end Go.Proofs.YtmpkgjonbjpohaaGreatDoor
