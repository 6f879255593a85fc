/-
  Worlds that differ in new blocks and in one old block alone.
-/
import Derived.Test.YticiddcgafhkhaaDoorTz
import Derived.Test.YticiddcgafhkhaaDoorX2
namespace Go.Proofs.YticiddcgafhkhaaDoor
open Go Go.RowKit
set_option linter.unusedVariables false
set_option linter.unusedSimpArgs false

/-- Of what was there all blocks but g are as they were. -/
def Fr (W W' : World) (g : Nat) : Prop := W.heap.size ≤ W'.heap.size ∧ ∀ b, b < W.heap.size → b ≠ g → W'.heap[b]? = W.heap[b]?
theorem Fr.refl (W : World) (g : Nat) : Fr W W g := ⟨Nat.le_refl _, fun _ _ _ => rfl⟩
theorem Fr.trans {W W' W'' : World} {g : Nat} (h : Fr W W' g) (h' : Fr W' W'' g) : Fr W W'' g :=
  ⟨Nat.le_trans h.1 h'.1, fun b hb hne => (h'.2 b (Nat.lt_of_lt_of_le hb h.1) hne).trans (h.2 b hb hne)⟩
theorem Fr.of {W W' : World} (g : Nat) (hb : Below W.heap.size W W') : Fr W W' g := ⟨hb.size, fun b h _ => hb.block b h⟩
theorem Fr.setCell {W W' : World} {g : Nat} (h : Fr W W' g) (i : Nat) (v : Value) : Fr W (W'.setCell ⟨g, i, none⟩ v) g :=
  ⟨by simpa using h.1, fun b hb hne => (Below.heap_setCell W' ⟨g, i, none⟩ v b hne).trans (h.2 b hb hne)⟩
theorem Fr.cell {W W' : World} {g b i : Nat} (h : Fr W W' g) (hb : b < W.heap.size) (hne : b ≠ g) : W'.cell? ⟨b, i, none⟩ = W.cell? ⟨b, i, none⟩ := World.cell?_of_block (h.2 b hb hne)
theorem StG.fr {W W' : World} {g n c : Nat} {p : Option Addr} {l : List (List UInt8)} (h : StG W.heap.size W (.slice p n c) l) (hf : Fr W W' g) (hne : ∀ b o, p = some ⟨b, o, none⟩ → b ≠ g) : StG W'.heap.size W' (.slice p n c) l := by
  obtain ⟨p', cap, hv, hc⟩ := h
  obtain ⟨rfl, rfl, rfl⟩ : p = p' ∧ n = l.length ∧ c = cap := by simpa using hv
  refine ⟨p, c, rfl, fun i hi => ?_⟩
  obtain ⟨b, o, rfl, h1, c0⟩ := hc i hi
  exact ⟨b, o, rfl, Nat.lt_of_lt_of_le h1 hf.1, (hf.cell h1 (hne b o rfl)).trans c0⟩
theorem TkG.fr {W W' : World} {g n c : Nat} {p : Option Addr} {l : List Gt} (h : TkG W.heap.size W (.slice p n c) l) (hf : Fr W W' g) (hne : ∀ b o, p = some ⟨b, o, none⟩ → b ≠ g) : TkG W'.heap.size W' (.slice p n c) l := by
  obtain ⟨p', cap, hv, hc⟩ := h
  obtain ⟨rfl, rfl, rfl⟩ : p = p' ∧ n = l.length ∧ c = cap := by simpa using hv
  refine ⟨p, c, rfl, fun i hi => ?_⟩
  obtain ⟨b, o, rfl, h1, c0, c1, c2, c3, c4, c5⟩ := hc i hi
  have key : ∀ j u, W.cell? ⟨b, j, none⟩ = some u → W'.cell? ⟨b, j, none⟩ = some u := fun j u hu => (hf.cell h1 (hne b o rfl)).trans hu
  exact ⟨b, o, rfl, Nat.lt_of_lt_of_le h1 hf.1, key _ _ c0, key _ _ c1, key _ _ c2, key _ _ c3, key _ _ c4, key _ _ c5⟩
theorem MBox.fr {W W' : World} {g M : Nat} {nm pv bv : Value} {fn more : Bool} (h : MBox W M nm fn pv more bv) (hf : Fr W W' g) (hne : M ≠ g) : MBox W' M nm fn pv more bv := (hf.2 M h.lt hne).trans h
theorem Tbl.fr {W W' : World} {g t mb n : Nat} {D : DataW Value} (h : Tbl W t mb n D) (hf : Fr W W' g) (h1 : t ≠ g) (h2 : mb ≠ g) : Tbl W' t mb n D := by
  refine ⟨(hf.2 t h.lt h1).trans h.1, ?_, h.2.2⟩
  obtain ⟨es, clock, e1, e2⟩ := h.2.1
  exact ⟨es, clock, (hf.2 mb (Nat.lt_trans h.2.2 h.lt) h2).trans e1, e2⟩
/-- A row whose cells may be written over: n cells of block g. -/
structure Wr (W0 w wr : World) (g n : Nat) : Prop where
  below : Below W0.heap.size W0 wr
  new : W0.heap.size ≤ g
  fr : Fr w wr g
  free : ∀ j, j < n → wr.frozen? ⟨g, j, none⟩ = false
  at_ : ∀ j, j < n → ∃ u, wr.cell? ⟨g, j, none⟩ = some u
theorem Wr.lt {W0 w wr : World} {g n j : Nat} (h : Wr W0 w wr g n) (hj : j < n) : g < wr.heap.size := by
  obtain ⟨u, hu⟩ := h.at_ j hj
  exact World.block_lt_of_cell? _ _ hu
theorem Wr.alloc {W0 w wr : World} {g n : Nat} (h : Wr W0 w wr g n) (o : Obj) : Wr W0 w (wr.alloc o) g n := by
  have hb : Below wr.heap.size wr (wr.alloc o) := (Below.refl _ wr).alloc (Nat.le_refl _) o
  refine ⟨h.below.alloc h.below.size o, h.new, h.fr.trans (Fr.of g hb), fun j hj => ?_, fun j hj => ?_⟩
  · have := hb.block g (h.lt hj)
    have h2 := h.free j hj
    simp only [World.frozen?, this] at h2 ⊢
    exact h2
  · obtain ⟨u, hu⟩ := h.at_ j hj
    exact ⟨u, (World.cell?_of_block (hb.block g (h.lt hj))).trans hu⟩
theorem Wr.set {W0 w wr : World} {g n j : Nat} (h : Wr W0 w wr g n) (hj : j < n) (v : Value) : Wr W0 w (wr.setCell ⟨g, j, none⟩ v) g n := by
  refine ⟨h.below.setCell (p := ⟨g, j, none⟩) h.new v, h.new, h.fr.setCell j v, fun i hi => by simp [h.free i hi], fun i hi => ?_⟩
  by_cases hij : i = j
  · subst hij
    obtain ⟨u, hu⟩ := h.at_ i hi
    exact ⟨v, World.cell?_setCell_same _ _ _ hu⟩
  · obtain ⟨u, hu⟩ := h.at_ i hi
    exact ⟨u, (World.cell?_setCell_other _ _ _ _ (fun h => by injection h; omega)).trans hu⟩
theorem Wr.of {W0 w : World} {base k n S : Nat} {e : TypeId} {v : Value} {xs : List Value} (h : w.ownsRow base e k v n xs) (hb : Below W0.heap.size W0 w) (hB : W0.heap.size ≤ base) (hS : ∀ g o n c, v = .slice (some ⟨g, o, none⟩) n c → g < S) :
    ∃ g q c, v = .slice q n c ∧ (0 < n → q = some ⟨g, 0, none⟩) ∧ (∀ b, S ≤ b → b < w.heap.size → b ≠ g) ∧ (∀ b cur e', w.heap[b]? = some (.cells cur e' (0, 0)) → e' ≠ e → b ≠ g) ∧ Wr W0 w w g (n * k) := by
  rcases h.2 with ⟨rfl, rfl⟩ | ⟨g, cap, cur, rfl, h1, h2, h3, h4, h5, h6⟩
  · refine ⟨base + w.heap.size, none, 0, rfl, fun h => absurd h (Nat.lt_irrefl _), fun b _ h e => by omega, fun b cur e' h _ e => ?_, hb, by omega, Fr.refl _ _, fun j hj => by omega, fun j hj => by omega⟩
    have := (Array.getElem?_eq_some_iff.1 h).1
    omega
  · refine ⟨g, some ⟨g, 0, none⟩, cap, rfl, fun _ => rfl, fun b hb' _ e => ?_, fun b cur' e' hh hne e => ?_, hb, by omega, Fr.refl _ _, fun j hj => by simp [World.frozen?, h2], fun j hj => ?_⟩
    · have := hS g 0 _ _ rfl
      omega
    · subst e
      rw [h2] at hh
      simp at hh
      exact hne hh.2.symm
    · have hj' : j < cur.size := by
        have : n * k ≤ cap * k := Nat.mul_le_mul_right k h3
        omega
      exact ⟨cur[j], by simp [World.cell?, h2, Array.getElem?_eq_getElem hj']⟩
theorem ownsRow_fr {W W' : World} {base k n g : Nat} {e : TypeId} {v : Value} {xs : List Value} (h : W.ownsRow base e k v n xs) (hf : Fr W W' g) (hne : ∀ b cur, W.heap[b]? = some (.cells cur e (0, 0)) → b ≠ g) : W'.ownsRow base e k v n xs := by
  refine ⟨h.1, ?_⟩
  rcases h.2 with h | ⟨b, cap, cur, h0, h1, h2, h3⟩
  · exact .inl h
  · exact .inr ⟨b, cap, cur, h0, h1, (hf.2 b (Array.getElem?_eq_some_iff.1 h2).1 (hne b cur h2)).trans h2, h3⟩
theorem row_lt {W : World} {base k n : Nat} {e : TypeId} {v : Value} {xs : List Value} (h : W.ownsRow base e k v n xs) : ∀ g o n c, v = .slice (some ⟨g, o, none⟩) n c → g < W.heap.size := by
  intro g o n' c hv
  rcases h.2 with ⟨rfl, _⟩ | ⟨b, cap, cur, rfl, _, h2, _⟩
  · cases hv
  · cases hv; exact (Array.getElem?_eq_some_iff.1 h2).1
/-- A macro's value whose rows lie in new memory. -/
theorem McV.ofRows {W : World} {base base' : Nat} {m : Mc} {pv bv : Value} (h1 : W.ownsRow base 9 1 pv m.ps.length (sCells m.ps)) (h2 : W.ownsRow base' 49 6 bv m.body.length (gCells m.body)) :
    McV W.heap.size W (.agg #[.string ⟨m.name.toArray⟩, .bool m.fn, pv, .bool m.more, bv]) m := ⟨pv, bv, rfl, StG.of h1 rfl, TkG.of h2 rfl, ownsRow_room h1⟩

theorem Get_ent (t mb n : Nat) (D : DataW Value) (m : Mc) (v : Value) (w : World) (hf : m.name.length ≤ 140737488355328) (h1 : m.ps.length * 16 ≤ 140737488355328) (h2 : m.body.length * 56 ≤ 140737488355328)
    (hT : Tbl w t mb n D) (hat : D.atKey (.string m.name) (.held (.agg zeroM)) = .held v) (hhas : Maps.has D (.string m.name) = true) (hv : McV w.heap.size w v m) :
    Calls Tryd.prog 24 #[.pointer (some ⟨t, 0, none⟩), .string ⟨m.name.toArray⟩] w fun e w' => ∃ q c r k, e = .returned (.tuple #[.agg #[.string ⟨m.name.toArray⟩, .bool m.fn, .slice q m.ps.length c, .bool m.more, .slice r m.body.length k], .bool true]) ∧
      w'.ownsRow w.heap.size 9 1 (.slice q m.ps.length c) m.ps.length (sCells m.ps) ∧ w'.ownsRow w.heap.size 49 6 (.slice r m.body.length k) m.body.length (gCells m.body) ∧ Below w.heap.size w w' := by
  obtain ⟨pv, bv, rfl, s1, s2, _⟩ := hv
  obtain ⟨q, c, rfl, s1'⟩ := id s1
  obtain ⟨r, k, rfl, s2'⟩ := id s2
  have := Get_any t mb n D ⟨m.name.toArray⟩ ⟨m.name.toArray⟩ q r c k m.fn m.more m.ps m.body w (by unfold maxLen; show m.name.toArray.size ≤ _; simp; omega) h1 h2 hT (by simpa using hat) s1 s2
  refine this.mono ?_
  rintro e w' ⟨pv', bv', rfl, o1, o2, hb⟩
  obtain ⟨q', c', rfl⟩ := row_slice o1
  obtain ⟨r', k', rfl⟩ := row_slice o2
  exact ⟨q', c', r', k', by simp [hhas], o1, o2, hb⟩
end Go.Proofs.YticiddcgafhkhaaDoor
