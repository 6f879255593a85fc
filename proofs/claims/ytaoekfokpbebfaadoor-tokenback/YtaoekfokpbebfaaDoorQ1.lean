/-
  The reader of lines: where it stands, what its methods may do to the world, and token's skipComment.
-/
import Derived.Test.YtaoekfokpbebfaaDoorPz
import Derived.Test.YtaoekfokpbebfaaDoorSeq
import Derived.Deep.LoopGhost
namespace Go.Proofs.YtaoekfokpbebfaaDoor
open Go Go.RowKit
set_option linter.unusedVariables false
set_option linter.unusedSimpArgs false

/-- What is got to by turns of block b, new blocks and draws. -/
def Reach (b : Nat) (w w' : World) : Prop := ∀ J : World → Prop, (∀ A B, J A → A.grownBy B (some b) → J B) → (∀ A, J A → J A.drew) → J w → J w'
theorem Reach.refl (b : Nat) (w : World) : Reach b w w := fun _ _ _ h => h
theorem Reach.trans {b : Nat} {x y z : World} (h : Reach b x y) (g : Reach b y z) : Reach b x z := fun J h1 h2 h3 => g J h1 h2 (h J h1 h2 h3)
theorem Reach.grown {b : Nat} {w w' : World} (h : w.grownBy w' (some b)) : Reach b w w' := fun J h1 _ h3 => h1 _ _ h3 h
theorem Reach.alloc {b : Nat} (w : World) (o : Obj) : Reach b w (w.alloc o) := .grown (World.grownBy_alloc w o (some b))
theorem Reach.drew {b : Nat} (w : World) : Reach b w w.drew := fun J _ h2 h3 => h2 _ h3
theorem Reach.drewN {b : Nat} (w : World) : ∀ n, Reach b w (w.drewN n)
  | 0 => Reach.refl b w
  | n + 1 => (Reach.drewN w n).trans (Reach.drew (w.drewN n))
theorem grown_set (w : World) (b i : Nat) (v : Value) : w.grownBy (w.setCell ⟨b, i, none⟩ v) (some b) :=
  ⟨rfl, rfl, rfl, (KeepsWalks.setCell w _ v).size, fun k _ hk => Below.heap_setCell _ _ _ k (fun e => hk (by simp at e; rw [e]))⟩
theorem Reach.set {b i : Nat} (w : World) (v : Value) : Reach b w (w.setCell ⟨b, i, none⟩ v) := .grown (grown_set w b i v)
theorem Reach.size {b : Nat} {w w' : World} (h : Reach b w w') : w.heap.size ≤ w'.heap.size :=
  h (fun X => w.heap.size ≤ X.heap.size) (fun _ _ hA hg => Nat.le_trans hA hg.size) (fun _ h => h) (Nat.le_refl _)
theorem Reach.block {b j : Nat} {w w' : World} (h : Reach b w w') (hj : j ≠ b) (hlt : j < w.heap.size) : w'.heap[j]? = w.heap[j]? :=
  (h (fun X => w.heap.size ≤ X.heap.size ∧ X.heap[j]? = w.heap[j]?) (fun _ _ hA hg => ⟨Nat.le_trans hA.1 hg.size, (hg.block j (by omega) (fun e => hj (Option.some.inj e))).trans hA.2⟩) (fun _ h => h) ⟨Nat.le_refl _, rfl⟩).2
theorem Reach.cell {b : Nat} {w w' : World} (h : Reach b w w') {p : Addr} {v : Value} (hp : w.cell? p = some v) (hb : p.block ≠ b) (hlt : p.block < w.heap.size) : w'.cell? p = some v := by
  have := h.block hb hlt
  rw [World.cell?] at hp ⊢
  rw [this]; exact hp
/-- A reader in block b: its lines, its row, its place there, what has come since the last token. -/
def Rd (w : World) (b : Nat) (v : Value) (row at_ : Nat) (sp fi : Bool) : Prop := w.heap[b]? = some (.cells #[v, .int .i64 row, .int .i64 at_, .bool sp, .bool fi] 69 (0, 0))
/-- A slice value that reads as these lines, in a block that is not b. -/
def LnA (b : Nat) (w : World) (v : Value) (l : List (Int × ByteArray)) : Prop :=
  ∃ p cap, v = .slice p l.length cap ∧ ∀ (i : Nat) (h : i < l.length), ∃ g o, p = some ⟨g, o, none⟩ ∧ g ≠ b ∧ g < w.heap.size ∧ w.cell? ⟨g, o + i * 2, none⟩ = some (.int .i64 l[i].1) ∧ w.cell? ⟨g, o + i * 2 + 1, none⟩ = some (.string l[i].2)
theorem LnA.reach {b : Nat} {w w' : World} {v : Value} {l : List (Int × ByteArray)} (h : LnA b w v l) (hr : Reach b w w') : LnA b w' v l := by
  obtain ⟨p, cap, rfl, hc⟩ := h
  refine ⟨p, cap, rfl, fun i hi => ?_⟩
  obtain ⟨g, o, rfl, hg, hlt, c0, c1⟩ := hc i hi
  exact ⟨g, o, rfl, hg, Nat.lt_of_lt_of_le hlt hr.size, hr.cell c0 hg hlt, hr.cell c1 hg hlt⟩
/-- The lines from where the reader stands on. -/
def asL (l : List (Int × ByteArray)) : List Tk.Ln := l.map fun x => (x.1, x.2.data.toList)
def st (l : List (Int × ByteArray)) (row at_ : Nat) : List Tk.Ln := match l.drop row with
  | [] => []
  | x :: r => (x.1, x.2.data.toList.drop at_) :: asL r
theorem st_zero (l : List (Int × ByteArray)) (row : Nat) : st l row 0 = asL (l.drop row) := by
  unfold st
  split
  · rename_i h; rw [h]; rfl
  · rename_i h; rw [h]; rfl
theorem st_at {l : List (Int × ByteArray)} {row : Nat} (h : row < l.length) (at_ : Nat) : st l row at_ = (l[row].1, l[row].2.data.toList.drop at_) :: st l (row + 1) 0 := by
  rw [st_zero]
  unfold st
  rw [List.drop_eq_getElem_cons h]
theorem st_end {l : List (Int × ByteArray)} {row : Nat} (h : l.length ≤ row) (at_ : Nat) : st l row at_ = [] := by
  unfold st
  rw [List.drop_eq_nil_of_le h]
theorem Rd.cells {w : World} {b : Nat} {v : Value} {row at_ : Nat} {sp fi : Bool} (h : Rd w b v row at_ sp fi) :
    w.cell? ⟨b, 0, none⟩ = some v ∧ w.cell? ⟨b, 1, none⟩ = some (.int .i64 row) ∧ w.cell? ⟨b, 2, none⟩ = some (.int .i64 at_) ∧ w.cell? ⟨b, 3, none⟩ = some (.bool sp) ∧ w.cell? ⟨b, 4, none⟩ = some (.bool fi) := by
  refine ⟨?_, ?_, ?_, ?_, ?_⟩ <;> (rw [World.cell?, h]; rfl)
theorem Rd.frozen {w : World} {b : Nat} {v : Value} {row at_ : Nat} {sp fi : Bool} (h : Rd w b v row at_ sp fi) (i : Nat) : w.frozen? ⟨b, i, none⟩ = false := by
  simp [World.frozen?, show w.heap[b]? = _ from h]
theorem Rd.set1 {w : World} {b : Nat} {v : Value} {row at_ : Nat} {sp fi : Bool} (h : Rd w b v row at_ sp fi) (k : Nat) : Rd (w.setCell ⟨b, 1, none⟩ (.int .i64 k)) b v k at_ sp fi := by
  unfold Rd at *; simp [World.setCell, Array.getElem?_modify, h]
theorem Rd.set2 {w : World} {b : Nat} {v : Value} {row at_ : Nat} {sp fi : Bool} (h : Rd w b v row at_ sp fi) (k : Nat) : Rd (w.setCell ⟨b, 2, none⟩ (.int .i64 k)) b v row k sp fi := by
  unfold Rd at *; simp [World.setCell, Array.getElem?_modify, h]
theorem Rd.set3 {w : World} {b : Nat} {v : Value} {row at_ : Nat} {sp fi : Bool} (h : Rd w b v row at_ sp fi) (k : Bool) : Rd (w.setCell ⟨b, 3, none⟩ (.bool k)) b v row at_ k fi := by
  unfold Rd at *; simp [World.setCell, Array.getElem?_modify, h]
theorem Rd.set4 {w : World} {b : Nat} {v : Value} {row at_ : Nat} {sp fi : Bool} (h : Rd w b v row at_ sp fi) (k : Bool) : Rd (w.setCell ⟨b, 4, none⟩ (.bool k)) b v row at_ sp k := by
  unfold Rd at *; simp [World.setCell, Array.getElem?_modify, h]
theorem Rd.drewN {w : World} {b : Nat} {v : Value} {row at_ : Nat} {sp fi : Bool} (h : Rd w b v row at_ sp fi) (n : Nat) : Rd (w.drewN n) b v row at_ sp fi := h
theorem Rd.alloc {w : World} {b : Nat} {v : Value} {row at_ : Nat} {sp fi : Bool} (h : Rd w b v row at_ sp fi) (o : Obj) : Rd (w.alloc o) b v row at_ sp fi :=
  (Below.heap_alloc w o b (Array.getElem?_eq_some_iff.1 h).1).trans h
end Go.Proofs.YtaoekfokpbebfaaDoor
