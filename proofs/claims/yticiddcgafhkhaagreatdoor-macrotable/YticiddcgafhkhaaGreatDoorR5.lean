/-
  The document's own lexer: what it holds, what a line does to it, on lists.
-/
import Derived.Test.YticiddcgafhkhaaGreatDoorS1
namespace Go.Proofs.YticiddcgafhkhaaGreatDoor
open Go Go.RowKit
set_option linter.unusedVariables false
set_option linter.unusedSimpArgs false

/-- Events from a place on, within a comment or not. -/
def stt (op sp fi : Bool) (fr : Int) (l : List Tk.Ln) : List (Tk.T × Int) := if op then Tk.evO fr l fi else Tk.ev l sp fi
theorem stt_close {N : Int} {s : List UInt8} (sp fi : Bool) (fr : Int) (r : List Tk.Ln) (h : Tk.pre [42, 47] s = true) : stt true sp fi fr ((N, s) :: r) = stt false true fi fr ((N, s.drop 2) :: r) := Tk.evO_yes r fi h
theorem stt_go {N : Int} {c : UInt8} {s : List UInt8} (sp sp' fi : Bool) (fr : Int) (r : List Tk.Ln) (h : Tk.pre [42, 47] (c :: s) = false) : stt true sp fi fr ((N, c :: s) :: r) = stt true sp' fi fr ((N, s) :: r) := Tk.evO_no r fi h
theorem stt_blank {N : Int} {c : UInt8} {s : List UInt8} (sp fi : Bool) (fr : Int) (r : List Tk.Ln) (h : Tk.bl c = true) : stt false sp fi fr ((N, c :: s) :: r) = stt false true fi fr ((N, s) :: r) := Tk.ev_blank r sp fi h
theorem stt_open {N : Int} {s : List UInt8} (sp sp' fi : Bool) (fr : Int) (r : List Tk.Ln) (h : Tk.pre [47, 42] s = true) : stt false sp fi fr ((N, s) :: r) = stt true sp' fi N ((N, s.drop 2) :: r) := Tk.ev_open r sp fi h
theorem stt_end (N : Int) (op sp fi : Bool) (fr : Int) (r : List Tk.Ln) : stt op sp fi fr ((N, []) :: r) = if op then Tk.evO fr r fi else Tk.ev r false true := by
  cases op
  · exact Tk.ev_end N r sp fi
  · exact Tk.evO_end fr N r fi
theorem stt_line {N : Int} {s : List UInt8} (sp fi : Bool) (fr : Int) (r : List Tk.Ln) (h : Tk.pre [47, 47] s = true) : stt false sp fi fr ((N, s) :: r) = Tk.ev r false true := Tk.ev_line r sp fi h
theorem stt_quote {N : Int} {s : List UInt8} (sp fi : Bool) (fr : Int) (r : List Tk.Ln) (h : Tk.isT s = true) (h0 : (Tk.ms s).2 = 0) : stt false sp fi fr ((N, s) :: r) = [Tk.er 21 N] := Tk.ev_quote r sp fi h h0
theorem stt_tok {N : Int} {s : List UInt8} (sp fi : Bool) (fr : Int) (r : List Tk.Ln) (h : Tk.isT s = true) (h0 : (Tk.ms s).2 ≠ 0) :
    stt false sp fi fr ((N, s) :: r) = (⟨(Tk.ms s).1, s.take (Tk.ms s).2, N, sp, fi⟩, 0) :: stt false false false fr ((N, s.drop (Tk.ms s).2) :: r) := Tk.ev_tok r sp fi h h0
/-- What is told behind 'out' hangs together: from the line's first byte on, and from here on. -/
def LRel (F : List Tk.Ln → List Tk.T × Int × Int) (out : List Tk.T) (op sp fi : Bool) (fr N : Int) (s : List UInt8) : Prop := ∀ rest, F rest = Tk.col out (stt op sp fi fr ((N, s) :: rest))

/-- The lexer in block b. -/
def Lx (w : World) (b : Nat) (v : Value) (sp fi op : Bool) (fr : Int) : Prop := w.heap[b]? = some (.cells #[v, .bool sp, .bool fi, .bool op, .int .i64 fr] 142 (0, 0))
theorem Lx.cells {w : World} {b : Nat} {v : Value} {sp fi op : Bool} {fr : Int} (h : Lx w b v sp fi op fr) :
    w.cell? ⟨b, 0, none⟩ = some v ∧ w.cell? ⟨b, 1, none⟩ = some (.bool sp) ∧ w.cell? ⟨b, 2, none⟩ = some (.bool fi) ∧ w.cell? ⟨b, 3, none⟩ = some (.bool op) ∧ w.cell? ⟨b, 4, none⟩ = some (.int .i64 fr) := by
  refine ⟨?_, ?_, ?_, ?_, ?_⟩ <;> (rw [World.cell?, h]; rfl)
theorem Lx.frozen {w : World} {b : Nat} {v : Value} {sp fi op : Bool} {fr : Int} (h : Lx w b v sp fi op fr) (i : Nat) : w.frozen? ⟨b, i, none⟩ = false := by
  simp [World.frozen?, show w.heap[b]? = _ from h]
theorem Lx.lt {w : World} {b : Nat} {v : Value} {sp fi op : Bool} {fr : Int} (h : Lx w b v sp fi op fr) : b < w.heap.size := (Array.getElem?_eq_some_iff.1 h).1
/-- The lexer, the row of its tokens, and the line that it is at. -/
structure LxI (w : World) (b Bl : Nat) (N : Int) (S : ByteArray) (out : List Tk.T) (v : Value) (sp fi op : Bool) (fr : Int) : Prop where
  lx : Lx w b v sp fi op fr
  row : w.ownsRow (b + 1) 74 6 v out.length (tokCells out)
  box : w.heap[Bl]? = some (.cells #[.int .i64 N, .string S] 61 (0, 0))
  ne : Bl ≠ b
  few : out.length ≤ 20000
theorem LxI.own {w : World} {b Bl : Nat} {N : Int} {S : ByteArray} {out : List Tk.T} {v : Value} {sp fi op : Bool} {fr : Int} (h : LxI w b Bl N S out v sp fi op fr) : v.ownBlock ≠ some b ∧ v.ownBlock ≠ some Bl := by
  refine ⟨fun e => ?_, fun e => ?_⟩
  · have := (row_turn h.row b e).1; omega
  · obtain ⟨_, cur, hc⟩ := row_turn h.row Bl e
    rw [h.box] at hc; cases hc
theorem LxI.box0 {w : World} {b Bl : Nat} {N : Int} {S : ByteArray} {out : List Tk.T} {v : Value} {sp fi op : Bool} {fr : Int} (h : LxI w b Bl N S out v sp fi op fr) : w.cell? ⟨Bl, 0, none⟩ = some (.int .i64 N) := by
  rw [World.cell?, h.box]; rfl
theorem LxI.drewN {w : World} {b Bl : Nat} {N : Int} {S : ByteArray} {out : List Tk.T} {v : Value} {sp fi op : Bool} {fr : Int} (h : LxI w b Bl N S out v sp fi op fr) (n : Nat) : LxI (w.drewN n) b Bl N S out v sp fi op fr :=
  ⟨h.lx, h.row, h.box, h.ne, h.few⟩
theorem LxI.set {w : World} {b Bl : Nat} {N : Int} {S : ByteArray} {out : List Tk.T} {v : Value} {sp fi op : Bool} {fr : Int} (h : LxI w b Bl N S out v sp fi op fr) {i : Nat} {u : Value} {sp' fi' op' : Bool} {fr' : Int} (hl : Lx (w.setCell ⟨b, i, none⟩ u) b v sp' fi' op' fr') :
    LxI (w.setCell ⟨b, i, none⟩ u) b Bl N S out v sp' fi' op' fr' :=
  ⟨hl, ownsRow_setCell h.row (by omega) u, (Below.heap_setCell _ _ _ _ h.ne).trans h.box, h.ne, h.few⟩
theorem Lx.set1 {w : World} {b : Nat} {v : Value} {sp fi op : Bool} {fr : Int} (h : Lx w b v sp fi op fr) (k : Bool) : Lx (w.setCell ⟨b, 1, none⟩ (.bool k)) b v k fi op fr := by
  unfold Lx at *; simp [World.setCell, Array.getElem?_modify, h]
theorem Lx.set2 {w : World} {b : Nat} {v : Value} {sp fi op : Bool} {fr : Int} (h : Lx w b v sp fi op fr) (k : Bool) : Lx (w.setCell ⟨b, 2, none⟩ (.bool k)) b v sp k op fr := by
  unfold Lx at *; simp [World.setCell, Array.getElem?_modify, h]
theorem Lx.set3 {w : World} {b : Nat} {v : Value} {sp fi op : Bool} {fr : Int} (h : Lx w b v sp fi op fr) (k : Bool) : Lx (w.setCell ⟨b, 3, none⟩ (.bool k)) b v sp fi k fr := by
  unfold Lx at *; simp [World.setCell, Array.getElem?_modify, h]
theorem Lx.set4 {w : World} {b : Nat} {v : Value} {sp fi op : Bool} {fr : Int} (h : Lx w b v sp fi op fr) (k : Int) : Lx (w.setCell ⟨b, 4, none⟩ (.int .i64 k)) b v sp fi op k := by
  unfold Lx at *; simp [World.setCell, Array.getElem?_modify, h]
theorem Lx.set0 {w : World} {b : Nat} {v : Value} {sp fi op : Bool} {fr : Int} (h : Lx w b v sp fi op fr) (u : Value) : Lx (w.setCell ⟨b, 0, none⟩ u) b u sp fi op fr := by
  unfold Lx at *; simp [World.setCell, Array.getElem?_modify, h]
theorem LxI.push {w w1 w3 : World} {b Bl : Nat} {N : Int} {S : ByteArray} {out : List Tk.T} {v nv : Value} {sp fi op : Bool} {fr : Int} (h : LxI w b Bl N S out v sp fi op fr) (o : Obj) (h1 : w1.heap = (w.alloc o).heap) (t : Tk.T)
    (hg : w1.grownBy w3 v.ownBlock) (hown : w3.ownsRow (b + 1) 74 6 nv (out.length + 1) (tokCells out ++ tokC t)) (hf : out.length < 20000) : LxI (w3.setCell ⟨b, 0, none⟩ nv) b Bl N S (out ++ [t]) nv sp fi op fr := by
  obtain ⟨n1, n2⟩ := h.own
  have hbl : Bl < w.heap.size := (Array.getElem?_eq_some_iff.1 h.box).1
  have e1 : w3.heap[b]? = w.heap[b]? := (hg.block b (by rw [h1]; simp; have := h.lx.lt; omega) (Ne.symm n1)).trans (by rw [h1]; exact Below.heap_alloc _ _ _ h.lx.lt)
  have e2 : w3.heap[Bl]? = w.heap[Bl]? := (hg.block Bl (by rw [h1]; simp; omega) (Ne.symm n2)).trans (by rw [h1]; exact Below.heap_alloc _ _ _ hbl)
  refine ⟨Lx.set0 (e1.trans h.lx) nv, ?_, (Below.heap_setCell _ _ _ _ h.ne).trans (e2.trans h.box), h.ne, by simp; omega⟩
  have := ownsRow_setCell (b := b) (i := 0) hown (by omega) nv
  rw [← tokCells_snoc] at this
  simpa using this
/-- Two bytes at a place. -/
theorem pre_cases (S : ByteArray) (k : Nat) (a b : UInt8) (x y : Int) (hx : (a.toNat : Int) = x) (hy : (b.toNat : Int) = y) (h : k < S.size) :
    (Tk.pre [a, b] (S.data.toList.drop k) = false ∧ decide ((k : Int) + 1 < (S.size : Int)) = false) ∨
    (Tk.pre [a, b] (S.data.toList.drop k) = false ∧ (k : Int) + 1 < (S.size : Int) ∧ ((S[k].toNat : Int) == x) = false) ∨
    (Tk.pre [a, b] (S.data.toList.drop k) = false ∧ (k : Int) + 1 < (S.size : Int) ∧ ((S[k].toNat : Int) == x) = true ∧ ∃ h : k + 1 < S.size, ((S[k + 1].toNat : Int) == y) = false) ∨
    (Tk.pre [a, b] (S.data.toList.drop k) = true ∧ (k : Int) + 1 < (S.size : Int) ∧ ((S[k].toNat : Int) == x) = true ∧ ∃ h : k + 1 < S.size, ((S[k + 1].toNat : Int) == y) = true) := by
  subst hx; subst hy
  by_cases h1 : k + 1 < S.size
  · rw [drop_at S k h, drop_at S (k + 1) h1, Tk.pre_two, ← byte_eq]
    have e : (a == S[k]) = (S[k] == a) := Bool.beq_comm
    have e2 : (b == S[k + 1]) = (S[k + 1] == b) := Bool.beq_comm
    rw [e, e2]
    cases hA : (S[k] == a)
    · exact .inr (.inl ⟨rfl, by omega, rfl⟩)
    · cases hB : (S[k + 1] == b)
      · exact .inr (.inr (.inl ⟨rfl, by omega, rfl, h1, by rw [← byte_eq]; exact hB⟩))
      · exact .inr (.inr (.inr ⟨rfl, by omega, rfl, h1, by rw [← byte_eq]; exact hB⟩))
  · rw [drop_at S k h, drop_end S (k + 1) (by omega)]
    exact .inl ⟨by simp [Tk.pre, List.isPrefixOf], decide_eq_false (by omega)⟩
end Go.Proofs.YticiddcgafhkhaaGreatDoor
