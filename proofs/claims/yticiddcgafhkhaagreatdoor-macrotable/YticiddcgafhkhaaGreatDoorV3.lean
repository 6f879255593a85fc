/-
  Package macro: parseParams.
-/
import Derived.Test.YticiddcgafhkhaaGreatDoorV2
import Derived.Test.YticiddcgafhkhaaGreatDoorUc
import Derived.Test.YticiddcgafhkhaaGreatDoorRw
namespace Go.Proofs.YticiddcgafhkhaaGreatDoor
open Go Go.RowKit Go.Shelf
attribute [local go_sem] Oper.semAt_some
set_option linter.unusedVariables false
set_option linter.unusedSimpArgs false

def sg (t : Gt) (s : List UInt8) : Bool := decide (t.kind = 5) && decide (t.s = s)
/-- The parameters, whether there are more, and how many tokens they are. -/
def goP (ps : List (List UInt8)) (k : Nat) : List (Gt × Gt) → Option (List (List UInt8) × Bool × Nat)
  | [] => none
  | (a, b) :: r =>
    if a.kind = 1 then (if sg b [41] then some (ps ++ [a.s], false, k + 2) else if sg b [44] then goP (ps ++ [a.s]) (k + 2) r else none)
    else if sg a [46, 46, 46] then (if sg b [41] then some (ps, true, k + 2) else none) else none
def parP (l : List Gt) : Option (List (List UInt8) × Bool × Nat) :=
  match l with
  | [] => none
  | t :: r => if sg t [41] then some ([], false, 1) else goP [] 0 (prs (t :: r))
theorem parP_pos (l : List Gt) (h : 0 < l.length) : parP l = if sg l[0] [41] then some ([], false, 1) else goP [] 0 (prs l) := by
  match l, h with
  | t :: r, _ => rfl
/-- A macro in its box. -/
def MBox (W : World) (M : Nat) (nm : Value) (fn : Bool) (pv : Value) (more : Bool) (bv : Value) : Prop := W.heap[M]? = some (.cells #[nm, .bool fn, pv, .bool more, bv] 33 (0, 0))
def ParP (w : World) (M : Nat) (nm : Value) (fn : Bool) (bv : Value) (R : Option (List (List UInt8) × Bool × Nat)) (e : Ending) (w' : World) : Prop :=
  Below M w w' ∧ ((R = none ∧ e = .returned (.tuple #[.int .i64 0, .bool false]) ∧ ∃ q n c more, MBox w' M nm fn (.slice q n c) more bv) ∨
    (∃ ps more k pv, R = some (ps, more, k) ∧ e = .returned (.tuple #[.int .i64 (k : Nat), .bool true]) ∧ MBox w' M nm fn pv more bv ∧ w'.ownsRow w.heap.size 9 1 pv ps.length (sCells ps)))

theorem MBox.lt {W : World} {M : Nat} {nm pv bv : Value} {fn more : Bool} (h : MBox W M nm fn pv more bv) : M < W.heap.size := (Array.getElem?_eq_some_iff.1 h).1
theorem MBox.turn {W W' : World} {row : Option Nat} {M : Nat} {nm pv bv : Value} {fn more : Bool} (h : MBox W M nm fn pv more bv) (hg : W.grownBy W' row) (hr : ∀ r, row = some r → M ≠ r) : MBox W' M nm fn pv more bv :=
  (hg.block M h.lt (fun e => hr M e.symm rfl)).trans h
theorem MBox.below {W W' : World} {n M : Nat} {nm pv bv : Value} {fn more : Bool} (h : MBox W M nm fn pv more bv) (hb : Below n W W') (hn : M < n) : MBox W' M nm fn pv more bv := (hb.block M hn).trans h
theorem MBox.setCell {W : World} {M b i : Nat} {nm pv bv : Value} {fn more : Bool} (h : MBox W M nm fn pv more bv) (hne : M ≠ b) (v : Value) : MBox (W.setCell ⟨b, i, none⟩ v) M nm fn pv more bv := (Below.heap_setCell W ⟨b, i, none⟩ v M hne).trans h
theorem MBox.five {W : World} {M : Nat} {nm pv bv : Value} {fn more : Bool} (h : MBox W M nm fn pv more bv) : FiveAt W M nm pv bv fn more := by
  refine ⟨?_, ?_, ?_, ?_, ?_⟩ <;> (rw [World.cell?, show W.heap[M]? = _ from h]; rfl)
theorem MBox.frozen {W : World} {M : Nat} {nm pv bv : Value} {fn more : Bool} (h : MBox W M nm fn pv more bv) (i : Nat) : W.frozen? ⟨M, i, none⟩ = false := by
  simp [World.frozen?, show W.heap[M]? = _ from h]
theorem MBox.set2 {W : World} {M : Nat} {nm pv bv : Value} {fn more : Bool} (h : MBox W M nm fn pv more bv) (v : Value) : MBox (W.setCell ⟨M, 2, none⟩ v) M nm fn v more bv := by
  obtain ⟨hlt, hk⟩ := Array.getElem?_eq_some_iff.1 h
  show (W.heap.modify M _)[M]? = _
  rw [Array.getElem?_eq_getElem (by rw [Array.size_modify]; exact hlt), Array.getElem_modify_self, hk]
  rfl
theorem MBox.set3 {W : World} {M : Nat} {nm pv bv : Value} {fn more : Bool} (h : MBox W M nm fn pv more bv) (v : Bool) : MBox (W.setCell ⟨M, 3, none⟩ (.bool v)) M nm fn pv v bv := by
  obtain ⟨hlt, hk⟩ := Array.getElem?_eq_some_iff.1 h
  show (W.heap.modify M _)[M]? = _
  rw [Array.getElem?_eq_getElem (by rw [Array.size_modify]; exact hlt), Array.getElem_modify_self, hk]
  rfl
theorem MBox.set1 {W : World} {M : Nat} {nm pv bv : Value} {fn more : Bool} (h : MBox W M nm fn pv more bv) (v : Bool) : MBox (W.setCell ⟨M, 1, none⟩ (.bool v)) M nm v pv more bv := by
  obtain ⟨hlt, hk⟩ := Array.getElem?_eq_some_iff.1 h
  show (W.heap.modify M _)[M]? = _
  rw [Array.getElem?_eq_getElem (by rw [Array.size_modify]; exact hlt), Array.getElem_modify_self, hk]
  rfl
theorem MBox.set0 {W : World} {M : Nat} {nm pv bv : Value} {fn more : Bool} (h : MBox W M nm fn pv more bv) (v : Value) : MBox (W.setCell ⟨M, 0, none⟩ v) M v fn pv more bv := by
  obtain ⟨hlt, hk⟩ := Array.getElem?_eq_some_iff.1 h
  show (W.heap.modify M _)[M]? = _
  rw [Array.getElem?_eq_getElem (by rw [Array.size_modify]; exact hlt), Array.getElem_modify_self, hk]
  rfl
theorem MBox.set4 {W : World} {M : Nat} {nm pv bv : Value} {fn more : Bool} (h : MBox W M nm fn pv more bv) (v : Value) : MBox (W.setCell ⟨M, 4, none⟩ v) M nm fn pv more v := by
  obtain ⟨hlt, hk⟩ := Array.getElem?_eq_some_iff.1 h
  show (W.heap.modify M _)[M]? = _
  rw [Array.getElem?_eq_getElem (by rw [Array.size_modify]; exact hlt), Array.getElem_modify_self, hk]
  rfl

/-- What a round of a loop leaves as it was. -/
structure Kx (N : Nat) (S : Nat → Prop) (W W' : World) : Prop where
  fr : KeepsFrom N W W'
  s : keepsS S W W'
theorem Kx.o {N : Nat} {S : Nat → Prop} {W W' : World} (h : Kx N S W W') : KeepsO (N + 2) 0 W W' :=
  ⟨h.fr.size, fun j o hB hj ho => by
    rcases ho with ho | ho
    · exact h.fr.same j o (by omega) hj ho
    · omega⟩
theorem Kx.refl (N : Nat) (S : Nat → Prop) (W : World) : Kx N S W W := ⟨KeepsFrom.refl _ _, keepsS.refl _ _⟩
theorem Kx.trans {N : Nat} {S : Nat → Prop} {A B C : World} (h : Kx N S A B) (g : Kx N S B C) : Kx N S A C := ⟨h.fr.trans g.fr, h.s.trans g.s⟩
theorem Kx.setCell {N : Nat} {S : Nat → Prop} (W : World) (b i : Nat) (v : Value) (hS : ∀ c, S c → c ≠ b) : Kx N S W (W.setCell ⟨b, i, none⟩ v) :=
  ⟨(KeepsOthers.setCell _ _ _).from _, fun c hc => Below.heap_setCell W ⟨b, i, none⟩ v c (hS c hc)⟩
theorem Kx.below {N : Nat} {S : Nat → Prop} {W W' : World} (hb : Below W.heap.size W W') (hS : ∀ c, S c → c < W.heap.size) : Kx N S W W' :=
  ⟨⟨hb.size, fun j o _ hj _ => (hb.block j (Array.getElem?_eq_some_iff.1 hj).1).trans hj⟩, fun c hc => hb.block c (hS c hc)⟩
theorem Kx.alloc {N : Nat} {S : Nat → Prop} (W : World) (o : Obj) (hS : ∀ c, S c → c < W.heap.size) : Kx N S W (W.alloc o) := Kx.below ((Below.refl _ W).alloc (Nat.le_refl _) o) hS
theorem Kx.drew {N : Nat} {S : Nat → Prop} (W : World) : Kx N S W W.drew := ⟨(KeepsOthers.drew _).from _, fun _ _ => rfl⟩
theorem Kx.row {N base n size : Nat} {S : Nat → Prop} {e : TypeId} {W W' : World} {v : Value} {xs : List Value} (h : W.ownsRow base e size v n xs) (hg : W.grownBy W' v.ownBlock) (hS : ∀ c, S c → c < base ∧ c < W.heap.size) : Kx N S W W' :=
  ⟨KeepsFrom.rowG h hg, fun c hc => hg.block c (hS c hc).2 (fun e => by have := (row_turn h c e.symm).1; have := (hS c hc).1; omega)⟩
theorem Kx.size {N : Nat} {S : Nat → Prop} {W W' : World} (h : Kx N S W W') : W.heap.size ≤ W'.heap.size := h.fr.size

theorem prs_length (l : List Gt) : 2 * (prs l).length ≤ l.length := by
  match l with
  | [] => simp [prs]
  | [_] => simp [prs]
  | a :: b :: r => have := prs_length r; simp [prs]; omega
theorem pre_len {l : List Gt} {pre : List (Gt × Gt)} (h : pre <+: prs l) : 2 * pre.length ≤ l.length := by
  have := h.length_le; have := prs_length l; omega

/-- What a round hands on, and what it leaves when it ends. -/
def ParI (w : World) (M N : Nat) (nm : Value) (fn : Bool) (bv : Value) (full : List (Gt × Gt)) (R : Option (List (List UInt8) × Bool × Nat)) (pre : List (Gt × Gt)) (W : World) : Prop :=
  (∃ acc pv, MBox W M nm fn pv false bv ∧ W.ownsRow (N + 4) 9 1 pv acc.length (sCells acc) ∧ acc.length = pre.length ∧ Hid (∀ rest, pre ++ rest = full → goP acc (2 * pre.length) rest = R)) ∧
  Boxed W w.heap.size 78 (.pointer (some ⟨M, 0, none⟩)) ∧ Boxed W (w.heap.size + 1) 3 (.int .i64 0) ∧ Boxed W (w.heap.size + 2) 4 (.bool false) ∧ Boxed W N 3 (.int .i64 (2 * pre.length : Nat)) ∧ Below M w W
def ParX (w : World) (M N : Nat) (nm : Value) (fn : Bool) (bv : Value) (R : Option (List (List UInt8) × Bool × Nat)) (c : Code) (W : World) : Prop :=
  Below M w W ∧ ((c = .ret ∧ ∃ ps more k pv, Hid (R = some (ps, more, k)) ∧ MBox W M nm fn pv more bv ∧ W.ownsRow (N + 4) 9 1 pv ps.length (sCells ps) ∧ Boxed W (w.heap.size + 1) 3 (.int .i64 (k : Nat)) ∧ Boxed W (w.heap.size + 2) 4 (.bool true)) ∨
  (c = .exit 0 ∧ Hid (R = none) ∧ ∃ q n c more, MBox W M nm fn (.slice q n c) more bv ∧ Boxed W (w.heap.size + 1) 3 (.int .i64 0) ∧ Boxed W (w.heap.size + 2) 4 (.bool false)))
theorem row_keep {N base n : Nat} {e : TypeId} {size : Nat} {X Y : World} {row : Option Nat} {v : Value} {xs : List Value} (h2 : X.ownsRow base e size v n xs) (hg : X.grownBy Y row) (hr : ∀ r, row = some r → N + 2 ≤ r ∧ ((N + 4 ≤ r ∧ r < N + 4 + 0) ∨ ∃ o : Obj, X.heap[r]? = some o ∧ o.isCells = false)) : Y.ownsRow base e size v n xs := by
  refine h2.kept hg ?_
  rcases h2.2 with ⟨rfl, _⟩ | ⟨g, cap, cur, rfl, hbg, hgb, _⟩
  · exact .inl rfl
  · refine .inr fun e' => ?_
    rcases (hr g (by simpa [Value.ownBlock] using e'.symm)).2 with h | ⟨o, ho, hc⟩
    · omega
    · rw [hgb] at ho; cases ho; cases hc
theorem ParI.abides (w : World) (M N : Nat) (nm : Value) (fn : Bool) (bv : Value) (full : List (Gt × Gt)) (R : Option (List (List UInt8) × Bool × Nat)) (hM : M < w.heap.size) (hN : w.heap.size + 3 ≤ N) : AbidesO (N + 2) (N + 4) 0 (ParI w M N nm fn bv full R) := by
  refine ⟨fun pre X Y row hs hg hr => ?_, fun pre X hs => ?_⟩
  · obtain ⟨⟨acc, pv, m1, m2, m3, m4⟩, h1, h2, h3, h4, h5⟩ := hs
    have hr' : ∀ r, row = some r → N + 2 ≤ r := fun r e => (hr r e).1
    exact ⟨⟨acc, pv, m1.turn hg (fun r e => by have := hr' r e; omega), row_keep m2 hg hr, m3, m4⟩, Boxed.turn h1 hg (fun r e => by have := hr' r e; omega), Boxed.turn h2 hg (fun r e => by have := hr' r e; omega), Boxed.turn h3 hg (fun r e => by have := hr' r e; omega), Boxed.turn h4 hg (fun r e => by have := hr' r e; omega), h5.grown hg (by have := h5.size; omega) (fun r e => by have := hr' r e; omega)⟩
  · obtain ⟨⟨acc, pv, m1, m2, m3, m4⟩, h1, h2, h3, h4, h5⟩ := hs
    exact ⟨⟨acc, pv, m1, m2.drew, m3, m4⟩, h1, h2, h3, h4, h5.drew⟩
theorem ParX.abides (w : World) (M N : Nat) (nm : Value) (fn : Bool) (bv : Value) (R : Option (List (List UInt8) × Bool × Nat)) (c : Code) (hM : M < w.heap.size) (hN : w.heap.size + 3 ≤ N) : AbidesO (N + 2) (N + 4) 0 (fun (_ : List (Gt × Gt)) W => ParX w M N nm fn bv R c W) := by
  refine ⟨fun pre X Y row hs hg hr => ?_, fun pre X hs => ?_⟩
  · obtain ⟨h5, hs⟩ := hs
    have hr' : ∀ r, row = some r → N + 2 ≤ r := fun r e => (hr r e).1
    refine ⟨h5.grown hg (by have := h5.size; omega) (fun r e => by have := hr' r e; omega), ?_⟩
    rcases hs with ⟨rfl, ps, more, k, pv, h0, h1, h2, h3, h4⟩ | ⟨rfl, h0, q, n, c, more, h1, h3, h4⟩
    · exact .inl ⟨rfl, ps, more, k, pv, h0, h1.turn hg (fun r e => by have := hr' r e; omega), row_keep h2 hg hr, Boxed.turn h3 hg (fun r e => by have := hr' r e; omega), Boxed.turn h4 hg (fun r e => by have := hr' r e; omega)⟩
    · exact .inr ⟨rfl, h0, q, n, c, more, h1.turn hg (fun r e => by have := hr' r e; omega), Boxed.turn h3 hg (fun r e => by have := hr' r e; omega), Boxed.turn h4 hg (fun r e => by have := hr' r e; omega)⟩
  · obtain ⟨h5, hs⟩ := hs
    refine ⟨h5.drew, ?_⟩
    rcases hs with ⟨rfl, ps, more, k, pv, h0, h1, h2, h3, h4⟩ | ⟨rfl, h0, q, n, c, more, h1, h3, h4⟩
    · exact .inl ⟨rfl, ps, more, k, pv, h0, h1, h2.drew, h3, h4⟩
    · exact .inr ⟨rfl, h0, q, n, c, more, h1, h3, h4⟩
theorem pairs_stops (n : Nat) (h1 : 1 ≤ n) (Bd B0 : Nat) (S : Nat → Prop) (p : Option Addr) (cap : Nat) (l : List Gt) (w : World) (hSB : S Bd) (hSg : ∀ g o, p = some ⟨g, o, none⟩ → S g) (hSw : ∀ b, S b → b < w.heap.size) (hb : Boxed w Bd 31 (.slice p l.length cap)) (hl : TkG B0 w (.slice p l.length cap) l) (hsz : l.length ≤ 140737488355328) :
    SeqStopsO Fence.wide n 0 Tryz.prog 69 #[.pointer (some ⟨Bd, 0, none⟩)] encP2 (keepsS S) (prs l) w :=
  fun lp J Jx W hW hJ hJx hY h0 => pairs1_in n h1 lp Bd B0 S p cap l J Jx W hJ hJx hY hSB hSg (Boxed.below hb hW hb.lt) (hl.keepsS (S := S) (fun b hb => hW.block b (hSw b hb)) hSg) hsz h0
theorem res63 {tmps : Array Value} {w : World} {B C : Nat} {v0 v1 : Value} (h4 : tmps.getD 4 undef = .pointer (some ⟨B, 0, none⟩)) (h5 : tmps.getD 5 undef = .pointer (some ⟨C, 0, none⟩))
    (c0 : w.cell? ⟨B, 0, none⟩ = some v0) (c1 : w.cell? ⟨C, 0, none⟩ = some v1) :
    (results Tryz.f34 tmps).run Tryz.prog w = .ok (.tuple #[v0, v1]) w := by
  have hr : Tryz.f34.results = #[.cell 4 3, .cell 5 4] := rfl
  have h4' : tmps[4]?.getD undef = .pointer (some ⟨B, 0, none⟩) := by simpa using h4
  have h5' : tmps[5]?.getD undef = .pointer (some ⟨C, 0, none⟩) := by simpa using h5
  simp [results, hr, h4', h5', asAddr, go_sem, c0, c1]

end Go.Proofs.YticiddcgafhkhaaGreatDoor
