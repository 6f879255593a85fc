/-
  A strings.Builder of the call's own, beside blocks of an iterator's own: what its methods leave.
-/
import Derived.Test.YtaoekfokpbebfaaDoorTb
import Derived.Test.YtaoekfokpbebfaaDoorSeq
namespace Go.Proofs.YtaoekfokpbebfaaDoor.Sx
open Go Go.RowKit
set_option linter.unusedVariables false

/-- A Builder in block b, from base B on, that holds the bytes; its row is none of the k blocks at C. -/
def Bld (C k B b : Nat) (bs : List UInt8) (W : World) : Prop :=
  ∃ p v, (p = .pointer none ∨ p = .pointer (some ⟨b, 0, none⟩)) ∧ B ≤ b ∧ W.heap[b]? = some (.cells #[p, v] 54 (0, 0)) ∧ W.ownsRowF B 5 1 v bs.length (Lib.byteCells bs) ∧ v.ownBlock ≠ some b ∧ (∀ g, v.ownBlock = some g → g < C ∨ C + k ≤ g)

theorem Bld.is {C k B b : Nat} {bs : List UInt8} {W : World} (h : Bld C k B b bs W) : Lib.IsBuilderF 54 5 B b (Lib.byteCells bs) W := by
  obtain ⟨p, v, hp, hB, hb, ho, hn, _⟩ := h
  rw [← Lib.byteCells_length bs] at ho
  rcases hp with rfl | rfl
  · exact .inl ⟨hB, v, hb, ho, hn⟩
  · exact .inr ⟨hB, v, hb, ho, hn⟩
theorem Bld.of {C k B b : Nat} {bs : List UInt8} {W : World} (h : Lib.IsBuilderF 54 5 B b (Lib.byteCells bs) W) (hno : noRow 5 C k W) : Bld C k B b bs W := by
  have key : ∀ p v, W.heap[b]? = some (.cells #[p, v] 54 (0, 0)) → W.ownsRowF B 5 1 v (Lib.byteCells bs).length (Lib.byteCells bs) → ∀ g, v.ownBlock = some g → g < C ∨ C + k ≤ g := by
    intro p v _ ho g hg
    obtain ⟨c, fz, hc⟩ := Lib.ownsRowF_kind ho g hg
    rcases Nat.lt_or_ge g C with h' | h'
    · exact .inl h'
    · rcases Nat.lt_or_ge g (C + k) with h'' | h''
      · exact absurd hc (hno g c fz h' h'')
      · exact .inr h''
  rcases h with ⟨hB, v, hb, ho, hn⟩ | ⟨hB, v, hb, ho, hn⟩
  · exact ⟨_, v, .inl rfl, hB, hb, by rw [← Lib.byteCells_length bs]; exact ho, hn, key _ v hb ho⟩
  · exact ⟨_, v, .inr rfl, hB, hb, by rw [← Lib.byteCells_length bs]; exact ho, hn, key _ v hb ho⟩
theorem Bld.lt {C k B b : Nat} {bs : List UInt8} {W : World} (h : Bld C k B b bs W) : b < W.heap.size := by
  obtain ⟨p, v, _, _, hb, _⟩ := h
  exact (Array.getElem?_eq_some_iff.1 hb).1
/-- A turn of a block that is neither the Builder's nor a row of bytes outside the k blocks. -/
theorem Bld.turn {C k B b : Nat} {bs : List UInt8} {W W' : World} {row : Option Nat} (h : Bld C k B b bs W) (hg : W.grownBy W' row)
    (hr : ∀ r, row = some r → r ≠ b ∧ ((C ≤ r ∧ r < C + k) ∨ ∀ c fz, W.heap[r]? ≠ some (.cells c 5 fz))) : Bld C k B b bs W' := by
  obtain ⟨p, v, hp, hB, hb, ho, hn, hf⟩ := h
  refine ⟨p, v, hp, hB, (hg.block b (Array.getElem?_eq_some_iff.1 hb).1 (fun e => (hr b e.symm).1 rfl)).trans hb, ho.kept hg ?_, hn, hf⟩
  refine Classical.or_iff_not_imp_left.2 (fun hne e => ?_)
  cases hv : v.ownBlock with
  | none => exact hne hv
  | some g =>
    rw [hv] at e
    obtain ⟨c, fz, hc⟩ := Lib.ownsRowF_kind ho g hv
    rcases (hr g e.symm).2 with h1 | h1
    · rcases hf g hv with h2 | h2 <;> omega
    · exact h1 c fz hc
theorem Bld.kept {C k B b : Nat} {bs : List UInt8} {W W' : World} {row : Option Nat} (h : Bld C k B b bs W) (hg : W.grownBy W' row)
    (hr : ∀ r, row = some r → r ≠ b ∧ ∀ c fz, W.heap[r]? ≠ some (.cells c 5 fz)) : Bld C k B b bs W' := h.turn hg (fun r e => ⟨(hr r e).1, .inr (hr r e).2⟩)

theorem noRow.others {C k b : Nat} {W W' : World} (h : noRow 5 C k W) (ho : Lib.OthersKept 5 (some b) W W') (hz : C + k ≤ W.heap.size) (hb : b < C) : noRow 5 C k W' := by
  intro j c fz h1 h2 h3
  have hj : j < W.heap.size := by omega
  have := ho j _ (Array.getElem?_eq_getElem hj) (fun e => by cases e; omega) (fun c' fz' e => h j c' fz' h1 h2 (by rw [Array.getElem?_eq_getElem hj, e]))
  rw [h3] at this
  exact h j c fz h1 h2 (by rw [Array.getElem?_eq_getElem hj, ← this])
theorem KeepsO.others {C k b : Nat} {W W' : World} (h : noRow 5 C k W) (ho : Lib.OthersKept 5 (some b) W W') (hs : W.heap.size ≤ W'.heap.size) (hb : b < C) : KeepsO C k W W' :=
  ⟨hs, fun j o hj h0 hc => ho j o h0 (fun e => by cases e; omega) (fun c fz e => by
    subst e
    rcases hc with hc | hc
    · cases hc
    · exact h j c fz hj hc h0)⟩
theorem KeepsFrom.others {B b : Nat} {W W' : World} (ho : Lib.OthersKept 5 (some b) W W') (hs : W.heap.size ≤ W'.heap.size) (hb : b < B) : KeepsFrom B W W' :=
  ⟨hs, fun j o hj h0 hc => ho j o h0 (fun e => by cases e; omega) (fun c fz e => by subst e; cases hc)⟩
theorem Boxed.others {b j : Nat} {t : TypeId} {v : Value} {W W' : World} (h : Boxed W j t v) (ho : Lib.OthersKept 5 (some b) W W') (hb : j ≠ b) (ht : t ≠ 5) : Boxed W' j t v :=
  ho j _ h (fun e => hb (Option.some.inj e)) (fun c fz e => by cases e; exact ht rfl)
theorem ownsRow_others {b base n size : Nat} {e : TypeId} {v : Value} {xs : List Value} {W W' : World} (h : W.ownsRow base e size v n xs) (ho : Lib.OthersKept 5 (some b) W W') (hb : v.ownBlock ≠ some b) (he : e ≠ 5) : W'.ownsRow base e size v n xs := by
  refine ⟨h.1, ?_⟩
  rcases h.2 with hn | ⟨g, cap, cur, rfl, hbg, hg, hr⟩
  · exact .inl hn
  · exact .inr ⟨g, cap, cur, rfl, hbg, ho g _ hg (fun e' => hb (by simpa [Value.ownBlock] using e')) (fun c fz e' => by cases e'; exact he rfl), hr⟩

set_option maxHeartbeats 400000 in
theorem Reset_any (b : Nat) (p v : Value) (w : World) (hb : w.heap[b]? = some (.cells #[p, v] 54 (0, 0))) :
    Calls Tryd.prog 30 #[.pointer (some ⟨b, 0, none⟩)] w fun e w' => e = .returned (.tuple #[]) ∧ w' = (w.setCell ⟨b, 0, none⟩ (.pointer none)).setCell ⟨b, 1, none⟩ (.slice none 0 0) := by
  have c0 : w.cell? ⟨b, 0, none⟩ = some p := by rw [Lib.cell_of_heap hb]; rfl
  have c1 : w.cell? ⟨b, 1, none⟩ = some v := by rw [Lib.cell_of_heap hb]; rfl
  have f0 : w.frozen? ⟨b, 0, none⟩ = false := Lib.frozen_of_heap hb 0
  have f1 : w.frozen? ⟨b, 1, none⟩ = false := Lib.frozen_of_heap hb 1
  go_enter Tryd.func30, Tryd.ntmps30
  go_wp2
  go_end0
  exact ⟨rfl, rfl⟩

/-! What a round of Lines keeps: five blocks at B are its own; an iterator's three lie at B + 7; rows of its own lie from B + 10 on. -/
structure Fr (B : Nat) (W W' : World) : Prop where
  kf : KeepsFrom (B + 5) W W'
  ko : KeepsO (B + 7) 3 W W'
  be : Below B W W'
theorem Fr.trans {B : Nat} {X Y Z : World} (h : Fr B X Y) (g : Fr B Y Z) : Fr B X Z := ⟨h.kf.trans g.kf, h.ko.trans g.ko, h.be.trans g.be⟩
theorem Fr.drew (B : Nat) (W : World) : Fr B W W.drew := ⟨(KeepsOthers.drew W).from _, KeepsO.drew W, (Below.refl B W).drew⟩
theorem Fr.alloc {B : Nat} {W : World} (hB : B ≤ W.heap.size) (o : Obj) : Fr B W (W.alloc o) := ⟨(KeepsOthers.alloc W o).from _, KeepsO.alloc W o, (Below.refl B W).alloc hB o⟩
theorem Fr.setCell {B b i : Nat} {W : World} (h1 : B ≤ b) (h2 : b < B + 5) (v : Value) : Fr B W (W.setCell ⟨b, i, none⟩ v) :=
  ⟨(KeepsOthers.setCell _ _ _).from _, ⟨(KeepsWalks.setCell W _ v).size, fun j o hj h0 _ => (Below.heap_setCell W ⟨b, i, none⟩ v j (by show j ≠ b; omega)).trans h0⟩, (Below.refl B W).setCell (p := ⟨b, i, none⟩) h1 v⟩
theorem row_turn {W : World} {base n size : Nat} {e : TypeId} {v : Value} {xs : List Value} (h : W.ownsRow base e size v n xs) : ∀ r, v.ownBlock = some r → base ≤ r ∧ ∃ cur, W.heap[r]? = some (.cells cur e (0, 0)) := by
  intro r hr
  rcases h.2 with ⟨rfl, _⟩ | ⟨g, cap, cur, rfl, hbg, hg, _⟩
  · simp [Value.ownBlock] at hr
  · obtain rfl : g = r := by simpa [Value.ownBlock] using hr
    exact ⟨hbg, cur, hg⟩
theorem Fr.row {B n size : Nat} {e : TypeId} {W W' : World} {v : Value} {xs : List Value} (h : W.ownsRow (B + 10) e size v n xs) (hg : W.grownBy W' v.ownBlock) (hB : B ≤ W.heap.size) : Fr B W W' :=
  ⟨(KeepsOthers.of_grownBy hg (fun j o ej hj => by obtain ⟨_, cur, hc⟩ := row_turn h j ej; rw [hc] at hj; cases hj; rfl)).from _,
   KeepsO.grown hg (fun r e => .inr (by obtain ⟨h1, cur, hc⟩ := row_turn h r e; exact ⟨by omega, _, hc, rfl⟩)),
   (Below.refl B W).grown hg hB (fun r e => by have := (row_turn h r e).1; omega)⟩
theorem Fr.others {B : Nat} {W W' : World} (hno : noRow 5 (B + 7) 3 W) (ho : Lib.OthersKept 5 (some (B + 1)) W W') (hbe : Below B W W') : Fr B W W' :=
  ⟨KeepsFrom.others ho hbe.size (by omega), KeepsO.others hno ho hbe.size (by omega), hbe⟩
theorem Boxed.row {base n size j : Nat} {e t : TypeId} {u v : Value} {W W' : World} {xs : List Value} (h : Boxed W j t u) (hr : W.ownsRow base e size v n xs) (hg : W.grownBy W' v.ownBlock) (hj : j < base) : Boxed W' j t u :=
  h.kept hg (fun e' => by have := (row_turn hr j e'.symm).1; omega)
theorem Boxed.setCell {b i j : Nat} {t : TypeId} {u : Value} {W : World} (h : Boxed W j t u) (hj : j ≠ b) (v : Value) : Boxed (W.setCell ⟨b, i, none⟩ v) j t u := (Below.heap_setCell W ⟨b, i, none⟩ v j hj).trans h
theorem ownsRow_setCell {b i base n size : Nat} {e : TypeId} {v : Value} {W : World} {xs : List Value} (h : W.ownsRow base e size v n xs) (hb : b < base) (u : Value) : (W.setCell ⟨b, i, none⟩ u).ownsRow base e size v n xs :=
  h.kept (row := some b) ⟨rfl, rfl, rfl, (KeepsWalks.setCell W _ u).size, fun k _ hk => Below.heap_setCell _ _ _ k (fun e => hk (by simp at e; rw [e]))⟩
    (Classical.or_iff_not_imp_left.2 (fun _ e => by have := (h.lt _ e).1; omega))
theorem reset_heap {b : Nat} {p v : Value} {W : World} (hb : W.heap[b]? = some (.cells #[p, v] 54 (0, 0))) (p' v' : Value) :
    ((W.setCell ⟨b, 0, none⟩ p').setCell ⟨b, 1, none⟩ v').heap[b]? = some (.cells #[p', v'] 54 (0, 0)) := by
  simp [World.setCell, Array.getElem?_modify, hb]
end Go.Proofs.YtaoekfokpbebfaaDoor.Sx
