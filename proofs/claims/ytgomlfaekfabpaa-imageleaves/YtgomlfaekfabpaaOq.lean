/-
  Package image: turn.
-/
import Derived.Test.YtgomlfaekfabpaaOp
import Derived.Lib.SliceRun
namespace Go.Proofs.Ytgomlfaekfabpaa
open Go Go.RowKit Go.Shelf
set_option linter.unusedVariables false
set_option linter.unusedSimpArgs false

/-- So many bytes are made 0. -/
def clrM (l : List Int) (o : Nat) : Nat → List Int
  | 0 => l
  | n + 1 => clrM (l.set o 0) (o + 1) n
theorem clr_len : ∀ (n o : Nat) (l : List Int), (clrM l o n).length = l.length
  | 0, _, _ => rfl
  | n + 1, o, l => by rw [clrM, clr_len n]; simp
theorem clr_ok : ∀ (n o : Nat) (l : List Int), OkB l → OkB (clrM l o n)
  | 0, _, _, h => h
  | n + 1, o, l, h => by
    rw [clrM]
    refine clr_ok n _ _ (fun x hx => ?_)
    rcases List.mem_or_eq_of_mem_set hx with hx | rfl
    · exact h x hx
    · omega
theorem bk_clear (g : Nat) (T : TypeId) : ∀ (n o : Nat) (l : List Int) (W : World), Bk W g T (byC l) → Bk (W.setCells g o (List.replicate n (.int .u8 0))) g T (byC (clrM l o n)) ∧ W.grownBy (W.setCells g o (List.replicate n (.int .u8 0))) (some g)
  | 0, o, l, W, h => ⟨h, rfl, rfl, rfl, Nat.le_refl _, fun _ _ _ => rfl⟩
  | n + 1, o, l, W, h => by
    rw [List.replicate_succ, World.setCells, clrM]
    have h1 : Bk (W.setCell ⟨g, o, none⟩ (.int .u8 0)) g T (byC (l.set o 0)) := by rw [← byC_set]; exact h.set o _
    obtain ⟨h2, h3⟩ := bk_clear g T n (o + 1) _ _ h1
    exact ⟨h2, gr_then (gr_set W g o _) h3 (fun r e => by cases e; exact .inr rfl)⟩
/-- A union that is come through, by the member that it was led through the last time. -/
def turS (bs : List Int) (o : Option Int) (s : Int) (f z : Nat) : List Int := match o with | none => bs | some m => if m != s then clrM bs f z else bs
/-- What turn makes of bytes and of what is kept. -/
def turM (bs : List Int) (L : List Int → Option Int) (pre : List Int) : List ((ShT × Int × Int) × Int × Int) → List Int × (List Int → Option Int)
  | [] => (bs, L)
  | (x, fr, s) :: r =>
    if x.1.sh == 5 then turM (turS bs (L pre) s (fr / 8).toNat (x.2.2 / 8).toNat) (setM L pre s) (pre ++ [s]) r
    else turM bs L (pre ++ [s]) r
/-- Two blocks alone are turned. -/
structure TG (g b : Nat) (w w' : World) : Prop where
  os : w'.os = w.os
  tape : w'.tape = w.tape
  output : w'.output = w.output
  size : w.heap.size ≤ w'.heap.size
  block : ∀ i, i < w.heap.size → i ≠ g → i ≠ b → w'.heap[i]? = w.heap[i]?
theorem TG.refl (g b : Nat) (w : World) : TG g b w w := ⟨rfl, rfl, rfl, Nat.le_refl _, fun _ _ _ _ => rfl⟩
theorem TG.row {g b : Nat} {w a c : World} {row : Option Nat} (h : TG g b w a) (hg : a.grownBy c row) (hr : ∀ r, row = some r → w.heap.size ≤ r ∨ r = g ∨ r = b) : TG g b w c :=
  ⟨hg.os.trans h.os, hg.tape.trans h.tape, hg.output.trans h.output, Nat.le_trans h.size hg.size, fun i hi h1 h2 => (hg.block i (Nat.lt_of_lt_of_le hi h.size) (fun e => by
    rcases hr i e.symm with h3 | h3 | h3
    · omega
    · exact h1 h3
    · exact h2 h3)).trans (h.block i hi h1 h2)⟩
theorem TG.bk {g b j : Nat} {w w' : World} {T : TypeId} {cs : Array Value} (h : TG g b w w') (hb : Bk w j T cs) (h1 : j ≠ g) (h2 : j ≠ b) : Bk w' j T cs := (h.block j hb.lt h1 h2).trans hb
theorem TG.below {g b N0 : Nat} {w w' : World} (h : TG g b w w') (h1 : N0 ≤ g) (h2 : N0 ≤ b) (hN : N0 ≤ w.heap.size) : Below N0 w w' := ⟨h.os, h.tape, h.output, h.size, fun i hi => h.block i (by omega) (by omega) (by omega)⟩
theorem MpA.kept {W W' : World} {b n : Nat} {L : List Int → Option Int} {row : Option Nat} (h : MpA W b n L) (hg : W.grownBy W' row) (hne : some b ≠ row) : MpA W' b n L := by
  obtain ⟨D, h1, h2⟩ := h
  exact ⟨D, h1.kept hg hne, h2⟩
theorem MpA.lt {W : World} {b n : Nat} {L : List Int → Option Int} (h : MpA W b n L) : b < W.heap.size := by
  obtain ⟨D, h1, h2⟩ := h
  exact h1.lt
theorem MpA.not {W : World} {b n j : Nat} {L : List Int → Option Int} {T : TypeId} {cs : Array Value} (h : MpA W b n L) (hj : Bk W j T cs) : j ≠ b := fun e => by
  obtain ⟨D, ⟨es, cl, hb, _⟩, _⟩ := h
  subst e
  unfold Bk at hj
  rw [hj] at hb
  cases hb
theorem pl_snoc {p : List Int} (hp : p.length < 6) (s : Int) : ((plC p).setIfInBounds p.length (.int .i64 s)).setIfInBounds 6 (.int .i64 ((p.length : Int) + 1)) = plC (p ++ [s]) := by
  match p, hp with
  | [], _ => rfl
  | [_], _ => rfl
  | [_, _], _ => rfl
  | [_, _, _], _ => rfl
  | [_, _, _, _], _ => rfl
  | [_, _, _, _, _], _ => rfl
  | _ :: _ :: _ :: _ :: _ :: _ :: _, h => simp at h; omega
/-- What turn keeps. -/
structure TuS (w wr : World) (g b n : Nat) (bs : List Int) (L : List Int → Option Int) (pre : List Int) : Prop where
  p : Bk wr w.heap.size 126 (plC pre)
  i : Bk wr g 5 (byC bs)
  m : MpA wr b n L
  tg : TG g b w wr
  gl : g < w.heap.size
  bl : b < w.heap.size
theorem TuS.gb {w wr : World} {g b n : Nat} {bs : List Int} {L : List Int → Option Int} {pre : List Int} (h : TuS w wr g b n bs L pre) : g ≠ b := h.m.not h.i
theorem TuS.below {w wr w' : World} {g b n : Nat} {bs : List Int} {L : List Int → Option Int} {pre : List Int} (h : TuS w wr g b n bs L pre) (hb : Below wr.heap.size wr w') : TuS w w' g b n bs L pre :=
  ⟨h.p.below hb, h.i.below hb, h.m.kept (below_grown hb) (by simp), h.tg.row (below_grown hb) (fun r e => by cases e), h.gl, h.bl⟩
theorem TuS.clear {w wr : World} {g b n : Nat} {bs : List Int} {L : List Int → Option Int} {pre : List Int} (h : TuS w wr g b n bs L pre) (o z : Nat) : TuS w (wr.setCells g o (List.replicate z (.int .u8 0))) g b n (clrM bs o z) L pre := by
  obtain ⟨h1, h2⟩ := bk_clear g 5 z o bs wr h.i
  have hgb := h.gb
  have hgl := h.gl
  exact ⟨(h2.block _ h.p.lt (fun e => by cases e; omega)).trans h.p, h1, h.m.kept h2 (fun e => by cases e; exact hgb rfl), h.tg.row h2 (fun r e => by cases e; exact .inr (.inl rfl)), h.gl, h.bl⟩
theorem TuS.map {w wr w' : World} {g b n n' : Nat} {bs : List Int} {L L' : List Int → Option Int} {pre : List Int} (h : TuS w wr g b n bs L pre) (hg : wr.grownBy w' (some b)) (hm : MpA w' b n' L') : TuS w w' g b n' bs L' pre := by
  have hgb := h.gb
  have hbl := h.bl
  exact ⟨(hg.block _ h.p.lt (fun e => by cases e; omega)).trans h.p, (hg.block _ h.i.lt (fun e => by cases e; exact hgb rfl)).trans h.i, hm, h.tg.row hg (fun r e => by cases e; exact .inr (.inr rfl)), h.gl, h.bl⟩
theorem TuS.snoc {w wr : World} {g b n : Nat} {bs : List Int} {L : List Int → Option Int} {pre : List Int} (h : TuS w wr g b n bs L pre) (hp : pre.length < 6) (s : Int) :
    TuS w ((wr.setCell ⟨w.heap.size, pre.length, none⟩ (.int .i64 s)).setCell ⟨w.heap.size, 6, none⟩ (.int .i64 ((pre.length : Int) + 1))) g b n bs L (pre ++ [s]) := by
  have hgl := h.gl
  have hbl := h.bl
  refine ⟨by rw [← pl_snoc hp]; exact (h.p.set _ _).set _ _, (h.i.other _ _ (by omega)).other _ _ (by omega), (h.m.kept (gr_set _ _ _ _) (fun e => by cases e; omega)).kept (gr_set _ _ _ _) (fun e => by cases e; omega), (h.tg.row (gr_set _ _ _ _) (fun r e => by cases e; exact .inl (Nat.le_refl _))).row (gr_set _ _ _ _) (fun r e => by cases e; exact .inl (Nat.le_refl _)), h.gl, h.bl⟩
/-- What stops must be. -/
def StOk (n : Nat) (S : List ((ShT × Int × Int) × Int × Int)) : Prop := S.length ≤ 6 ∧ ∀ x ∈ S, 0 ≤ x.2.2 ∧ x.2.2 ≤ 1000000 ∧ 0 ≤ x.2.1 ∧ 0 < x.1.2.2 ∧ x.2.1 + x.1.2.2 ≤ 8 * n ∧ ((x.1.1.sh == 5) = true → x.1.2.2 % 8 = 0)
/-- A stop in memory. -/
theorem row_st {W : World} {base n c : Nat} {q : Option Addr} {L : List (Nat × Nat × Int × Int)} (h : W.ownsRow base 121 3 (.slice q n c) L.length (stCs L)) {k : Nat} (hk : k < L.length) :
    ∃ G cs, q = some ⟨G, 0, none⟩ ∧ n = L.length ∧ Bk W G 121 cs ∧ cs[k * 3]? = some (.pointer (some ⟨L[k].1, L[k].2.1 * 10, none⟩)) ∧ cs[k * 3 + 1]? = some (.int .i64 L[k].2.2.1) ∧ cs[k * 3 + 2]? = some (.int .i64 L[k].2.2.2) := by
  have hat : ∀ (l : List (Nat × Nat × Int × Int)) (i : Nat) (h : i < l.length), (stCs l)[i * 3]? = some (.pointer (some ⟨l[i].1, l[i].2.1 * 10, none⟩)) ∧ (stCs l)[i * 3 + 1]? = some (.int .i64 l[i].2.2.1) ∧ (stCs l)[i * 3 + 2]? = some (.int .i64 l[i].2.2.2) := by
    intro l
    induction l with
    | nil => intro i h; exact absurd h (Nat.not_lt_zero _)
    | cons m r ih =>
      intro i h
      cases i with
      | zero => simp [stCs, stC]
      | succ i =>
        have hi := ih i (by simpa using h)
        have e : stCs (m :: r) = stC m ++ stCs r := by simp [stCs]
        have e3 : (stC m).length = 3 := rfl
        rw [e]
        refine ⟨?_, ?_, ?_⟩
        · rw [List.getElem?_append_right (by omega), e3, show (i + 1) * 3 - 3 = i * 3 by omega]; exact hi.1
        · rw [List.getElem?_append_right (by omega), e3, show (i + 1) * 3 + 1 - 3 = i * 3 + 1 by omega]; exact hi.2.1
        · rw [List.getElem?_append_right (by omega), e3, show (i + 1) * 3 + 2 - 3 = i * 3 + 2 by omega]; exact hi.2.2
  rcases h.2 with ⟨h0, h1⟩ | ⟨G, cap, cur, he, hb, hg, hc, hm, hs, ht⟩
  · rw [h1] at hk; exact absurd hk (Nat.not_lt_zero _)
  · cases he
    obtain ⟨h1, h2, h3⟩ := hat L k hk
    rw [← ht] at h1 h2 h3
    refine ⟨G, cur, rfl, rfl, hg, ?_, ?_, ?_⟩
    · rw [List.getElem?_take_of_lt (by omega)] at h1; simpa using h1
    · rw [List.getElem?_take_of_lt (by omega)] at h2; simpa using h2
    · rw [List.getElem?_take_of_lt (by omega)] at h3; simpa using h3
end Go.Proofs.Ytgomlfaekfabpaa
