/-
  Package image: places as keys of a map; which member each union was led through by.
  Package image: turn.
-/
import Derived.Test.YtkiebejidpebdaaOo
import Derived.DeepKeys4
import Derived.Maps.OwnSet
import Derived.Lib.SliceRun
namespace Go.Proofs.Ytkiebejidpebdaa
open Go Go.RowKit Go.Shelf
set_option linter.unusedVariables false
set_option linter.unusedSimpArgs false

/-- A place's cells: the steps, and how many. -/
def plC (p : List Int) : Array Value := #[.int .i64 (p.getD 0 0), .int .i64 (p.getD 1 0), .int .i64 (p.getD 2 0), .int .i64 (p.getD 3 0), .int .i64 (p.getD 4 0), .int .i64 (p.getD 5 0), .int .i64 (p.length : Int)]
def OkS (p : List Int) : Prop := p.length ≤ 6 ∧ ∀ x ∈ p, 0 ≤ x ∧ x ≤ 1000000
theorem undP : ∃ fs, Try.prog.underlying 126 = some (.struct fs) := ⟨_, Try.underlying126⟩
theorem wideP : (match Try.prog.underlying 126 with | some (.array _ _) | some (.struct _) => true | _ => false) = true := by rw [Try.underlying126]
theorem laidB : laidOutB Try.prog = true := by kernel_rfl
theorem rowP : (126 : TypeId) < Try.prog.types.size := of_decide_eq_true (by kernel_rfl)
set_option maxRecDepth 100000 in
theorem keyedP : Maps.Keyed Try.prog 126 := Maps.Keyed.of_law (deep_law_laid laidB (m := 3) (by omega) rowP (by kernel_rfl) wideP)
theorem undA : Try.prog.underlying 124 = some (.array 6 3) := by kernel_rfl
theorem undM95 : Try.prog.underlying 95 = some (.map 126 3) := by kernel_rfl
theorem keyTP : Try.prog.keyType 126 = true := by kernel_rfl
theorem lits_place (a0 a1 a2 a3 a4 a5 a6 : Int) (h : ∀ x ∈ [a0, a1, a2, a3, a4, a5, a6], (Lit.int .i64 x).wf = true) :
    Try.prog.keyLits (Try.prog.types.size + 1) 126 [.int .i64 a0, .int .i64 a1, .int .i64 a2, .int .i64 a3, .int .i64 a4, .int .i64 a5, .int .i64 a6] = some [.int .i64 a0, .int .i64 a1, .int .i64 a2, .int .i64 a3, .int .i64 a4, .int .i64 a5, .int .i64 a6] := by
  have hs : ∃ n, Try.prog.types.size = n + 3 := ⟨Try.prog.types.size - 3, by have : 3 ≤ Try.prog.types.size := of_decide_eq_true (by kernel_rfl); omega⟩
  obtain ⟨n, hn⟩ := hs
  rw [hn]
  have h0 := h a0 (by simp)
  have h1 := h a1 (by simp)
  have h2 := h a2 (by simp)
  have h3 := h a3 (by simp)
  have h4 := h a4 (by simp)
  have h5 := h a5 (by simp)
  have h6 := h a6 (by simp)
  have c1 : Try.prog.cellsOf 126 = 7 := by kernel_rfl
  have c2 : Try.prog.cellsOf 124 = 6 := by kernel_rfl
  have c3 : Try.prog.cellsOf 3 = 1 := by kernel_rfl
  have hr : List.range 6 = [0, 1, 2, 3, 4, 5] := rfl
  simp [Program.keyLits, Try.underlying126, undA, undI, c1, c2, c3, h0, h1, h2, h3, h4, h5, h6, hr]
theorem formP (p : List Int) : (Value.agg (plC p)).formed Try.prog 126 = true := by
  have c1 : Try.prog.cellsOf 126 = 7 := by kernel_rfl
  simp [Value.formed, Try.underlying126, c1, plC]
theorem okS_get {p : List Int} (h : OkS p) (i : Nat) : (Lit.int .i64 (p.getD i 0)).wf = true := by
  refine WalkArith.wf_i64 ?_
  rw [List.getD_eq_getElem?_getD]
  cases hi : p[i]? with
  | none => simp
  | some x =>
    have := h.2 x (List.mem_of_getElem? hi)
    simp only [Option.getD_some]
    omega
def klP (p : List Int) : List UInt8 := keyBytes [.int .i64 (p.getD 0 0), .int .i64 (p.getD 1 0), .int .i64 (p.getD 2 0), .int .i64 (p.getD 3 0), .int .i64 (p.getD 4 0), .int .i64 (p.getD 5 0), .int .i64 (p.length : Int)]
theorem key_place {p : List Int} (h : OkS p) : keyOf Try.prog 126 (.agg (plC p)) = some (.string (klP p)) := by
  have hl := lits_place (p.getD 0 0) (p.getD 1 0) (p.getD 2 0) (p.getD 3 0) (p.getD 4 0) (p.getD 5 0) (p.length : Int) (by
    intro x hx
    simp only [List.mem_cons, List.not_mem_nil, or_false] at hx
    rcases hx with rfl | rfl | rfl | rfl | rfl | rfl | rfl
    · exact okS_get h 0
    · exact okS_get h 1
    · exact okS_get h 2
    · exact okS_get h 3
    · exact okS_get h 4
    · exact okS_get h 5
    · exact WalkArith.wf_i64 (by have := h.1; omega))
  unfold keyOf
  rw [Try.underlying126]
  simp only [keyTP, formP, Bool.and_true, if_true]
  have hc : (Value.agg (plC p)).cells.toList = [.int .i64 (p.getD 0 0), .int .i64 (p.getD 1 0), .int .i64 (p.getD 2 0), .int .i64 (p.getD 3 0), .int .i64 (p.getD 4 0), .int .i64 (p.getD 5 0), .int .i64 (p.length : Int)] := rfl
  rw [hc, hl]
  rfl
/-- Places that differ have keys that differ. -/
theorem kl_inj {p q : List Int} (hp : OkS p) (hq : OkS q) (h : klP p = klP q) : p = q := by
  have h1 := key_place hp
  have h2 := key_place hq
  rw [← h] at h2
  have h3 := keyedP.inj h1 h2
  unfold plC at h3
  simp only [Value.agg.injEq, Array.mk.injEq, List.cons.injEq, Value.int.injEq, true_and, and_true] at h3
  obtain ⟨e0, e1, e2, e3, e4, e5, el⟩ := h3
  have hl : p.length = q.length := by omega
  apply List.ext_getElem? 
  intro i
  by_cases hi : i < p.length
  · have hi' : i < q.length := by omega
    have hi6 : i < 6 := by have := hp.1; omega
    rw [List.getElem?_eq_getElem hi, List.getElem?_eq_getElem hi']
    have hd : ∀ i, i < 6 → p.getD i 0 = q.getD i 0 := fun i h6 => by
      have : i = 0 ∨ i = 1 ∨ i = 2 ∨ i = 3 ∨ i = 4 ∨ i = 5 := by omega
      rcases this with rfl | rfl | rfl | rfl | rfl | rfl <;> assumption
    have := hd i hi6
    rw [List.getD_eq_getElem?_getD, List.getD_eq_getElem?_getD, List.getElem?_eq_getElem hi, List.getElem?_eq_getElem hi'] at this
    simpa using this
  · rw [List.getElem?_eq_none (by omega), List.getElem?_eq_none (by omega)]
/-- What a map of places tells. -/
def LmD (D : DataW Unit) (L : List Int → Option Int) : Prop :=
  Maps.Tidy D ∧ ∀ p, OkS p → Maps.has D (.string (klP p)) = (L p).isSome ∧ D.atKey (.string (klP p)) (.lit (.int .i64 0)) = .lit (.int .i64 ((L p).getD 0))
def setM (L : List Int → Option Int) (p : List Int) (s : Int) : List Int → Option Int := fun q => if q = p then some s else L q
theorem LmD.nil : LmD (.map []) (fun _ => none) := ⟨Maps.tidy_empty, fun p _ => ⟨by simp [Maps.has], rfl⟩⟩
theorem LmD.put {D : DataW Unit} {L : List Int → Option Int} (h : LmD D L) {p : List Int} (hp : OkS p) (s : Int) : LmD (D.put (.string (klP p)) (.lit (.int .i64 s))) (setM L p s) := by
  have hk : WideAt.IsKeyLit (.string (klP p)) := by trivial
  refine ⟨h.1.put hk _, fun q hq => ?_⟩
  unfold setM
  by_cases e : q = p
  · subst e
    rw [Maps.has_put_same h.1.isMap hk, Maps.atKey_put_same h.1.isMap hk, if_pos rfl]
    exact ⟨rfl, rfl⟩
  · have hne : Lit.string (klP q) ≠ Lit.string (klP p) := fun h' => e (kl_inj hq hp (by simpa using h'))
    rw [Maps.has_put_other hne, Maps.atKey_put_other hne, if_neg e]
    exact h.2 q hq
/-- A map of the call's own, as it lies. -/
def MpA (W : World) (b n : Nat) (L : List Int → Option Int) : Prop := ∃ D, W.ownsMap (H := Unit) Try.prog 126 (plainElem Try.prog 3) b n D ∧ LmD D L
end Go.Proofs.Ytkiebejidpebdaa
namespace Go.Proofs.Ytkiebejidpebdaa
open Go Go.RowKit Go.Shelf
set_option linter.unusedVariables false
set_option linter.unusedSimpArgs false

/-- So many bytes are made 0. -/
def clrM (l : List Int) (o : Nat) : Nat → List Int
  | 0 => l
  | n + 1 => clrM (l.set o 0) (o + 1) n
theorem clr_len : ∀ (n o : Nat) (l : List Int), (clrM l o n).length = l.length
  | 0, _, _ => rfl
  | n + 1, o, l => by rw [clrM, clr_len n]; simp
theorem clr_ok : ∀ (n o : Nat) (l : List Int), OkB l → OkB (clrM l o n)
  | 0, _, _, h => h
  | n + 1, o, l, h => by
    rw [clrM]
    refine clr_ok n _ _ (fun x hx => ?_)
    rcases List.mem_or_eq_of_mem_set hx with hx | rfl
    · exact h x hx
    · omega
theorem bk_clear (g : Nat) (T : TypeId) : ∀ (n o : Nat) (l : List Int) (W : World), Bk W g T (byC l) → Bk (W.setCells g o (List.replicate n (.int .u8 0))) g T (byC (clrM l o n)) ∧ W.grownBy (W.setCells g o (List.replicate n (.int .u8 0))) (some g)
  | 0, o, l, W, h => ⟨h, rfl, rfl, rfl, Nat.le_refl _, fun _ _ _ => rfl⟩
  | n + 1, o, l, W, h => by
    rw [List.replicate_succ, World.setCells, clrM]
    have h1 : Bk (W.setCell ⟨g, o, none⟩ (.int .u8 0)) g T (byC (l.set o 0)) := by rw [← byC_set]; exact h.set o _
    obtain ⟨h2, h3⟩ := bk_clear g T n (o + 1) _ _ h1
    exact ⟨h2, gr_then (gr_set W g o _) h3 (fun r e => by cases e; exact .inr rfl)⟩
/-- A union that is come through, by the member that it was led through the last time. -/
def turS (bs : List Int) (o : Option Int) (s : Int) (f z : Nat) : List Int := match o with | none => bs | some m => if m != s then clrM bs f z else bs
/-- What turn makes of bytes and of what is kept. -/
def turM (bs : List Int) (L : List Int → Option Int) (pre : List Int) : List ((ShT × Int × Int) × Int × Int) → List Int × (List Int → Option Int)
  | [] => (bs, L)
  | (x, fr, s) :: r =>
    if x.1.sh == 5 then turM (turS bs (L pre) s (fr / 8).toNat (x.2.2 / 8).toNat) (setM L pre s) (pre ++ [s]) r
    else turM bs L (pre ++ [s]) r
/-- Two blocks alone are turned. -/
structure TG (g b : Nat) (w w' : World) : Prop where
  os : w'.os = w.os
  tape : w'.tape = w.tape
  output : w'.output = w.output
  size : w.heap.size ≤ w'.heap.size
  block : ∀ i, i < w.heap.size → i ≠ g → i ≠ b → w'.heap[i]? = w.heap[i]?
theorem TG.refl (g b : Nat) (w : World) : TG g b w w := ⟨rfl, rfl, rfl, Nat.le_refl _, fun _ _ _ _ => rfl⟩
theorem TG.row {g b : Nat} {w a c : World} {row : Option Nat} (h : TG g b w a) (hg : a.grownBy c row) (hr : ∀ r, row = some r → w.heap.size ≤ r ∨ r = g ∨ r = b) : TG g b w c :=
  ⟨hg.os.trans h.os, hg.tape.trans h.tape, hg.output.trans h.output, Nat.le_trans h.size hg.size, fun i hi h1 h2 => (hg.block i (Nat.lt_of_lt_of_le hi h.size) (fun e => by
    rcases hr i e.symm with h3 | h3 | h3
    · omega
    · exact h1 h3
    · exact h2 h3)).trans (h.block i hi h1 h2)⟩
theorem TG.bk {g b j : Nat} {w w' : World} {T : TypeId} {cs : Array Value} (h : TG g b w w') (hb : Bk w j T cs) (h1 : j ≠ g) (h2 : j ≠ b) : Bk w' j T cs := (h.block j hb.lt h1 h2).trans hb
theorem TG.below {g b N0 : Nat} {w w' : World} (h : TG g b w w') (h1 : N0 ≤ g) (h2 : N0 ≤ b) (hN : N0 ≤ w.heap.size) : Below N0 w w' := ⟨h.os, h.tape, h.output, h.size, fun i hi => h.block i (by omega) (by omega) (by omega)⟩
theorem MpA.kept {W W' : World} {b n : Nat} {L : List Int → Option Int} {row : Option Nat} (h : MpA W b n L) (hg : W.grownBy W' row) (hne : some b ≠ row) : MpA W' b n L := by
  obtain ⟨D, h1, h2⟩ := h
  exact ⟨D, h1.kept hg hne, h2⟩
theorem MpA.lt {W : World} {b n : Nat} {L : List Int → Option Int} (h : MpA W b n L) : b < W.heap.size := by
  obtain ⟨D, h1, h2⟩ := h
  exact h1.lt
theorem MpA.not {W : World} {b n j : Nat} {L : List Int → Option Int} {T : TypeId} {cs : Array Value} (h : MpA W b n L) (hj : Bk W j T cs) : j ≠ b := fun e => by
  obtain ⟨D, ⟨es, cl, hb, _⟩, _⟩ := h
  subst e
  unfold Bk at hj
  rw [hj] at hb
  cases hb
theorem pl_snoc {p : List Int} (hp : p.length < 6) (s : Int) : ((plC p).setIfInBounds p.length (.int .i64 s)).setIfInBounds 6 (.int .i64 ((p.length : Int) + 1)) = plC (p ++ [s]) := by
  match p, hp with
  | [], _ => rfl
  | [_], _ => rfl
  | [_, _], _ => rfl
  | [_, _, _], _ => rfl
  | [_, _, _, _], _ => rfl
  | [_, _, _, _, _], _ => rfl
  | _ :: _ :: _ :: _ :: _ :: _ :: _, h => simp at h; omega
/-- What turn keeps. -/
structure TuS (w wr : World) (g b n : Nat) (bs : List Int) (L : List Int → Option Int) (pre : List Int) : Prop where
  p : Bk wr w.heap.size 126 (plC pre)
  i : Bk wr g 5 (byC bs)
  m : MpA wr b n L
  tg : TG g b w wr
  gl : g < w.heap.size
  bl : b < w.heap.size
theorem TuS.gb {w wr : World} {g b n : Nat} {bs : List Int} {L : List Int → Option Int} {pre : List Int} (h : TuS w wr g b n bs L pre) : g ≠ b := h.m.not h.i
theorem TuS.below {w wr w' : World} {g b n : Nat} {bs : List Int} {L : List Int → Option Int} {pre : List Int} (h : TuS w wr g b n bs L pre) (hb : Below wr.heap.size wr w') : TuS w w' g b n bs L pre :=
  ⟨h.p.below hb, h.i.below hb, h.m.kept (below_grown hb) (by simp), h.tg.row (below_grown hb) (fun r e => by cases e), h.gl, h.bl⟩
theorem TuS.clear {w wr : World} {g b n : Nat} {bs : List Int} {L : List Int → Option Int} {pre : List Int} (h : TuS w wr g b n bs L pre) (o z : Nat) : TuS w (wr.setCells g o (List.replicate z (.int .u8 0))) g b n (clrM bs o z) L pre := by
  obtain ⟨h1, h2⟩ := bk_clear g 5 z o bs wr h.i
  have hgb := h.gb
  have hgl := h.gl
  exact ⟨(h2.block _ h.p.lt (fun e => by cases e; omega)).trans h.p, h1, h.m.kept h2 (fun e => by cases e; exact hgb rfl), h.tg.row h2 (fun r e => by cases e; exact .inr (.inl rfl)), h.gl, h.bl⟩
theorem TuS.map {w wr w' : World} {g b n n' : Nat} {bs : List Int} {L L' : List Int → Option Int} {pre : List Int} (h : TuS w wr g b n bs L pre) (hg : wr.grownBy w' (some b)) (hm : MpA w' b n' L') : TuS w w' g b n' bs L' pre := by
  have hgb := h.gb
  have hbl := h.bl
  exact ⟨(hg.block _ h.p.lt (fun e => by cases e; omega)).trans h.p, (hg.block _ h.i.lt (fun e => by cases e; exact hgb rfl)).trans h.i, hm, h.tg.row hg (fun r e => by cases e; exact .inr (.inr rfl)), h.gl, h.bl⟩
theorem TuS.snoc {w wr : World} {g b n : Nat} {bs : List Int} {L : List Int → Option Int} {pre : List Int} (h : TuS w wr g b n bs L pre) (hp : pre.length < 6) (s : Int) :
    TuS w ((wr.setCell ⟨w.heap.size, pre.length, none⟩ (.int .i64 s)).setCell ⟨w.heap.size, 6, none⟩ (.int .i64 ((pre.length : Int) + 1))) g b n bs L (pre ++ [s]) := by
  have hgl := h.gl
  have hbl := h.bl
  refine ⟨by rw [← pl_snoc hp]; exact (h.p.set _ _).set _ _, (h.i.other _ _ (by omega)).other _ _ (by omega), (h.m.kept (gr_set _ _ _ _) (fun e => by cases e; omega)).kept (gr_set _ _ _ _) (fun e => by cases e; omega), (h.tg.row (gr_set _ _ _ _) (fun r e => by cases e; exact .inl (Nat.le_refl _))).row (gr_set _ _ _ _) (fun r e => by cases e; exact .inl (Nat.le_refl _)), h.gl, h.bl⟩
/-- What stops must be. -/
def StOk (n : Nat) (S : List ((ShT × Int × Int) × Int × Int)) : Prop := S.length ≤ 6 ∧ ∀ x ∈ S, 0 ≤ x.2.2 ∧ x.2.2 ≤ 1000000 ∧ 0 ≤ x.2.1 ∧ 0 < x.1.2.2 ∧ x.2.1 + x.1.2.2 ≤ 8 * n ∧ ((x.1.1.sh == 5) = true → x.1.2.2 % 8 = 0)
/-- A stop in memory. -/
theorem row_st {W : World} {base n c : Nat} {q : Option Addr} {L : List (Nat × Nat × Int × Int)} (h : W.ownsRow base 121 3 (.slice q n c) L.length (stCs L)) {k : Nat} (hk : k < L.length) :
    ∃ G cs, q = some ⟨G, 0, none⟩ ∧ n = L.length ∧ Bk W G 121 cs ∧ cs[k * 3]? = some (.pointer (some ⟨L[k].1, L[k].2.1 * 10, none⟩)) ∧ cs[k * 3 + 1]? = some (.int .i64 L[k].2.2.1) ∧ cs[k * 3 + 2]? = some (.int .i64 L[k].2.2.2) := by
  have hat : ∀ (l : List (Nat × Nat × Int × Int)) (i : Nat) (h : i < l.length), (stCs l)[i * 3]? = some (.pointer (some ⟨l[i].1, l[i].2.1 * 10, none⟩)) ∧ (stCs l)[i * 3 + 1]? = some (.int .i64 l[i].2.2.1) ∧ (stCs l)[i * 3 + 2]? = some (.int .i64 l[i].2.2.2) := by
    intro l
    induction l with
    | nil => intro i h; exact absurd h (Nat.not_lt_zero _)
    | cons m r ih =>
      intro i h
      cases i with
      | zero => simp [stCs, stC]
      | succ i =>
        have hi := ih i (by simpa using h)
        have e : stCs (m :: r) = stC m ++ stCs r := by simp [stCs]
        have e3 : (stC m).length = 3 := rfl
        rw [e]
        refine ⟨?_, ?_, ?_⟩
        · rw [List.getElem?_append_right (by omega), e3, show (i + 1) * 3 - 3 = i * 3 by omega]; exact hi.1
        · rw [List.getElem?_append_right (by omega), e3, show (i + 1) * 3 + 1 - 3 = i * 3 + 1 by omega]; exact hi.2.1
        · rw [List.getElem?_append_right (by omega), e3, show (i + 1) * 3 + 2 - 3 = i * 3 + 2 by omega]; exact hi.2.2
  rcases h.2 with ⟨h0, h1⟩ | ⟨G, cap, cur, he, hb, hg, hc, hm, hs, ht⟩
  · rw [h1] at hk; exact absurd hk (Nat.not_lt_zero _)
  · cases he
    obtain ⟨h1, h2, h3⟩ := hat L k hk
    rw [← ht] at h1 h2 h3
    refine ⟨G, cur, rfl, rfl, hg, ?_, ?_, ?_⟩
    · rw [List.getElem?_take_of_lt (by omega)] at h1; simpa using h1
    · rw [List.getElem?_take_of_lt (by omega)] at h2; simpa using h2
    · rw [List.getElem?_take_of_lt (by omega)] at h3; simpa using h3
end Go.Proofs.Ytkiebejidpebdaa
