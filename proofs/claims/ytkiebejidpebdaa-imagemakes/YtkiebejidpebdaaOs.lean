/-
  Package image: Make.
-/
import Derived.Test.YtkiebejidpebdaaOr
namespace Go.Proofs.Ytkiebejidpebdaa
open Go Go.RowKit Go.Shelf
set_option linter.unusedVariables false
set_option linter.unusedSimpArgs false

theorem stp_bnd {d : Nat} {x y : ShT × Int × Int} {s b : Int} {j : Nat} (hd : d ≤ 6) (h : GdN d x) (hs : stpM x s = some (j, y, b)) : 0 ≤ s ∧ s ≤ 65536 := by
  cases h3 : x.1.sh == 3
  · obtain ⟨hk, rfl, _, _, _, _, hf, _⟩ := stp_str_yes hd h (stp_sh hs h3) hs
    omega
  · obtain ⟨z, _, h0, h1, h2, _⟩ := stp_arr_yes hd h h3 hs
    omega
/-- What a path comes through is as turn wants it. -/
theorem fol_stops : ∀ (p : List Int) (d : Nat) (x : ShT × Int × Int) (fr : Int), d ≤ 6 → GdN d x → 0 ≤ fr → ∀ st ∈ (folM x fr p).1, 0 ≤ st.2.2 ∧ st.2.2 ≤ 65536 ∧ fr ≤ st.2.1 ∧ 0 < st.1.2.2 ∧ st.2.1 + st.1.2.2 ≤ fr + x.2.2 ∧ ((st.1.1.sh == 5) = true → st.1.2.2 % 8 = 0)
  | [], _, _, _, _, _, _, st, h => by simp [folM] at h
  | s :: r, d, x, fr, hd, hg, h0, st, h => by
    cases hs : stpM x s with
    | none => rw [fol_no hs] at h; cases h
    | some q =>
      obtain ⟨j, y, b⟩ := q
      rw [fol_yes hs] at h
      obtain ⟨d', rfl, hgy, _, _, hb, hbb⟩ := hg.step hd hs
      have hx := hg.bits
      rcases List.mem_cons.1 h with rfl | h
      · obtain ⟨q1, q2⟩ := stp_bnd hd hg hs
        refine ⟨q1, by simp only; omega, by simp only; omega, hx.1, by simp only; omega, fun h5 => ?_⟩
        rcases hg with ⟨_, h2, _⟩ | ⟨_, h1, _⟩
        · simp only
          omega
        · simp only at h5
          rw [h1] at h5
          cases h5
      · obtain ⟨q1, q2, q3, q4, q5, q6⟩ := fol_stops r d' y (fr + b) (by omega) hgy (by omega) st h
        exact ⟨q1, q2, by omega, q4, by omega, q6⟩
theorem fol_ok {t : ShT} (hc : ((chkM t).2 == 0) = true) (path : List Int) (n : Nat) (hn : (n : Int) = (chkM t).1.1) : StOk n (folM (x0M t) 0 path).1 := by
  refine ⟨?_, fun st h => ?_⟩
  · obtain ⟨d', hd, _⟩ := fol_end path 6 (x0M t) 0 (Nat.le_refl 6) (GdN.whole hc)
    omega
  · obtain ⟨q1, q2, q3, q4, q5, q6⟩ := fol_stops path 6 (x0M t) 0 (Nat.le_refl 6) (GdN.whole hc) (Int.le_refl 0) st h
    have hx : (x0M t).2.2 = 8 * (chkM t).1.1 := rfl
    rw [hx] at q5
    exact ⟨q1, by omega, q3, q4, by omega, q6⟩
/-- A set, with its path's header. -/
structure SetT where
  p : Option Addr
  cap : Nat
  path : List Int
  v : Int
/-- Sets, as they lie. -/
def SeG (B : Nat) (W : World) (q : Option Addr) (l : List SetT) : Prop := ∀ (i : Nat) (h : i < l.length), ∃ g o, q = some ⟨g, o, none⟩ ∧ g < B ∧ W.cell? ⟨g, o + i * 2, none⟩ = some (.slice l[i].p l[i].path.length l[i].cap) ∧ W.cell? ⟨g, o + i * 2 + 1, none⟩ = some (.int .i64 l[i].v) ∧ PaG B W l[i].p l[i].path ∧ l[i].path.length ≤ maxLen
theorem SeG.below {B : Nat} {W W' : World} {q : Option Addr} {l : List SetT} (h : SeG B W q l) (hb : Below B W W') : SeG B W' q l := fun i hi => by
  obtain ⟨g, o, e, hg, h1, h2, h3, h4⟩ := h i hi
  exact ⟨g, o, e, hg, (hb.cell (p := ⟨g, o + i * 2, none⟩) hg).trans h1, (hb.cell (p := ⟨g, o + i * 2 + 1, none⟩) hg).trans h2, h3.below hb, h4⟩
theorem SeG.mono {B B' : Nat} {W : World} {q : Option Addr} {l : List SetT} (h : SeG B W q l) (hb : B ≤ B') : SeG B' W q l := fun i hi => by
  obtain ⟨g, o, e, hg, h1, h2, h3, h4⟩ := h i hi
  exact ⟨g, o, e, Nat.lt_of_lt_of_le hg hb, h1, h2, h3.mono hb, h4⟩
/-- Sets, one behind the other; an error, and which set. -/
def mkR (t : ShT) (bs : List Int) (L : List Int → Option Int) (i : Nat) : List SetT → Option (List Int) × Nat
  | [] => (some bs, 0)
  | s :: r => if okP t s.path then mkR t (wrF (turM bs L [] (folM (x0M t) 0 s.path).1).1 s.v (bitL (spP t s.path).1.toNat (spP t s.path).2.1.toNat)).1 (turM bs L [] (folM (x0M t) 0 s.path).1).2 (i + 1) r else (none, i)
def mkE (r : Option (List Int) × Nat) : ByteArray × Int × Int := match r.1 with | some bs => (toB bs, 0, 0) | none => (⟨#[]⟩, 110, (r.2 : Int))
/-- What Make tells. -/
def mkM (t : ShT) (l : List SetT) : ByteArray × Int × Int :=
  if (chkM t).2 == 0 then mkE (mkR t (List.replicate (chkM t).1.1.toNat 0) (fun _ => none) 0 l) else (⟨#[]⟩, (chkM t).2, 0)
theorem turS_len (bs : List Int) (o : Option Int) (s : Int) (f z : Nat) : (turS bs o s f z).length = bs.length := by
  unfold turS
  cases o with
  | none => rfl
  | some m => simp only; split; exact clr_len _ _ _; rfl
theorem turS_ok {bs : List Int} (h : OkB bs) (o : Option Int) (s : Int) (f z : Nat) : OkB (turS bs o s f z) := by
  unfold turS
  cases o with
  | none => exact h
  | some m => simp only; split; exact clr_ok _ _ _ h; exact h
theorem turM_len : ∀ (S : List ((ShT × Int × Int) × Int × Int)) (bs : List Int) (L : List Int → Option Int) (pre : List Int), (turM bs L pre S).1.length = bs.length
  | [], _, _, _ => rfl
  | st :: r, bs, L, pre => by
    rw [turM_cons]
    split
    · rw [turM_len r, turS_len]
    · rw [turM_len r]
theorem turM_ok : ∀ (S : List ((ShT × Int × Int) × Int × Int)) (bs : List Int) (L : List Int → Option Int) (pre : List Int), OkB bs → OkB (turM bs L pre S).1
  | [], _, _, _, h => h
  | st :: r, bs, L, pre, h => by
    rw [turM_cons]
    split
    · exact turM_ok r _ _ _ (turS_ok h _ _ _ _)
    · exact turM_ok r _ _ _ h
/-- What Make keeps. -/
structure MkS (w wr : World) (gw gi bm nn : Nat) (M : Nat → Option (List (ShT × Int × Int))) (t : ShT) (bs : List Int) (L : List Int → Option Int) : Prop where
  ni : NI w.heap.size M wr
  at' : M gw = some [x0M t]
  mx : ∀ h, wr.heap.size ≤ h → M h = none
  i : Bk wr gi 5 (byC bs)
  m : MpA wr bm nn L
  be : Below w.heap.size w wr
  gi : w.heap.size ≤ gi
  bm : w.heap.size ≤ bm
theorem MkS.below {w wr w' : World} {gw gi bm nn : Nat} {M : Nat → Option (List (ShT × Int × Int))} {t : ShT} {bs : List Int} {L : List Int → Option Int} (h : MkS w wr gw gi bm nn M t bs L) (hb : Below wr.heap.size wr w') : MkS w w' gw gi bm nn M t bs L :=
  ⟨h.ni.below hb, h.at', fun g hg => h.mx g (Nat.le_trans hb.size hg), h.i.below hb, h.m.kept (below_grown hb) (by simp), h.be.trans (hb.mono h.be.size), h.gi, h.bm⟩
theorem NG.map {N0 b n : Nat} {w w' : World} {L : List Int → Option Int} (h : NG N0 w w') (hm : MpA w b n L) : MpA w' b n L := by
  obtain ⟨D, ⟨es, cl, hb, hf, hs, hd⟩, h2⟩ := hm
  have hlt : b < w.heap.size := (Array.getElem?_eq_some_iff.1 hb).1
  exact ⟨D, ⟨es, cl, (h.block b hlt (.inr fun cs e => by rw [hb] at e; cases e)).trans hb, hf, hs, hd⟩, h2⟩
/-- A path was gone. -/
theorem MkS.gone {w wr w' : World} {gw gi bm nn : Nat} {M : Nat → Option (List (ShT × Int × Int))} {t : ShT} {bs : List Int} {L : List Int → Option Int} {path : List Int} {e : Ending} (h : MkS w wr gw gi bm nn M t bs L) (hf : FoP w.heap.size M wr (x0M t) path e w') :
    ∃ M' v, MkS w w' gw gi bm nn M' t bs L ∧ NG w.heap.size wr w' ∧ ((okP t path = true ∧ (∃ Q, w'.ownsRow wr.heap.size 121 3 v Q.length (stCs Q) ∧ StL M' Q (folM (x0M t) 0 path).1) ∧ e = .returned (.tuple #[v, .agg (spC3 (spP t path)), .bool true])) ∨
      (okP t path = false ∧ ∃ a b c, e = .returned (.tuple #[v, .agg #[.int .i64 a, .int .i64 b, .int .i64 c], .bool false]))) := by
  obtain ⟨M', v, hex, hn, hng, hd, hh⟩ := hf
  refine ⟨M', v, ⟨hn, hex _ _ h.at', hd, hng.bk h.i (by decide), hng.map h.m, h.be.trans (hng.below h.be.size), h.gi, h.bm⟩, hng, ?_⟩
  rcases hh with ⟨ho, hq, he⟩ | ⟨ho, hq⟩
  · exact .inl ⟨okP_iff.2 ho, hq, he⟩
  · refine .inr ⟨?_, hq⟩
    cases h : okP t path
    · rfl
    · exact absurd (okP_iff.1 h) ho
theorem NI.tg {N0 g b nn : Nat} {M : Nat → Option (List (ShT × Int × Int))} {w w' : World} {bs : List Int} {L : List Int → Option Int} (h : NI N0 M w) (hi : Bk w g 5 (byC bs)) (hm : MpA w b nn L) (ht : TG g b w w') : NI N0 M w' :=
  ⟨fun g' l hg => by
    obtain ⟨h0, cs, hk, hn⟩ := h.nd g' l hg
    refine ⟨h0, cs, ht.bk hk (fun e => ?_) (hm.not hk), hn⟩
    subst e
    unfold Bk at hk hi
    rw [hi] at hk
    simp at hk⟩
/-- The unions on a path were turned. -/
theorem MkS.turn {w wr w' : World} {gw gi bm nn nn' : Nat} {M : Nat → Option (List (ShT × Int × Int))} {t : ShT} {bs bs' : List Int} {L L' : List Int → Option Int} (h : MkS w wr gw gi bm nn M t bs L) (ht : TG gi bm wr w') (hi : Bk w' gi 5 (byC bs')) (hm : MpA w' bm nn' L') : MkS w w' gw gi bm nn' M t bs' L' :=
  ⟨h.ni.tg h.i h.m ht, h.at', fun g hg => h.mx g (Nat.le_trans ht.size hg), hi, hm, h.be.trans (ht.below h.gi h.bm h.be.size), h.gi, h.bm⟩
/-- A number was written. -/
theorem MkS.write {w wr w' : World} {gw gi bm nn : Nat} {M : Nat → Option (List (ShT × Int × Int))} {t : ShT} {bs bs' : List Int} {L : List Int → Option Int} (h : MkS w wr gw gi bm nn M t bs L) (hg : wr.grownBy w' (some gi)) (hi : Bk w' gi 5 (byC bs')) : MkS w w' gw gi bm nn M t bs' L :=
  h.turn ((TG.refl gi bm wr).row hg (fun r e => by cases e; exact .inr (.inl rfl))) hi (h.m.kept hg (fun e => by cases e; exact h.m.not h.i rfl))
end Go.Proofs.Ytkiebejidpebdaa
