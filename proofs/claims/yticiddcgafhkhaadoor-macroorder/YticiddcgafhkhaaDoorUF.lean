/-
  Package macro: Same.
-/
import Derived.Test.YticiddcgafhkhaaDoorUc
namespace Go.Proofs.YticiddcgafhkhaaDoor
open Go Go.RowKit
set_option linter.unusedVariables false
set_option linter.unusedSimpArgs false

theorem McV.below {w W : World} {x : Value} {m : Mc} (h : McV w.heap.size w x m) (hB : Below w.heap.size w W) : McV W.heap.size W x m := by
  obtain ⟨pv, bv, e, h1, h2, h3⟩ := h
  exact ⟨pv, bv, e, (h1.below hB).mono hB.size, (h2.below hB).mono hB.size, h3⟩

set_option maxRecDepth 100000 in
set_option maxHeartbeats 8000000 in
theorem SameM_any (x y : Value) (a b : Mc) (w : World) (ha : McFits a) (hb : McFits b) (hx : McV w.heap.size w x a) (hy : McV w.heap.size w y b) (hw0 : 1 < w.heap.size) (hsg : Sg w) :
    Calls Tryd.prog 15 #[x, y] w fun e w' => e = .returned (.bool (rightM a && (rightM b && decide (a = b)))) ∧ Below w.heap.size w w' := by
  have HA := hide (fun W (hB : Below w.heap.size w W) => Right_any x a W ha (hx.below hB) (Nat.lt_of_lt_of_le hw0 hB.size) (Sg.below hsg hB hw0))
  have HB := hide (fun W (hB : Below w.heap.size w W) => Right_any y b W hb (hy.below hB) (Nat.lt_of_lt_of_le hw0 hB.size) (Sg.below hsg hB hw0))
  have HE := hide (fun W (hB : Below w.heap.size w W) => alikeM_any x y a b W ha.ps ha.body (hx.below hB) (hy.below hB))
  obtain ⟨pv, bv, rfl, _⟩ := hx
  obtain ⟨pu, bu, rfl, _⟩ := hy
  obtain ⟨na, fa, psa, ma, ba⟩ := a
  obtain ⟨nb, fb, psb, mb, bb⟩ := b
  simp only at HA HB HE ⊢
  generalize decide ((⟨na, fa, psa, ma, ba⟩ : Mc) = ⟨nb, fb, psb, mb, bb⟩) = E at *
  generalize rightM ⟨na, fa, psa, ma, ba⟩ = Ra at *
  generalize rightM ⟨nb, fb, psb, mb, bb⟩ = Rb at *
  generalize (⟨na.toArray⟩ : ByteArray) = Na at *
  generalize (⟨nb.toArray⟩ : ByteArray) = Nb at *
  have hbw : Below w.heap.size w ((w.alloc (.cells #[.string Na, .bool fa, pv, .bool ma, bv] 25)).alloc (.cells #[.string Nb, .bool fb, pu, .bool mb, bu] 25)) := ((Below.refl _ w).alloc (Nat.le_refl _) _).alloc (by simp) _
  have hz : (w.alloc (.cells #[.string Na, .bool fa, pv, .bool ma, bv] 25)).heap.size = w.heap.size + 1 := by simp
  have hz2 : ((w.alloc (.cells #[.string Na, .bool fa, pv, .bool ma, bv] 25)).alloc (.cells #[.string Nb, .bool fb, pu, .bool mb, bu] 25)).heap.size = w.heap.size + 2 := by simp
  have hfa : FiveAt ((w.alloc (.cells #[.string Na, .bool fa, pv, .bool ma, bv] 25)).alloc (.cells #[.string Nb, .bool fb, pu, .bool mb, bu] 25)) w.heap.size (.string Na) pv bv fa ma :=
    (five_new w _ pv bv fa ma).below ((Below.refl (w.heap.size + 1) _).alloc (by omega) _) (by omega)
  have hfb : FiveAt ((w.alloc (.cells #[.string Na, .bool fa, pv, .bool ma, bv] 25)).alloc (.cells #[.string Nb, .bool fb, pu, .bool mb, bu] 25)) (w.heap.size + 1) (.string Nb) pu bu fb mb := by
    rw [← hz]; exact five_new _ _ pu bu fb mb
  have HFA := hide hfa
  have HFB := hide hfb
  have H0 := hide (unhide HA _ hbw)
  have HBW := hide hbw
  clear hfa hfb hbw HA
  go_enter Tryd.func15, Tryd.ntmps15
  go_wp2_with fail
  refine (unhide H0).mono ?_
  rintro e W1 ⟨rfl, hb1⟩
  have hs1 := hb1.size
  rw [hz2] at hb1 hs1
  have hB1 : Below w.heap.size w W1 := (unhide HBW).trans (hb1.mono (by omega))
  have HFA1 := hide ((unhide HFA).below hb1 (by omega))
  have HFB1 := hide ((unhide HFB).below hb1 (by omega))
  obtain ⟨c0, c1, c2, c3, c4⟩ := unhide HFB1
  have H1 := hide (unhide HB _ hB1)
  clear H0 HFA HFB HB hz hz2
  cases Ra
  · go_wp2
    go_ret
    exact ⟨rfl, hB1⟩
  · go_wp2_with fail
    refine (unhide H1).mono ?_
    rintro e W2 ⟨rfl, hb2⟩
    have hB2 : Below w.heap.size w W2 := hB1.trans (hb2.mono (by omega))
    have H2 := hide (unhide HE _ hB2)
    clear c0 c1 c2 c3 c4
    obtain ⟨c0, c1, c2, c3, c4⟩ := (unhide HFA1).below hb2 (by omega)
    obtain ⟨d0, d1, d2, d3, d4⟩ := (unhide HFB1).below hb2 (by omega)
    clear H1
    cases Rb
    · go_wp2
      go_ret
      exact ⟨rfl, hB2⟩
    · go_wp2_with fail
      refine (unhide H2).mono ?_
      rintro e W3 ⟨rfl, hb3⟩
      go_wp2
      go_ret
      exact ⟨by simp, hB2.trans (hb3.mono hB2.size)⟩
end Go.Proofs.YticiddcgafhkhaaDoor
