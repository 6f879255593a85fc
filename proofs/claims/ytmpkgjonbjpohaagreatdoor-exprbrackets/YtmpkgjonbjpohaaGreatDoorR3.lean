/-
  Package expr: line.
-/
import Derived.Test.YtmpkgjonbjpohaaGreatDoorR2
import Derived.Deep.QuietTactic
import Derived.BigQuiet
namespace Go.Proofs.YtmpkgjonbjpohaaGreatDoor
open Go Go.RowKit
set_option linter.unusedVariables false
set_option linter.unusedSimpArgs false

/-- The line of the word that stands at a place: 0 behind the last one. -/
def lnM (ws : List Wd) (i : Nat) : Int := match ws[i]? with | some x => x.line | none => 0
theorem below_draws1 (w : World) (n : Nat) : Below w.heap.size w (w.drewN n) := ⟨rfl, rfl, rfl, Nat.le_refl _, fun _ _ => rfl⟩
theorem below_draws2 (w : World) (n m : Nat) : Below w.heap.size w ((w.drewN n).drewN m) := ⟨rfl, rfl, rfl, Nat.le_refl _, fun _ _ => rfl⟩
set_option maxRecDepth 100000 in
set_option maxHeartbeats 8000000 in
theorem line_any {W : World} {R : Nat} {wv : Value} {ws : List Wd} {tw crv : Value} {p : Nat} {x : Wd} {cr : List Int} (h : RdX W R wv ws tw crv p x cr) (hp : p ≤ ws.length) (hl : ws.length ≤ 1000000) :
    Calls Tryz.prog 33 #[.pointer (some ⟨R, 0, none⟩)] W fun e W' => e = .returned (.int .i64 (lnM ws p)) ∧ Below W.heap.size W W' := by
  obtain ⟨pw, cw, rfl, hc⟩ := h.wd
  obtain ⟨⟨c0, c1, c2, c3, c4, c5, c6, c7, c8, c9⟩, hlt, _⟩ := h.cells
  clear h c2 c3 c4 c5 c6 c7 c8 c9
  by_cases hpn : p < ws.length
  · have hpi : (p : Int) < (ws.length : Int) := by omega
    have hne : ((p : Int) == (ws.length : Int)) = false := by simp; omega
    have HLN : Hid (ws[p].line = lnM ws p) := by unfold lnM; rw [Hid, List.getElem?_eq_getElem hpn]
    obtain ⟨gw, ow, rfl, hgw, w0, w1, w2, w3, w4, w5⟩ := hc p hpn
    have hgl : gw < W.heap.size := Nat.lt_trans hgw hlt
    clear w0 w1 w2 w3 w4 hc
    generalize ws[p].line = LN at *
    generalize lnM ws p = LM at *
    go_enter Tryz.func33, Tryz.ntmps33
    go_upto_region 1 with fail
    go_quiet (fail)
    revert nq; intro n1
    go_upto_region 3 with fail
    go_quiet (fail)
    go_wp2
    go_ret
    exact ⟨by rw [← unveil HLN]; rfl, below_draws2 W _ _⟩
  · have hpe : p = ws.length := by omega
    subst hpe
    have HLN : Hid (lnM ws ws.length = 0) := by unfold lnM; rw [Hid, List.getElem?_eq_none (Nat.le_refl _)]
    clear hc
    go_enter Tryz.func33, Tryz.ntmps33
    go_upto_region 1 with fail
    go_quiet (fail)
    go_wp2
    go_ret
    exact ⟨by rw [unveil HLN]; rfl, below_draws1 W _⟩
end Go.Proofs.YtmpkgjonbjpohaaGreatDoor
