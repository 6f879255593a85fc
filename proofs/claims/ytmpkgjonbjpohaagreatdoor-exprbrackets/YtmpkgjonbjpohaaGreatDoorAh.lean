/-
  The statements' own shown of layer 13.
-/
import Derived.Test.YtmpkgjonbjpohaaGreatDoorAg
namespace Go.Proofs.YtmpkgjonbjpohaaGreatDoor
open Go Go.RowKit
set_option linter.unusedVariables false
set_option linter.unusedSimpArgs false

theorem PaR.good {w w' : World} {ws : List Wd} {p p' f : Nat} {e : Ending} {x : PE} (h : PaR w ws p e w') (hg : gM (nxt ws) f .exp p [] = some (some [x], p', [])) (hd : dpP x 1 = false) :
    ∃ q c, e = .returned (.tuple #[.agg (exC x q c), .int .i64 p', .int .i64 0, .int .i64 0]) ∧ Kids w' (fun g => w.heap.size ≤ g) x q ∧ Below w.heap.size w w' := by
  obtain ⟨f2, o, x2, p2, cr, X, at', er, ln, q, c, h1, h2, rfl, h4, h5⟩ := h
  have hdet := gM_det _ h1 hg
  simp only [Prod.mk.injEq] at hdet
  obtain ⟨e1, e2, e3⟩ := hdet
  subst e1 e2 e3
  cases h2 with
  | deep _ _ _ h => rw [hd] at h; cases h
  | good _ _ h => exact ⟨q, c, rfl, h4, h5⟩
set_option maxRecDepth 100000 in
set_option maxHeartbeats 8000000 in
theorem shown13_any (w : World) (hgl : Gl w) (hop : Ops w) (hmo : Mo w) (hgm : 10 < w.heap.size) : Calls Tryz.prog 8 #[] w fun e w' => e = .returned (.bool true) ∧ Below w.heap.size w w' := by
  have HR := veil (readE_any w hgl)
  have HPA : Hid (∀ v W, Below w.heap.size w W → WdG W.heap.size W v wsE → Calls Tryz.prog 19 #[v, .int .i64 0] W fun e w' => ∃ q c g o cur fz, e = .returned (.tuple #[.agg #[.int .i64 4, .int .i64 1, .int .i64 0, .int .i64 0, .string ⟨#[]⟩, .slice q 2 c, .int .i64 1], .int .i64 5, .int .i64 0, .int .i64 0]) ∧ q = some ⟨g, o, none⟩ ∧ w'.cell? ⟨g, o + 7 + 1, none⟩ = some (.int .i64 3) ∧ g < w'.heap.size ∧ Below W.heap.size W w') := fun v W hb hW => by
    have hp := Parse_any W v wsE 0 hW (hgl.below hb hgm) (hop.below hb (by have := hgl.size; show 0 < _; omega)) (hmo.below hb hgm) (Nat.lt_of_lt_of_le hgm hb.size) (by decide) (by decide) (by decide)
    refine hp.mono ?_
    intro e w' h
    obtain ⟨q, c, rfl, hk, hb'⟩ := h.good gmE dpE
    obtain ⟨g, o, cur, fz, q', cq, hq, _, hg, hc, _⟩ := hk.list 1 (by decide)
    refine ⟨q, c, g, o, cur, fz, rfl, hq, ?_, (Array.getElem?_eq_some_iff.1 hg).1, hb'⟩
    have := hc 1 (.int .i64 3) rfl
    simp [World.cell?, hg]
    simpa using this
  clear hgl hop hmo hgm
  go_enter Tryz.func8, Tryz.ntmps8
  go_wp2_with fail
  refine (unveil HR).mono ?_
  rintro e W1 ⟨v, rfl, hW, hb1⟩
  have HP := veil (unveil HPA v W1 hb1 hW)
  have HB1 := veil hb1
  clear HR HPA hW hb1
  go_wp2_with fail
  refine (unveil HP).mono ?_
  rintro e W2 ⟨q, c, g, o, cur, fz, rfl, rfl, hc, hg, hb2⟩
  have HB2 := veil ((unveil HB1).trans (hb2.mono (unveil HB1).size))
  clear HP HB1 hb2
  go_wp2
  go_ret
  exact ⟨rfl, (unveil HB2).alloc (unveil HB2).size _⟩
end Go.Proofs.YtmpkgjonbjpohaaGreatDoor
