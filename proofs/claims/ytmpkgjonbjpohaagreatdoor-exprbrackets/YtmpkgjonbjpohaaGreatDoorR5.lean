/-
  Package expr: Same.
-/
import Derived.Test.YtmpkgjonbjpohaaGreatDoorR4
namespace Go.Proofs.YtmpkgjonbjpohaaGreatDoor
open Go Go.RowKit
set_option linter.unusedVariables false
set_option linter.unusedSimpArgs false

mutual
/-- No list within is too long. -/
def lnP : PE → Prop
  | .mk _ _ _ _ _ l _ => l.length ≤ 1000000000 ∧ lnL l
def lnL : List PE → Prop
  | [] => True
  | x :: l => lnP x ∧ lnL l
end
theorem lnL.at' : ∀ {l : List PE}, lnL l → ∀ (i : Nat) (h : i < l.length), lnP l[i]
  | [], _, _, h => by simp at h
  | x :: l, hl, 0, _ => by unfold lnL at hl; exact hl.1
  | x :: l, hl, i + 1, h => by unfold lnL at hl; exact hl.2.at' i (by simpa using h)
set_option maxRecDepth 100000 in
set_option maxHeartbeats 8000000 in
theorem same_any : ∀ (n : Nat) (x y : PE) (w : World), SizeOf.sizeOf x < n → lnP x → SmP w x y
  | 0, _, _, _, h, _ => absurd h (Nat.not_lt_zero _)
  | n + 1, .mk x0 x1 x2 x3 x4 x5 x6, .mk y0 y1 y2 y3 y4 y5 y6, w, hn, hl => fun V q r cq cr hbV hk hk' => by
    unfold lnP at hl
    have HBY : Hid (Below V.heap.size V ((V.alloc (.cells #[.int .i64 x0, .int .i64 x1, .int .i64 x2, .int .i64 x3, .string ⟨x4.toArray⟩, .slice q x5.length cq, .int .i64 x6] 24)).alloc (.cells #[.int .i64 y0, .int .i64 y1, .int .i64 y2, .int .i64 y3, .string ⟨y4.toArray⟩, .slice r y5.length cr, .int .i64 y6] 24))) := ((Below.refl _ V).alloc (Nat.le_refl _) _).alloc (by simp) _
    have HXB : Hid (Bk ((V.alloc (.cells #[.int .i64 x0, .int .i64 x1, .int .i64 x2, .int .i64 x3, .string ⟨x4.toArray⟩, .slice q x5.length cq, .int .i64 x6] 24)).alloc (.cells #[.int .i64 y0, .int .i64 y1, .int .i64 y2, .int .i64 y3, .string ⟨y4.toArray⟩, .slice r y5.length cr, .int .i64 y6] 24)) V.heap.size 24 #[.int .i64 x0, .int .i64 x1, .int .i64 x2, .int .i64 x3, .string ⟨x4.toArray⟩, .slice q x5.length cq, .int .i64 x6]) := (Bk.new V _ _).alloc _
    have HYB : Hid (Bk ((V.alloc (.cells #[.int .i64 x0, .int .i64 x1, .int .i64 x2, .int .i64 x3, .string ⟨x4.toArray⟩, .slice q x5.length cq, .int .i64 x6] 24)).alloc (.cells #[.int .i64 y0, .int .i64 y1, .int .i64 y2, .int .i64 y3, .string ⟨y4.toArray⟩, .slice r y5.length cr, .int .i64 y6] 24)) (V.heap.size + 1) 24 #[.int .i64 y0, .int .i64 y1, .int .i64 y2, .int .i64 y3, .string ⟨y4.toArray⟩, .slice r y5.length cr, .int .i64 y6]) := by
      have := Bk.new (V.alloc (.cells #[.int .i64 x0, .int .i64 x1, .int .i64 x2, .int .i64 x3, .string ⟨x4.toArray⟩, .slice q x5.length cq, .int .i64 x6] 24)) 24 #[.int .i64 y0, .int .i64 y1, .int .i64 y2, .int .i64 y3, .string ⟨y4.toArray⟩, .slice r y5.length cr, .int .i64 y6]
      rw [World.size_alloc] at this
      exact this
    have HE := veil (equal_any x5 y5 q r cq cr ((V.alloc (.cells #[.int .i64 x0, .int .i64 x1, .int .i64 x2, .int .i64 x3, .string ⟨x4.toArray⟩, .slice q x5.length cq, .int .i64 x6] 24)).alloc (.cells #[.int .i64 y0, .int .i64 y1, .int .i64 y2, .int .i64 y3, .string ⟨y4.toArray⟩, .slice r y5.length cr, .int .i64 y6] 24)) (hk.below (unveil HBY)).list (hk'.below (unveil HBY)).list hl.1 (fun i hi hi' => same_any n x5[i] y5[i] _ (by have := List.sizeOf_lt_of_mem (List.getElem_mem hi); simp at hn; omega) (hl.2.at' i hi)))
    clear hk hk' hbV hl hn
    rw [smM]
    simp only [exC, PE.is, PE.op, PE.k, PE.v, PE.nm, PE.l, PE.line]
    go_enter Tryz.func13, Tryz.ntmps13
    go_upto_region 1 with fail
    generalize ((V.alloc (.cells #[.int .i64 x0, .int .i64 x1, .int .i64 x2, .int .i64 x3, .string ⟨x4.toArray⟩, .slice q x5.length cq, .int .i64 x6] 24)).alloc (.cells #[.int .i64 y0, .int .i64 y1, .int .i64 y2, .int .i64 y3, .string ⟨y4.toArray⟩, .slice r y5.length cr, .int .i64 y6] 24)) = W2 at *
    obtain ⟨⟨a0, a1, a2, a3, a4, a5, a6⟩, al, _⟩ := ex_cells (unveil HXB)
    obtain ⟨⟨b0, b1, b2, b3, b4, b5, b6⟩, bl, _⟩ := ex_cells (unveil HYB)
    cases h0 : x0 == y0
    · go_wp2_with fail
      go_ret
      exact ⟨by simp only [h0, Bool.true_and, Bool.false_and]; rfl, unveil HBY⟩
    · skip
      cases h1 : x1 == y1
      · go_wp2_with fail
        go_ret
        exact ⟨by simp only [h0, h1, Bool.true_and, Bool.false_and]; rfl, unveil HBY⟩
      · skip
        cases h2 : x2 == y2
        · go_wp2_with fail
          go_ret
          exact ⟨by simp only [h0, h1, h2, Bool.true_and, Bool.false_and]; rfl, unveil HBY⟩
        · skip
          cases h3 : x3 == y3
          · go_wp2_with fail
            go_ret
            exact ⟨by simp only [h0, h1, h2, h3, Bool.true_and, Bool.false_and]; rfl, unveil HBY⟩
          · skip
            cases h4 : x4 == y4
            · go_wp2_with fail
              go_ret
              exact ⟨by simp only [h0, h1, h2, h3, h4, Bool.true_and, Bool.false_and]; rfl, unveil HBY⟩
            · skip
              generalize hSL : smL x5 y5 = SL at HE
              have HSL := veil hSL
              clear hSL
              go_wp2_with (go_at_call 28; refine (unveil HE).mono ?_; rintro e W3 ⟨rfl, hb⟩; have HB3 := veil ((unveil HBY).trans (hb.mono (unveil HBY).size)); clear hb)
              go_ret
              exact ⟨by simp only [h0, h1, h2, h3, h4, Bool.true_and, unveil HSL]; rfl, unveil HB3⟩
theorem Same_any (x y : PE) (w : World) (h : lnP x) : SmP w x y := same_any (SizeOf.sizeOf x + 1) x y w (by omega) h
end Go.Proofs.YtmpkgjonbjpohaaGreatDoor
