/-
  Package image: nodes and their parts: a typing map.
-/
import Derived.Test.YtgomlfaekfabpaaOe
import Derived.Test.YtgomlfaekfabpaaOc
namespace Go.Proofs.Ytgomlfaekfabpaa
open Go Go.RowKit Go.Shelf
set_option linter.unusedVariables false
set_option linter.unusedSimpArgs false

/-- The parts of a node. -/
def prtM (x : ShT × Int × Int) : List (ShT × Int × Int) := if x.1.sh == 3 then (match x.1.of with | y :: _ => [(y, 0, x.2.2 / x.1.n)] | [] => []) else ptsM x.1
theorem ndCs_at : ∀ (l : List (ShT × Int × Int)) (i j : Nat) (x : ShT × Int × Int), l[i]? = some x → j < 10 → (ndCs l)[i * 10 + j]? = (ndL x)[j]?
  | [], i, j, x, h, _ => by simp at h
  | y :: r, 0, j, x, h, hj => by
    obtain rfl : y = x := by simpa using h
    have e : ndCs (y :: r) = ndL y ++ ndCs r := by simp [ndCs]
    rw [e, Nat.zero_mul, Nat.zero_add, List.getElem?_append_left (by show j < 10; exact hj)]
  | y :: r, i + 1, j, x, h, hj => by
    have ih := ndCs_at r i j x (by simpa using h) hj
    have e : ndCs (y :: r) = ndL y ++ ndCs r := by simp [ndCs]
    have e10 : (ndL y).length = 10 := rfl
    rw [e, List.getElem?_append_right (by omega), e10, show (i + 1) * 10 + j - 10 = i * 10 + j by omega]
    exact ih
/-- Every block of M bears its list's nodes; their parts are none yet, or lie in a block of M. -/
structure NI (N0 : Nat) (M : Nat → Option (List (ShT × Int × Int))) (W : World) : Prop where
  nd : ∀ g l, M g = some l → N0 ≤ g ∧ ∃ cs, Bk W g 117 cs ∧ ∀ i x, l[i]? = some x → ∃ pv, (∀ j u, (ndC x.1 x.2.1 x.2.2 pv)[j]? = some u → cs[i * 10 + j]? = some u) ∧
    (pv = .slice none 0 0 ∨ ∃ g2 c2, pv = .slice (some ⟨g2, 0, none⟩) (prtM x).length c2 ∧ M g2 = some (prtM x) ∧ (prtM x).length ≤ c2)
theorem NI.at {N0 : Nat} {M : Nat → Option (List (ShT × Int × Int))} {W : World} (h : NI N0 M W) {g i : Nat} {l : List (ShT × Int × Int)} {x : ShT × Int × Int} (hg : M g = some l) (hi : l[i]? = some x) :
    ∃ pv, NdAt W g (i * 10) x.1 x.2.1 x.2.2 pv ∧ W.frozen? ⟨g, i * 10 + 9, none⟩ = false ∧ (pv = .slice none 0 0 ∨ ∃ g2 c2, pv = .slice (some ⟨g2, 0, none⟩) (prtM x).length c2 ∧ M g2 = some (prtM x) ∧ (prtM x).length ≤ c2) := by
  obtain ⟨_, cs, hb, hn⟩ := h.nd g l hg
  obtain ⟨pv, hc, hp⟩ := hn i x hi
  exact ⟨pv, ⟨fun j u hu => (hb.cell _).trans (hc j u hu), hb.lt⟩, hb.frozen _, hp⟩
theorem NI.below {N0 : Nat} {M : Nat → Option (List (ShT × Int × Int))} {W W' : World} (h : NI N0 M W) (hb : Below W.heap.size W W') : NI N0 M W' :=
  ⟨fun g l hg => by
    obtain ⟨h0, cs, hk, hn⟩ := h.nd g l hg
    exact ⟨h0, cs, hk.below hb, hn⟩⟩
def addM (M : Nat → Option (List (ShT × Int × Int))) (g2 : Nat) (l : List (ShT × Int × Int)) : Nat → Option (List (ShT × Int × Int)) := fun g => if g = g2 then some l else M g
def ExM (M M' : Nat → Option (List (ShT × Int × Int))) : Prop := ∀ g l, M g = some l → M' g = some l
theorem addM_ex {M : Nat → Option (List (ShT × Int × Int))} {g2 : Nat} {l : List (ShT × Int × Int)} (h : M g2 = none) : ExM M (addM M g2 l) := fun g l' hg => by
  unfold addM
  split
  · rename_i e
    rw [e, h] at hg
    cases hg
  · exact hg
/-- A new block of nodes without parts. -/
theorem NI.add {N0 : Nat} {M : Nat → Option (List (ShT × Int × Int))} {W : World} (h : NI N0 M W) {g2 : Nat} {l : List (ShT × Int × Int)} {cs : Array Value} (hM : M g2 = none) (hN : N0 ≤ g2) (hb : Bk W g2 117 cs) (hc : ∀ (j : Nat) (u : Value), (ndCs l)[j]? = some u → cs[j]? = some u) : NI N0 (addM M g2 l) W :=
  ⟨fun g l' hg => by
    unfold addM at hg
    split at hg
    · rename_i e
      subst e
      cases hg
      refine ⟨hN, cs, hb, fun i x hi => ⟨.slice none 0 0, fun j u hu => hc _ _ ?_, .inl rfl⟩⟩
      have hj : j < 10 := by
        have := (Array.getElem?_eq_some_iff.1 hu).1
        exact this
      rw [ndCs_at l i j x hi hj]
      unfold ndL
      simpa using hu
    · obtain ⟨h0, cs', hk, hn⟩ := h.nd g l' hg
      refine ⟨h0, cs', hk, fun i x hi => ?_⟩
      obtain ⟨pv, hp, hq⟩ := hn i x hi
      refine ⟨pv, hp, hq.imp id ?_⟩
      rintro ⟨g3, c3, e1, e2, e3⟩
      exact ⟨g3, c3, e1, addM_ex hM g3 _ e2, e3⟩⟩
/-- A node's parts are written. -/
theorem NI.set {N0 : Nat} {M : Nat → Option (List (ShT × Int × Int))} {W : World} (h : NI N0 M W) {g i : Nat} {l : List (ShT × Int × Int)} {x : ShT × Int × Int} (hg : M g = some l) (hi : l[i]? = some x) {g2 c2 : Nat} (hM : M g2 = some (prtM x)) (hc2 : (prtM x).length ≤ c2) :
    NI N0 M (W.setCell ⟨g, i * 10 + 9, none⟩ (.slice (some ⟨g2, 0, none⟩) (prtM x).length c2)) :=
  ⟨fun g' l' hg' => by
    obtain ⟨h0, cs, hk, hn⟩ := h.nd g' l' hg'
    by_cases e : g' = g
    · subst e
      rw [hg] at hg'
      cases hg'
      refine ⟨h0, _, hk.set _ _, fun i' x' hi' => ?_⟩
      obtain ⟨pv, hp, hq⟩ := hn i' x' hi'
      by_cases ei : i' = i
      · subst ei
        rw [hi] at hi'
        cases hi'
        refine ⟨.slice (some ⟨g2, 0, none⟩) (prtM x).length c2, fun j u hu => ?_, .inr ⟨g2, c2, rfl, hM, hc2⟩⟩
        have hj : j < 10 := (Array.getElem?_eq_some_iff.1 hu).1
        by_cases ej : j = 9
        · subst ej
          have hlt : i' * 10 + 9 < cs.size := by
            have h9 := hp 9 pv rfl
            exact (Array.getElem?_eq_some_iff.1 h9).1
          rw [Array.getElem?_setIfInBounds_self_of_lt hlt]
          exact hu
        · rw [Array.getElem?_setIfInBounds_ne (by omega)]
          refine hp j u ?_
          have hJ : j = 0 ∨ j = 1 ∨ j = 2 ∨ j = 3 ∨ j = 4 ∨ j = 5 ∨ j = 6 ∨ j = 7 ∨ j = 8 := by omega
          rcases hJ with rfl | rfl | rfl | rfl | rfl | rfl | rfl | rfl | rfl <;> exact hu
      · refine ⟨pv, fun j u hu => ?_, hq⟩
        have hj : j < 10 := (Array.getElem?_eq_some_iff.1 hu).1
        rw [Array.getElem?_setIfInBounds_ne (by omega)]
        exact hp j u hu
    · exact ⟨h0, cs, hk.other _ _ e, hn⟩⟩
end Go.Proofs.Ytgomlfaekfabpaa
