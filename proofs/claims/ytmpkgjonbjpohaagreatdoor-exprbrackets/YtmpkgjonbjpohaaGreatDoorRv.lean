/-
  How many calls were crowded: no more than words.
-/
import Derived.Test.YtmpkgjonbjpohaaGreatDoorRn
namespace Go.Proofs.YtmpkgjonbjpohaaGreatDoor
open Go Go.RowKit
set_option linter.unusedVariables false
set_option linter.unusedSimpArgs false

theorem bnd_any {A : GR} {k : PE → Nat → List Int → GR} {o : Option (List PE)} {p : Nat} {c : List Int} (h : bnd A k = some (o, p, c)) : (∃ e p1 c1, A = some (some [e], p1, c1) ∧ k e p1 c1 = some (o, p, c)) ∨ (∃ o1, A = some (o1, p, c) ∧ o = none) := by
  match A, h with
  | some (some [e], p1, c1), h => exact .inl ⟨e, p1, c1, rfl, h⟩
  | some (some [], p1, c1), h => simp only [bnd, Option.some.injEq, Prod.mk.injEq] at h; obtain ⟨rfl, rfl, rfl⟩ := h; exact .inr ⟨_, rfl, rfl⟩
  | some (some (_ :: _ :: _), p1, c1), h => simp only [bnd, Option.some.injEq, Prod.mk.injEq] at h; obtain ⟨rfl, rfl, rfl⟩ := h; exact .inr ⟨_, rfl, rfl⟩
  | some (none, p1, c1), h => simp only [bnd, Option.some.injEq, Prod.mk.injEq] at h; obtain ⟨rfl, rfl, rfl⟩ := h; exact .inr ⟨_, rfl, rfl⟩
  | none, h => simp [bnd] at h
theorem bndL_any {A : GR} {k : List PE → Nat → List Int → GR} {o : Option (List PE)} {p : Nat} {c : List Int} (h : bndL A k = some (o, p, c)) : (∃ e p1 c1, A = some (some e, p1, c1) ∧ k e p1 c1 = some (o, p, c)) ∨ (∃ o1, A = some (o1, p, c) ∧ o = none) := by
  match A, h with
  | some (some e, p1, c1), h => exact .inl ⟨e, p1, c1, rfl, h⟩
  | some (none, p1, c1), h => simp only [bndL, Option.some.injEq, Prod.mk.injEq] at h; obtain ⟨rfl, rfl, rfl⟩ := h; exact .inr ⟨_, rfl, rfl⟩
  | none, h => simp [bndL] at h
theorem gM_cr (N : Nat → Wd) : ∀ (f : Nat) (k : Kd) (p : Nat) (cr : List Int) (o : Option (List PE)) (p' : Nat) (cr' : List Int), gM N f k p cr = some (o, p', cr') → p ≤ p' ∧ cr'.length + p ≤ cr.length + p'
  | 0, _, _, _, _, _, _, h => by cases h
  | f + 1, k, p, cr, o, p', cr', h => by
    have ih := gM_cr N f
    have tr : ∀ {a b c : Nat} {x y z : List Int}, (a ≤ b ∧ y.length + a ≤ x.length + b) → (b ≤ c ∧ z.length + b ≤ y.length + c) → (a ≤ c ∧ z.length + a ≤ x.length + c) := fun h1 h2 => ⟨by omega, by omega⟩
    have st : ∀ {a b c : Nat} {x y : List Int}, a ≤ b → (b ≤ c ∧ y.length + b ≤ x.length + c) → (a ≤ c ∧ y.length + a ≤ x.length + c) := fun h1 h2 => ⟨by omega, by omega⟩
    have rf : ∀ {a b : Nat} {x : List Int}, a ≤ b → (a ≤ b ∧ x.length + a ≤ x.length + b) := fun h => ⟨h, by omega⟩
    cases k with
    | lev i => cases i with
      | zero => rw [gM] at h; exact ih _ _ _ _ _ _ h
      | succ i =>
        rw [gM] at h
        rcases bnd_any h with ⟨e, p1, c1, h1, h2⟩ | ⟨o1, h1, _⟩
        · exact tr (ih _ _ _ _ _ _ h1) (ih _ _ _ _ _ _ h2)
        · exact ih _ _ _ _ _ _ h1
    | lop i e =>
      rw [gM] at h
      split at h
      · rcases bnd_any h with ⟨e, p1, c1, h1, h2⟩ | ⟨o1, h1, _⟩
        · exact tr (st (by omega) (ih _ _ _ _ _ _ h1)) (ih _ _ _ _ _ _ h2)
        · exact st (by omega) (ih _ _ _ _ _ _ h1)
      · cases h; exact rf (Nat.le_refl _)
    | exp =>
      rw [gM] at h
      rcases bnd_any h with ⟨e, p1, c1, h1, h2⟩ | ⟨o1, h1, _⟩
      · refine tr (ih _ _ _ _ _ _ h1) ?_
        split at h2
        · rcases bnd_any h2 with ⟨e2, p2, c2, h3, h4⟩ | ⟨o2, h3, _⟩
          · refine tr (st (by omega) (ih _ _ _ _ _ _ h3)) ?_
            split at h4
            · rcases bnd_any h4 with ⟨e3, p3, c3, h5, h6⟩ | ⟨o3, h5, _⟩
              · cases h6; exact st (by omega) (ih _ _ _ _ _ _ h5)
              · exact st (by omega) (ih _ _ _ _ _ _ h5)
            · cases h4; exact rf (Nat.le_refl _)
          · exact st (by omega) (ih _ _ _ _ _ _ h3)
        · cases h2; exact rf (Nat.le_refl _)
      · exact ih _ _ _ _ _ _ h1
    | one =>
      rw [gM] at h
      split at h
      · exact st (by omega) (ih _ _ _ _ _ _ h)
      · split at h
        · rcases bnd_any h with ⟨e, p1, c1, h1, h2⟩ | ⟨o1, h1, _⟩
          · cases h2; exact st (by omega) (ih _ _ _ _ _ _ h1)
          · exact st (by omega) (ih _ _ _ _ _ _ h1)
        · split at h
          · split at h
            · exact st (by omega) (ih _ _ _ _ _ _ h)
            · rcases bnd_any h with ⟨e, p1, c1, h1, h2⟩ | ⟨o1, h1, _⟩
              · refine tr (st (by omega) (ih _ _ _ _ _ _ h1)) ?_
                split at h2
                · cases h2; exact rf (by omega)
                · cases h2; exact rf (Nat.le_refl _)
              · exact st (by omega) (ih _ _ _ _ _ _ h1)
          · exact ih _ _ _ _ _ _ h
    | kw line acc =>
      rw [gM] at h
      split at h
      · exact st (by omega) (ih _ _ _ _ _ _ h)
      · split at h
        · rcases bnd_any h with ⟨e, p1, c1, h1, h2⟩ | ⟨o1, h1, _⟩
          · cases h2; exact st (by omega) (ih _ _ _ _ _ _ h1)
          · exact st (by omega) (ih _ _ _ _ _ _ h1)
        · cases h; exact rf (Nat.le_refl _)
    | alone =>
      rw [gM] at h
      split at h
      · cases h; exact rf (by omega)
      · split at h
        · split at h
          · rcases bndL_any h with ⟨e, p1, c1, h1, h2⟩ | ⟨o1, h1, _⟩
            · obtain ⟨a1, a2⟩ := ih _ _ _ _ _ _ h1
              cases h2
              refine ⟨by omega, ?_⟩
              split
              · rw [List.length_append]; simp only [List.length_cons, List.length_nil]; omega
              · omega
            · exact st (by omega) (ih _ _ _ _ _ _ h1)
          · cases h; exact rf (by omega)
        · cases h; exact rf (Nat.le_refl _)
    | args =>
      rw [gM] at h
      split at h
      · cases h; exact rf (by omega)
      · exact ih _ _ _ _ _ _ h
    | arg acc =>
      rw [gM] at h
      rcases bnd_any h with ⟨e, p1, c1, h1, h2⟩ | ⟨o1, h1, _⟩
      · refine tr (ih _ _ _ _ _ _ h1) ?_
        split at h2
        · exact st (by omega) (ih _ _ _ _ _ _ h2)
        · split at h2
          · cases h2; exact rf (by omega)
          · cases h2; exact rf (Nat.le_refl _)
      · exact ih _ _ _ _ _ _ h1
end Go.Proofs.YtmpkgjonbjpohaaGreatDoor
