/-
  What is read bears no list that is too long.
-/
import Derived.Test.YtmpkgjonbjpohaaGreatDoorRv
import Derived.Test.YtmpkgjonbjpohaaGreatDoorR5
namespace Go.Proofs.YtmpkgjonbjpohaaGreatDoor
open Go Go.RowKit
set_option linter.unusedVariables false
set_option linter.unusedSimpArgs false

theorem lnL_nil : lnL [] := by unfold lnL; trivial
theorem lnL_cons {x : PE} {l : List PE} (h : lnP x) (h2 : lnL l) : lnL (x :: l) := by unfold lnL; exact ⟨h, h2⟩
theorem lnL_one {x : PE} (h : lnP x) : lnL [x] := lnL_cons h lnL_nil
theorem lnL_of {x : PE} (h : lnL [x]) : lnP x := h.at' 0 (by simp)
theorem lnL_app : ∀ {l l' : List PE}, lnL l → lnL l' → lnL (l ++ l')
  | [], _, _, h => h
  | x :: l, l', h, h2 => by
    unfold lnL at h
    exact lnL_cons h.1 (lnL_app h.2 h2)
theorem lnP_mk {a b c d : Int} {s : List UInt8} {l : List PE} {n : Int} (h : l.length ≤ 1000000000) (h2 : lnL l) : lnP (.mk a b c d s l n) := by unfold lnP; exact ⟨h, h2⟩
theorem lnP_two {a b c d : Int} {s : List UInt8} {n : Int} {x y : PE} (h : lnP x) (h2 : lnP y) : lnP (.mk a b c d s [x, y] n) := lnP_mk (by simp) (lnL_cons h (lnL_one h2))
theorem lnP_joi {w : Wd} {x y : PE} (h : lnP x) (h2 : lnP y) : lnP (joiP w x y) := by
  unfold joiP
  split
  · exact lnP_two h h2
  · split
    · exact lnP_two h h2
    · split
      · exact lnP_mk (by simp) (lnL_one (lnP_two h h2))
      · split
        · exact lnP_mk (by simp) (lnL_one (lnP_two h h2))
        · exact lnP_two h h2
def kdA (p : Nat) : Kd → Prop
  | .lop _ e => lnP e
  | .arg acc => lnL acc ∧ acc.length ≤ p
  | _ => True
theorem gM_ln (N : Nat → Wd) : ∀ (f : Nat) (k : Kd) (p : Nat) (cr : List Int) (o : Option (List PE)) (p' : Nat) (cr' : List Int), gM N f k p cr = some (o, p', cr') → p' < 1000000000 → kdA p k → ∀ l, o = some l → lnL l ∧ l.length ≤ p' + 1
  | 0, _, _, _, _, _, _, h, _, _, _, _ => by cases h
  | f + 1, k, p, cr, o, p', cr', h, hp, hk, l, ho => by
    subst ho
    have ih : ∀ {k : Kd} {p : Nat} {cr : List Int} {l : List PE} {p' : Nat} {cr' : List Int}, gM N f k p cr = some (some l, p', cr') → p' < 1000000000 → kdA p k → lnL l ∧ l.length ≤ p' + 1 := fun h hp hk => gM_ln N f _ _ _ _ _ _ h hp hk _ rfl
    have mo : ∀ {k : Kd} {p : Nat} {cr : List Int} {o : Option (List PE)} {p' : Nat} {cr' : List Int}, gM N f k p cr = some (o, p', cr') → p ≤ p' := fun h => (gM_cr N f _ _ _ _ _ _ h).1
    have on : ∀ {x : PE} {q : Nat}, lnP x → lnL [x] ∧ [x].length ≤ q + 1 := fun h => ⟨lnL_one h, by simp⟩
    cases k with
    | lev i => cases i with
      | zero => rw [gM] at h; exact ih h hp trivial
      | succ i =>
        rw [gM] at h
        rcases bnd_any h with ⟨e, p1, c1, h1, h2⟩ | ⟨o1, h1, h2⟩
        · exact ih h2 hp (lnL_of (ih h1 (by have := mo h2; omega) trivial).1)
        · cases h2
    | lop i e =>
      rw [gM] at h
      split at h
      · rcases bnd_any h with ⟨e2, p1, c1, h1, h2⟩ | ⟨o1, h1, h2⟩
        · exact ih h2 hp (lnP_joi hk (lnL_of (ih h1 (by have := mo h2; omega) trivial).1))
        · cases h2
      · cases h; exact on hk
    | exp =>
      rw [gM] at h
      rcases bnd_any h with ⟨e, p1, c1, h1, h2⟩ | ⟨o1, h1, h2⟩
      · split at h2
        · rcases bnd_any h2 with ⟨e2, p2, c2, h3, h4⟩ | ⟨o2, h3, h4⟩
          · split at h4
            · rcases bnd_any h4 with ⟨e3, p3, c3, h5, h6⟩ | ⟨o3, h5, h6⟩
              · cases h6
                have m5 := mo h5
                have m3 := mo h3
                exact on (lnP_mk (by simp) (lnL_cons (lnL_of (ih h1 (by omega) trivial).1) (lnL_cons (lnL_of (ih h3 (by omega) trivial).1) (lnL_one (lnL_of (ih h5 (by omega) trivial).1)))))
              · cases h6
            · cases h4
          · cases h4
        · cases h2; exact on (lnL_of (ih h1 hp trivial).1)
      · cases h2
    | one =>
      rw [gM] at h
      split at h
      · exact ih h hp trivial
      · split at h
        · rcases bnd_any h with ⟨e, p1, c1, h1, h2⟩ | ⟨o1, h1, h2⟩
          · cases h2; exact on (lnP_mk (by simp) (lnL_one (lnL_of (ih h1 hp trivial).1)))
          · cases h2
        · split at h
          · split at h
            · exact ih h hp trivial
            · rcases bnd_any h with ⟨e, p1, c1, h1, h2⟩ | ⟨o1, h1, h2⟩
              · split at h2
                · cases h2; exact on (lnL_of (ih h1 (by omega) trivial).1)
                · cases h2
              · cases h2
          · exact ih h hp trivial
    | kw line acc =>
      rw [gM] at h
      split at h
      · exact ih h hp trivial
      · split at h
        · rcases bnd_any h with ⟨e, p1, c1, h1, h2⟩ | ⟨o1, h1, h2⟩
          · cases h2; exact on (lnP_mk (by simp) (lnL_one (lnL_of (ih h1 hp trivial).1)))
          · cases h2
        · cases h
    | alone =>
      rw [gM] at h
      split at h
      · cases h; exact on (lnP_mk (by simp) lnL_nil)
      · split at h
        · split at h
          · rcases bndL_any h with ⟨e, p1, c1, h1, h2⟩ | ⟨o1, h1, h2⟩
            · cases h2
              obtain ⟨a1, a2⟩ := ih h1 hp trivial
              exact on (lnP_mk (by omega) a1)
            · cases h2
          · cases h; exact on (lnP_mk (by simp) lnL_nil)
        · cases h
    | args =>
      rw [gM] at h
      split at h
      · cases h; exact ⟨lnL_nil, by simp⟩
      · exact ih h hp ⟨lnL_nil, by simp⟩
    | arg acc =>
      rw [gM] at h
      obtain ⟨k1, k2⟩ := hk
      rcases bnd_any h with ⟨e, p1, c1, h1, h2⟩ | ⟨o1, h1, h2⟩
      · have m1 := mo h1
        split at h2
        · have m2 := mo h2
          exact ih h2 hp ⟨lnL_app k1 (lnL_one (lnL_of (ih h1 (by omega) trivial).1)), by simp; omega⟩
        · split at h2
          · cases h2
            exact ⟨lnL_app k1 (lnL_one (lnL_of (ih h1 (by omega) trivial).1)), by simp; omega⟩
          · cases h2
      · cases h2
/-- What an expression is read as may be held against another one. -/
theorem exp_ln {N : Nat → Wd} {f p p' : Nat} {cr cr' : List Int} {x : PE} (h : gM N f .exp p cr = some (some [x], p', cr')) (hp : p' ≤ 1000000) : lnP x := lnL_of (gM_ln N f _ _ _ _ _ _ h (by omega) trivial _ rfl).1
end Go.Proofs.YtmpkgjonbjpohaaGreatDoor
