/-
  A condition in brackets where it does not count, on lists.
-/
import Derived.Test.YtfghfohlcofdpaaDoorHb
namespace Go.Proofs.YtfghfohlcofdpaaDoor
open Go Go.RowKit
set_option linter.unusedVariables false
set_option linter.unusedSimpArgs false

theorem settle_und (l : Int) : ∀ (st : List Wt) (u1 u2 : Bool) (v : Vl), (settleM l st u1 v).1 = (settleM l st u2 v).1 ∧ (settleM l st u1 v).2.2 = (settleM l st u2 v).2.2
  | [], u1, u2, v => ⟨rfl, rfl⟩
  | x :: st, u1, u2, v => by
    rw [settleM, settleM]
    by_cases h : l ≤ x.lev
    · rw [if_pos h, if_pos h]
      exact settle_und l st _ _ _
    · rw [if_neg h, if_neg h]
      exact ⟨rfl, rfl⟩
theorem sk_app {tl : List Wt} (hb : 0 < skN tl) (st : List Wt) : (skN (st ++ brW :: tl) == 0) = false := by
  have : 0 < skN (st ++ brW :: tl) := by
    unfold skN at *
    rw [List.countP_append, List.countP_cons]
    omega
  exact beq_false_of_ne (by omega)
theorem settle_appS {tl : List Wt} (hb : 0 < skN tl) (l : Int) (hl : 1 ≤ l) (und' : Bool) : ∀ (st : List Wt) (und : Bool) (v : Vl), settleM l (st ++ brW :: tl) und' v = ((settleM l st und v).1 ++ brW :: tl, und', (settleM l st und v).2.2)
  | [], und, v => by
    have : ¬ l ≤ brW.lev := by show ¬ l ≤ 0; omega
    have e : settleM l (brW :: tl) und' v = (brW :: tl, und', v) := by rw [settleM, if_neg this]
    rw [List.nil_append, e]
    rfl
  | x :: st, und, v => by
    rw [List.cons_append, settleM, settleM]
    by_cases h : l ≤ x.lev
    · rw [if_pos h, if_pos h, sk_app hb st, Bool.and_false, Bool.or_false]
      exact settle_appS hb l hl und' st _ _
    · rw [if_neg h, if_neg h]
      rfl
theorem leave_appS (tl st : List Wt) : leaveM [63] (st ++ brW :: tl) = ((leaveM [63] st).1, (leaveM [63] st).2.1, (leaveM [63] st).2.2 ++ brW :: tl) := by
  cases st with
  | nil => rfl
  | cons x q =>
    rw [List.cons_append, leaveM, leaveM]
    split <;> rfl
theorem behind_appS {tl : List Wt} (hb : 0 < skN tl) (t : Gt) (st : List Wt) (und und' : Bool) (v : Vl) : behindM t (st ++ brW :: tl) und' v = ((behindM t st und v).1, (behindM t st und v).2.1 ++ brW :: tl, und') := by
  unfold behindM
  by_cases hk : (t.kind != 5) = true
  · rw [if_pos hk, if_pos hk]
  · rw [if_neg hk, if_neg hk]
    by_cases h63 : (t.s == [63]) = true
    · rw [if_pos h63, if_pos h63, settle_appS hb 2 (by decide) und' st und v]
      rfl
    · rw [if_neg h63, if_neg h63]
      by_cases h58 : (t.s == [58]) = true
      · rw [if_pos h58, if_pos h58, settle_appS hb 1 (by decide) und' st und v]
        simp only
        rw [leave_appS]
        simp only
        split <;> rfl
      · rw [if_neg h58, if_neg h58]
        by_cases h0 : (levM t.s == 0) = true
        · rw [if_pos h0, if_pos h0]
        · rw [if_neg h0, if_neg h0]
          have hl : 1 ≤ levM t.s := by
            rcases levM_pos t.s with h | h
            · exact absurd (by simp [h]) h0
            · exact h
          rw [settle_appS hb _ hl und' st und v]
          rfl
def OutS (opM : Gt → Vl × Bool) (X : Option (Vl × Bool)) (rest : List Gt) (tl : List Wt) (und' : Bool) (R : Vl × Bool) : Prop := match X with
  | none => R.2 = false
  | some (v, u) => R = reckM opM rest tl und' (some (v, true))
theorem sim2 (opM : Gt → Vl × Bool) (hop : ∀ t, t.kind = 5 → (opM t).2 = false) : ∀ (l : List Gt) (st : List Wt) (und : Bool) (m : Option (Vl × Bool)) (d : Nat), Inv st → opn st = d → clF d l = true → (∀ t ∈ l, t.s = [40] ∨ t.s = [41] → t.kind = 5) →
    ∃ X, Out X (reckM opM l st und m) ∧ ∀ tl rest f li sp fi und', 0 < skN tl → OutS opM X rest tl und' (reckM opM (l ++ rpT f li sp fi :: rest) (st ++ brW :: tl) und' m)
  | [], st, und, none, d, hi, hd, hc, hk => by
    refine ⟨none, rfl, fun tl rest f li sp fi und' htl => ?_⟩
    show (reckM opM (rpT f li sp fi :: rest) (st ++ brW :: tl) und' none).2 = false
    rw [reckM, show (aheadM (rpT f li sp fi) (st ++ brW :: tl)).1 = false from rfl]
    simp only [Bool.false_eq_true, if_false]
    have hz : opM (rpT f li sp fi) = ((opM (rpT f li sp fi)).1, false) := by rw [← hop (rpT f li sp fi) rfl]
    rw [hz]
    exact reck_fail opM rest _ und' _
  | [], st, und, some (v, false), d, hi, hd, hc, hk => ⟨none, reck_fail opM [] st und v, fun tl rest f li sp fi und' htl => reck_fail opM _ _ und' v⟩
  | [], st, und, some (v, true), d, hi, hd, hc, hk => by
    have hd0 : opn st = 0 := by rw [hd]; simpa [clF] using hc
    have hs := settle_opn 1 (by decide) st und v hi
    have key : ∀ tl rest f li sp fi und', 0 < skN tl → reckM opM (rpT f li sp fi :: rest) (st ++ brW :: tl) und' (some (v, true)) =
        reckM opM rest (leaveM [40] ((settleM 1 st und v).1 ++ brW :: tl)).2.2 und' (some ((settleM 1 st und v).2.2, (leaveM [40] ((settleM 1 st und v).1 ++ brW :: tl)).2.1)) := fun tl rest f li sp fi und' htl => by
      have h1 : behindM (rpT f li sp fi) (st ++ brW :: tl) und' v = (false, st ++ brW :: tl, und') := rfl
      have h2 : closeM (rpT f li sp fi) (st ++ brW :: tl) und' v = ((settleM 1 (st ++ brW :: tl) und' v).2.2, (leaveM [40] (settleM 1 (st ++ brW :: tl) und' v).1).2.1, (leaveM [40] (settleM 1 (st ++ brW :: tl) und' v).1).2.2, (settleM 1 (st ++ brW :: tl) und' v).2.1) := rfl
      rw [reckM, h1]
      simp only [if_true, Bool.false_eq_true, if_false]
      rw [h2, settle_appS htl 1 (by decide) und' st und v]
    generalize hq : settleM 1 st und v = Q at *
    obtain ⟨q, u1, v1⟩ := Q
    simp only at hs key
    cases q with
    | nil =>
      refine ⟨some (v1, u1), ?_, fun tl rest f li sp fi und' htl => ?_⟩
      · show reckM opM [] st und (some (v, true)) = (v1, !u1)
        rw [reckM, finM, hq]
        simp
      · show reckM opM ([] ++ rpT f li sp fi :: rest) _ und' _ = reckM opM rest tl und' (some (v1, true))
        rw [List.nil_append, key tl rest f li sp fi und' htl]
        rfl
    | cons x q =>
      refine ⟨none, ?_, fun tl rest f li sp fi und' htl => ?_⟩
      · show (reckM opM [] st und (some (v, true))).2 = false
        rw [reckM, finM, hq]
        simp
      · show (reckM opM ([] ++ rpT f li sp fi :: rest) _ und' _).2 = false
        rw [List.nil_append, key tl rest f li sp fi und' htl]
        have hx : (x.sign == [40]) = false := by
          have := hs.1
          rw [hd0] at this
          have h0 := List.countP_eq_zero.1 this x (by simp)
          simpa using h0
        rw [List.cons_append, leaveM, hx]
        exact reck_fail opM rest _ _ _
  | t :: r, st, und, none, d, hi, hd, hc, hk => by
    have hkr : ∀ t ∈ r, t.s = [40] ∨ t.s = [41] → t.kind = 5 := fun x hx => hk x (by simp [hx])
    cases ha : (aheadM t st).1
    · have hst := aheadM_false ha
      have hn40 : t.s ≠ [40] := fun e => by
        have hk5 := hk t (by simp) (.inl e)
        have : (aheadM t st).1 = true := by unfold aheadM; rw [hk5, e]; rfl
        rw [ha] at this; cases this
      have e1 : reckM opM (t :: r) st und none = reckM opM r st und (some (opM t)) := by rw [reckM, ha]; simp
      have e2 : ∀ tl rest f li sp fi und', reckM opM ((t :: r) ++ rpT f li sp fi :: rest) (st ++ brW :: tl) und' none = reckM opM (r ++ rpT f li sp fi :: rest) (st ++ brW :: tl) und' (some (opM t)) := fun tl rest f li sp fi und' => by
        rw [List.cons_append, reckM, ahead_app, ha]; simp
      by_cases h41 : t.s = [41]
      · have hf := hop t (hk t (by simp) (.inr h41))
        have hz : opM t = ((opM t).1, false) := by rw [← hf]
        exact ⟨none, by rw [e1, hz]; exact reck_fail opM r st und _, fun tl rest f li sp fi und' htl => by rw [e2, hz]; exact reck_fail opM _ _ und' _⟩
      · have hc' : clF d r = true := by
          rw [clF] at hc
          simpa [h41, hn40] using hc
        obtain ⟨X, h1, h2⟩ := sim2 opM hop r st und (some (opM t)) d hi hd hc' hkr
        exact ⟨X, by rw [e1]; exact h1, fun tl rest f li sp fi und' htl => by rw [e2]; exact h2 tl rest f li sp fi und' htl⟩
    · have e1 : reckM opM (t :: r) st und none = reckM opM r (aheadM t st).2 und none := by rw [reckM, ha]; simp
      have e2 : ∀ tl rest f li sp fi und', reckM opM ((t :: r) ++ rpT f li sp fi :: rest) (st ++ brW :: tl) und' none = reckM opM (r ++ rpT f li sp fi :: rest) ((aheadM t st).2 ++ brW :: tl) und' none := fun tl rest f li sp fi und' => by
        rw [List.cons_append, reckM, ahead_app, ha]; simp
      have h3 : ∃ d2, opn (aheadM t st).2 = d2 ∧ Inv (aheadM t st).2 ∧ clF d2 r = true := by
        unfold aheadM at ha ⊢
        by_cases hk5 : (t.kind != 5) = true
        · rw [if_pos hk5] at ha; cases ha
        · rw [if_neg hk5] at ha ⊢
          by_cases h40 : (t.s == [40]) = true
          · rw [if_pos h40]
            have e : t.s = [40] := by simpa using h40
            rw [clF, e] at hc
            refine ⟨d + 1, by simp [opn] at hd ⊢; exact hd, fun y hy hs => ?_, by simpa using hc⟩
            rcases List.mem_cons.1 hy with rfl | hy
            · rfl
            · exact hi y hy hs
          · rw [if_neg h40] at ha ⊢
            by_cases hp : (t.s == [43] || t.s == [45] || t.s == [126] || t.s == [33]) = true
            · rw [if_pos hp]
              have hne : t.s ≠ [40] := by simpa using h40
              have hne2 : t.s ≠ [41] := fun e => by rw [e] at hp; cases hp
              refine ⟨d, by simp [opn, hne] at hd ⊢; exact hd, fun y hy hs => ?_, ?_⟩
              · rcases List.mem_cons.1 hy with rfl | hy
                · exact absurd hs hne
                · exact hi y hy hs
              · rw [clF] at hc
                simpa [hne, hne2] using hc
            · rw [if_neg hp] at ha; cases ha
      obtain ⟨d2, g1, g2, g3⟩ := h3
      obtain ⟨X, h1, h2⟩ := sim2 opM hop r (aheadM t st).2 und none d2 g2 g1 g3 hkr
      exact ⟨X, by rw [e1]; exact h1, fun tl rest f li sp fi und' htl => by rw [e2]; exact h2 tl rest f li sp fi und' htl⟩
  | t :: r, st, und, some (v, false), d, hi, hd, hc, hk => ⟨none, reck_fail opM _ st und v, fun tl rest f li sp fi und' htl => reck_fail opM _ _ und' v⟩
  | t :: r, st, und, some (v, true), d, hi, hd, hc, hk => by
    have hkr : ∀ t ∈ r, t.s = [40] ∨ t.s = [41] → t.kind = 5 := fun x hx => hk x (by simp [hx])
    cases hb : (behindM t st und v).1
    · by_cases h41 : t.kind = 5 ∧ t.s = [41]
      · obtain ⟨k5, s41⟩ := h41
        have hbe : ∀ st und, behindM t st und v = (false, st, und) := fun st und => by unfold behindM; rw [k5, s41]; rfl
        have hcl : ∀ st und, closeM t st und v = ((settleM 1 st und v).2.2, (leaveM [40] (settleM 1 st und v).1).2.1, (leaveM [40] (settleM 1 st und v).1).2.2, (settleM 1 st und v).2.1) := fun st und => by unfold closeM; rw [k5, s41]; rfl
        have hd1 : d ≠ 0 ∧ clF (d - 1) r = true := by
          rw [clF, s41] at hc
          by_cases h0 : d = 0
          · rw [if_pos h0] at hc; simp at hc
          · rw [if_neg h0] at hc; exact ⟨h0, by simpa using hc⟩
        have hs := settle_opn 1 (by decide) st und v hi
        have e1 : reckM opM (t :: r) st und (some (v, true)) = reckM opM r (leaveM [40] (settleM 1 st und v).1).2.2 (settleM 1 st und v).2.1 (some ((settleM 1 st und v).2.2, (leaveM [40] (settleM 1 st und v).1).2.1)) := by
          rw [reckM, hbe]
          simp only [if_true, Bool.false_eq_true, if_false]
          rw [hcl]
        have e2 : ∀ tl rest f li sp fi und', 0 < skN tl → reckM opM ((t :: r) ++ rpT f li sp fi :: rest) (st ++ brW :: tl) und' (some (v, true)) = reckM opM (r ++ rpT f li sp fi :: rest) (leaveM [40] ((settleM 1 st und v).1 ++ brW :: tl)).2.2 und' (some ((settleM 1 st und v).2.2, (leaveM [40] ((settleM 1 st und v).1 ++ brW :: tl)).2.1)) := fun tl rest f li sp fi und' htl => by
          rw [List.cons_append, reckM, hbe]
          simp only [if_true, Bool.false_eq_true, if_false]
          rw [hcl, settle_appS htl 1 (by decide) und' st und v]
        generalize settleM 1 st und v = Q at *
        obtain ⟨q, u1, v1⟩ := Q
        simp only at hs e1 e2
        cases q with
        | nil => exact absurd (hs.1.symm.trans rfl |>.symm ▸ hd.symm : d = _) (by have := hs.1; rw [hd] at this; simp [opn] at this; omega)
        | cons x q =>
          by_cases hx : (x.sign == [40]) = true
          · have hl : leaveM [40] (x :: q) = (x, true, q) := by rw [leaveM, if_pos hx]
            have hl2 : ∀ tl, leaveM [40] ((x :: q) ++ brW :: tl) = (x, true, q ++ brW :: tl) := fun tl => by rw [List.cons_append, leaveM, if_pos hx]
            have hq : opn q = d - 1 := by
              have := hs.1
              rw [hd] at this
              have hx' : x.sign = [40] := by simpa using hx
              simp [opn, hx'] at this
              simp [opn]; omega
            obtain ⟨X, h1, h2⟩ := sim2 opM hop r q u1 (some (v1, true)) (d - 1) (fun y hy => hs.2 y (by simp [hy])) hq hd1.2 hkr
            exact ⟨X, by rw [e1, hl]; exact h1, fun tl rest f li sp fi und' htl => by rw [e2 tl rest f li sp fi und' htl, hl2]; exact h2 tl rest f li sp fi und' htl⟩
          · have hl : leaveM [40] (x :: q) = (zeroW, false, x :: q) := by rw [leaveM, if_neg hx]
            have hl2 : ∀ tl, leaveM [40] ((x :: q) ++ brW :: tl) = (zeroW, false, (x :: q) ++ brW :: tl) := fun tl => by rw [List.cons_append, leaveM, if_neg hx]
            exact ⟨none, by rw [e1, hl]; exact reck_fail opM _ _ _ _, fun tl rest f li sp fi und' htl => by rw [e2 tl rest f li sp fi und' htl, hl2]; exact reck_fail opM _ _ _ _⟩
      · have hcl : ∀ st und, (closeM t st und v).2.1 = false := fun st und => by
          unfold closeM
          have : (t.kind != 5 || t.s != [41]) = true := by
            by_cases h : t.kind = 5
            · have h2 : t.s ≠ [41] := fun e => h41 ⟨h, e⟩
              simp [h2]
            · simp [h]
          rw [if_pos this]
        refine ⟨none, ?_, fun tl rest f li sp fi und' htl => ?_⟩
        · show (reckM opM (t :: r) st und (some (v, true))).2 = false
          rw [reckM, hb]
          simp only [if_true, Bool.false_eq_true, if_false]
          rw [hcl]
          exact reck_fail opM _ _ _ _
        · show (reckM opM ((t :: r) ++ rpT f li sp fi :: rest) (st ++ brW :: tl) und' (some (v, true))).2 = false
          rw [List.cons_append, reckM, behind_appS htl t st und und' v, hb]
          simp only [if_true, Bool.false_eq_true, if_false]
          rw [hcl]
          exact reck_fail opM _ _ _ _
    · obtain ⟨g1, g2, g3, g4⟩ := behind_opn t st und v hi hb
      have hc' : clF d r = true := by
        rw [clF] at hc
        simpa [g3, g4] using hc
      obtain ⟨X, h1, h2⟩ := sim2 opM hop r (behindM t st und v).2.1 (behindM t st und v).2.2 none d g2 (g1.trans hd) hc' hkr
      refine ⟨X, ?_, fun tl rest f li sp fi und' htl => ?_⟩
      · rw [reckM, hb]
        simpa using h1
      · rw [List.cons_append, reckM, behind_appS htl t st und und' v, hb]
        simpa using h2 tl rest f li sp fi und' htl
end Go.Proofs.YtfghfohlcofdpaaDoor
