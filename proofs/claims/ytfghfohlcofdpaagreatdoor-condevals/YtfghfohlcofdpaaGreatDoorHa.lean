/-
  A condition in brackets, on lists.
-/
import Derived.Test.YtfghfohlcofdpaaGreatDoorBb
namespace Go.Proofs.YtfghfohlcofdpaaGreatDoor
open Go Go.RowKit
set_option linter.unusedVariables false
set_option linter.unusedSimpArgs false

/-- A bracket that waits. -/
def brW : Wt := ⟨[40], 0, ⟨0, false⟩, false, false⟩
/-- What waits below a bracket: nothing of it skips. -/
def Bot (bot : List Wt) : Prop := ∃ tl, bot = brW :: tl ∧ ∀ y ∈ tl, y.skips = false
theorem Bot.sk {bot : List Wt} (h : Bot bot) (st : List Wt) : skN (st ++ bot) = skN st := by
  obtain ⟨tl, rfl, ht⟩ := h
  unfold skN
  rw [List.countP_append]
  have : (brW :: tl).countP (·.skips) = 0 := List.countP_eq_zero.2 (fun y hy => by
    rcases List.mem_cons.1 hy with rfl | hy
    · decide
    · simp [ht y hy])
  rw [this, Nat.add_zero]
theorem settle_app {bot : List Wt} (hb : Bot bot) (l : Int) (hl : 1 ≤ l) : ∀ (st : List Wt) (und : Bool) (v : Vl), settleM l (st ++ bot) und v = ((settleM l st und v).1 ++ bot, (settleM l st und v).2.1, (settleM l st und v).2.2)
  | [], und, v => by
    obtain ⟨tl, rfl, ht⟩ := hb
    have : ¬ l ≤ brW.lev := by show ¬ l ≤ 0; omega
    have e : settleM l (brW :: tl) und v = (brW :: tl, und, v) := by rw [settleM, if_neg this]
    rw [List.nil_append, e]
    rfl
  | x :: st, und, v => by
    rw [List.cons_append, settleM, settleM]
    by_cases h : l ≤ x.lev
    · rw [if_pos h, if_pos h, hb.sk st]
      exact settle_app hb l hl st _ _
    · rw [if_neg h, if_neg h]
      rfl
theorem leave_app {bot : List Wt} (hb : Bot bot) (st : List Wt) : leaveM [63] (st ++ bot) = ((leaveM [63] st).1, (leaveM [63] st).2.1, (leaveM [63] st).2.2 ++ bot) := by
  cases st with
  | nil =>
    obtain ⟨tl, rfl, ht⟩ := hb
    rfl
  | cons x q =>
    rw [List.cons_append, leaveM, leaveM]
    split <;> rfl
/-- How many brackets wait. -/
def opn (st : List Wt) : Nat := st.countP (fun y => y.sign == [40])
/-- A bracket that waits is open. -/
def Inv (st : List Wt) : Prop := ∀ y ∈ st, y.sign = [40] → y.lev = 0
theorem settle_opn (l : Int) (hl : 1 ≤ l) : ∀ (st : List Wt) (und : Bool) (v : Vl), Inv st → opn (settleM l st und v).1 = opn st ∧ Inv (settleM l st und v).1
  | [], und, v, h => ⟨rfl, h⟩
  | x :: st, und, v, h => by
    have ht : Inv st := fun y hy => h y (by simp [hy])
    rw [settleM]
    by_cases hx : l ≤ x.lev
    · rw [if_pos hx]
      have := settle_opn l hl st (und || (!(ofM x v).2 && skN st == 0)) (ofM x v).1 ht
      refine ⟨?_, this.2⟩
      rw [this.1]
      have hs : x.sign ≠ [40] := fun e => by have := h x (by simp) e; omega
      simp [opn, hs]
    · rw [if_neg hx]
      exact ⟨rfl, h⟩
theorem levM_pos (s : List UInt8) : levM s = 0 ∨ 1 ≤ levM s := by
  unfold levM
  repeat' split
  all_goals omega
theorem levM_br (s : List UInt8) (h : levM s ≠ 0) : s ≠ [40] ∧ s ≠ [41] := ⟨fun e => by subst e; exact h rfl, fun e => by subst e; exact h rfl⟩
theorem reck_fail (opM : Gt → Vl × Bool) (l : List Gt) (st : List Wt) (und : Bool) (v : Vl) : (reckM opM l st und (some (v, false))).2 = false := by
  cases l with
  | nil => simp [reckM, finM]
  | cons t r => simp [reckM, finM]
theorem ahead_app (t : Gt) (st bot : List Wt) : aheadM t (st ++ bot) = ((aheadM t st).1, (aheadM t st).2 ++ bot) := by
  unfold aheadM
  repeat' split
  all_goals rfl
theorem behind_app {bot : List Wt} (hb : Bot bot) (t : Gt) (st : List Wt) (und : Bool) (v : Vl) : behindM t (st ++ bot) und v = ((behindM t st und v).1, (behindM t st und v).2.1 ++ bot, (behindM t st und v).2.2) := by
  unfold behindM
  by_cases hk : (t.kind != 5) = true
  · rw [if_pos hk, if_pos hk]
  · rw [if_neg hk, if_neg hk]
    by_cases h63 : (t.s == [63]) = true
    · rw [if_pos h63, if_pos h63, settle_app hb 2 (by decide)]
      rfl
    · rw [if_neg h63, if_neg h63]
      by_cases h58 : (t.s == [58]) = true
      · rw [if_pos h58, if_pos h58, settle_app hb 1 (by decide)]
        simp only
        rw [leave_app hb]
        simp only
        split <;> rfl
      · rw [if_neg h58, if_neg h58]
        by_cases h0 : (levM t.s == 0) = true
        · rw [if_pos h0, if_pos h0]
        · rw [if_neg h0, if_neg h0]
          have hl : 1 ≤ levM t.s := by
            rcases levM_pos t.s with h | h
            · exact absurd (by simp [h]) h0
            · exact h
          rw [settle_app hb _ hl]
          rfl
theorem behind_opn (t : Gt) (st : List Wt) (und : Bool) (v : Vl) (h : Inv st) (ht : (behindM t st und v).1 = true) : opn (behindM t st und v).2.1 = opn st ∧ Inv (behindM t st und v).2.1 ∧ t.s ≠ [40] ∧ t.s ≠ [41] := by
  unfold behindM at ht ⊢
  by_cases hk : (t.kind != 5) = true
  · rw [if_pos hk] at ht; cases ht
  · rw [if_neg hk] at ht ⊢
    by_cases h63 : (t.s == [63]) = true
    · rw [if_pos h63]
      have e : t.s = [63] := by simpa using h63
      have := settle_opn 2 (by decide) st und v h
      refine ⟨?_, ?_, by rw [e]; decide, by rw [e]; decide⟩
      · rw [← this.1]; rfl
      · intro y hy hs
        rcases List.mem_cons.1 hy with rfl | hy
        · cases hs
        · exact this.2 y hy hs
    · rw [if_neg h63] at ht ⊢
      by_cases h58 : (t.s == [58]) = true
      · rw [if_pos h58] at ht ⊢
        have e : t.s = [58] := by simpa using h58
        have hs := settle_opn 1 (by decide) st und v h
        by_cases hl : (leaveM [63] (settleM 1 st und v).1).2.1 = true
        · rw [if_pos hl]
          generalize (settleM 1 st und v) = Q at *
          obtain ⟨q, u1, v1⟩ := Q
          simp only at hs hl ⊢
          cases q with
          | nil => cases hl
          | cons x q =>
            rw [leaveM] at hl ⊢
            by_cases hx : (x.sign == [63]) = true
            · rw [if_pos hx] at hl ⊢
              have ex : x.sign = [63] := by simpa using hx
              refine ⟨?_, ?_, by rw [e]; decide, by rw [e]; decide⟩
              · rw [← hs.1]; simp [opn, ex]
              · intro y hy hs'
                rcases List.mem_cons.1 hy with rfl | hy
                · cases hs'
                · exact hs.2 y (by simp at hy ⊢; exact .inr hy) hs'
            · rw [if_neg hx] at hl; cases hl
        · rw [if_neg hl] at ht; cases ht
      · rw [if_neg h58] at ht ⊢
        by_cases h0 : (levM t.s == 0) = true
        · rw [if_pos h0] at ht; cases ht
        · rw [if_neg h0]
          have hne : levM t.s ≠ 0 := by simpa using h0
          have hl : 1 ≤ levM t.s := (levM_pos t.s).resolve_left hne
          have hb := levM_br t.s hne
          have := settle_opn (levM t.s) hl st und v h
          refine ⟨?_, ?_, hb.1, hb.2⟩
          · rw [← this.1]; simp [opn, hb.1]
          · intro y hy hs
            rcases List.mem_cons.1 hy with rfl | hy
            · exact absurd hs hb.1
            · exact this.2 y hy hs
/-- Is each bracket closed, from so deep on? -/
def clF : Nat → List Gt → Bool
  | d, [] => d == 0
  | d, t :: r => if t.s == [41] then (if d = 0 then false else clF (d - 1) r) else clF (if t.s == [40] then d + 1 else d) r
/-- A closing bracket. -/
def rpT (f : List UInt8) (li : Int) (sp fi : Bool) : Gt := ⟨5, [41], f, li, sp, fi⟩
/-- What becomes of a condition: nothing, or a value, and whether something was undefined. -/
def Out (X : Option (Vl × Bool)) (R : Vl × Bool) : Prop := match X with
  | none => R.2 = false
  | some (v, u) => R = (v, !u)
def OutB (opM : Gt → Vl × Bool) (X : Option (Vl × Bool)) (rest : List Gt) (tl : List Wt) (R : Vl × Bool) : Prop := match X with
  | none => R.2 = false
  | some (v, u) => R = reckM opM rest tl u (some (v, true))
theorem sim (opM : Gt → Vl × Bool) (hop : ∀ t, t.kind = 5 → (opM t).2 = false) : ∀ (l : List Gt) (st : List Wt) (und : Bool) (m : Option (Vl × Bool)) (d : Nat), Inv st → opn st = d → clF d l = true → (∀ t ∈ l, t.s = [40] ∨ t.s = [41] → t.kind = 5) →
    ∃ X, Out X (reckM opM l st und m) ∧ ∀ tl rest f li sp fi, (∀ y ∈ tl, y.skips = false) → OutB opM X rest tl (reckM opM (l ++ rpT f li sp fi :: rest) (st ++ brW :: tl) und m)
  | [], st, und, none, d, hi, hd, hc, hk => by
    refine ⟨none, rfl, fun tl rest f li sp fi htl => ?_⟩
    show (reckM opM (rpT f li sp fi :: rest) (st ++ brW :: tl) und none).2 = false
    rw [reckM, show (aheadM (rpT f li sp fi) (st ++ brW :: tl)).1 = false from rfl]
    simp only [Bool.false_eq_true, if_false]
    have hz : opM (rpT f li sp fi) = ((opM (rpT f li sp fi)).1, false) := by rw [← hop (rpT f li sp fi) rfl]
    rw [hz]
    exact reck_fail opM rest _ und _
  | [], st, und, some (v, false), d, hi, hd, hc, hk => ⟨none, reck_fail opM [] st und v, fun tl rest f li sp fi htl => reck_fail opM _ _ und v⟩
  | [], st, und, some (v, true), d, hi, hd, hc, hk => by
    have hd0 : opn st = 0 := by rw [hd]; simpa [clF] using hc
    have hs := settle_opn 1 (by decide) st und v hi
    have key : ∀ tl rest f li sp fi, (∀ y ∈ tl, y.skips = false) → reckM opM (rpT f li sp fi :: rest) (st ++ brW :: tl) und (some (v, true)) =
        reckM opM rest (leaveM [40] ((settleM 1 st und v).1 ++ brW :: tl)).2.2 (settleM 1 st und v).2.1 (some ((settleM 1 st und v).2.2, (leaveM [40] ((settleM 1 st und v).1 ++ brW :: tl)).2.1)) := fun tl rest f li sp fi htl => by
      have hb : Bot (brW :: tl) := ⟨tl, rfl, htl⟩
      have h1 : behindM (rpT f li sp fi) (st ++ brW :: tl) und v = (false, st ++ brW :: tl, und) := rfl
      have h2 : closeM (rpT f li sp fi) (st ++ brW :: tl) und v = ((settleM 1 (st ++ brW :: tl) und v).2.2, (leaveM [40] (settleM 1 (st ++ brW :: tl) und v).1).2.1, (leaveM [40] (settleM 1 (st ++ brW :: tl) und v).1).2.2, (settleM 1 (st ++ brW :: tl) und v).2.1) := rfl
      rw [reckM, h1]
      simp only [if_true, Bool.false_eq_true, if_false]
      rw [h2, settle_app hb 1 (by decide)]
    generalize hq : settleM 1 st und v = Q at *
    obtain ⟨q, u1, v1⟩ := Q
    simp only at hs key
    cases q with
    | nil =>
      refine ⟨some (v1, u1), ?_, fun tl rest f li sp fi htl => ?_⟩
      · show reckM opM [] st und (some (v, true)) = (v1, !u1)
        rw [reckM, finM, hq]
        simp
      · show reckM opM ([] ++ rpT f li sp fi :: rest) _ und _ = reckM opM rest tl u1 (some (v1, true))
        rw [List.nil_append, key tl rest f li sp fi htl]
        rfl
    | cons x q =>
      refine ⟨none, ?_, fun tl rest f li sp fi htl => ?_⟩
      · show (reckM opM [] st und (some (v, true))).2 = false
        rw [reckM, finM, hq]
        simp
      · show (reckM opM ([] ++ rpT f li sp fi :: rest) _ und _).2 = false
        rw [List.nil_append, key tl rest f li sp fi htl]
        have hx : (x.sign == [40]) = false := by
          have := hs.1
          rw [hd0] at this
          have h0 := List.countP_eq_zero.1 this x (by simp)
          simpa using h0
        rw [List.cons_append, leaveM, hx]
        exact reck_fail opM rest _ _ _
  | t :: r, st, und, none, d, hi, hd, hc, hk => by
    have hkr : ∀ t ∈ r, t.s = [40] ∨ t.s = [41] → t.kind = 5 := fun x hx => hk x (by simp [hx])
    cases ha : (aheadM t st).1
    · have hst := aheadM_false ha
      have hn40 : t.s ≠ [40] := fun e => by
        have hk5 := hk t (by simp) (.inl e)
        have : (aheadM t st).1 = true := by unfold aheadM; rw [hk5, e]; rfl
        rw [ha] at this; cases this
      have e1 : reckM opM (t :: r) st und none = reckM opM r st und (some (opM t)) := by rw [reckM, ha]; simp
      have e2 : ∀ tl rest f li sp fi, reckM opM ((t :: r) ++ rpT f li sp fi :: rest) (st ++ brW :: tl) und none = reckM opM (r ++ rpT f li sp fi :: rest) (st ++ brW :: tl) und (some (opM t)) := fun tl rest f li sp fi => by
        rw [List.cons_append, reckM, ahead_app, ha]; simp
      by_cases h41 : t.s = [41]
      · have hf := hop t (hk t (by simp) (.inr h41))
        have hz : opM t = ((opM t).1, false) := by rw [← hf]
        exact ⟨none, by rw [e1, hz]; exact reck_fail opM r st und _, fun tl rest f li sp fi htl => by rw [e2, hz]; exact reck_fail opM _ _ und _⟩
      · have hc' : clF d r = true := by
          rw [clF] at hc
          simpa [h41, hn40] using hc
        obtain ⟨X, h1, h2⟩ := sim opM hop r st und (some (opM t)) d hi hd hc' hkr
        exact ⟨X, by rw [e1]; exact h1, fun tl rest f li sp fi htl => by rw [e2]; exact h2 tl rest f li sp fi htl⟩
    · have e1 : reckM opM (t :: r) st und none = reckM opM r (aheadM t st).2 und none := by rw [reckM, ha]; simp
      have e2 : ∀ tl rest f li sp fi, reckM opM ((t :: r) ++ rpT f li sp fi :: rest) (st ++ brW :: tl) und none = reckM opM (r ++ rpT f li sp fi :: rest) ((aheadM t st).2 ++ brW :: tl) und none := fun tl rest f li sp fi => by
        rw [List.cons_append, reckM, ahead_app, ha]; simp
      have h3 : ∃ d2, opn (aheadM t st).2 = d2 ∧ Inv (aheadM t st).2 ∧ clF d2 r = true := by
        unfold aheadM at ha ⊢
        by_cases hk5 : (t.kind != 5) = true
        · rw [if_pos hk5] at ha; cases ha
        · rw [if_neg hk5] at ha ⊢
          by_cases h40 : (t.s == [40]) = true
          · rw [if_pos h40]
            have e : t.s = [40] := by simpa using h40
            rw [clF, e] at hc
            refine ⟨d + 1, by simp [opn] at hd ⊢; exact hd, fun y hy hs => ?_, by simpa using hc⟩
            rcases List.mem_cons.1 hy with rfl | hy
            · rfl
            · exact hi y hy hs
          · rw [if_neg h40] at ha ⊢
            by_cases hp : (t.s == [43] || t.s == [45] || t.s == [126] || t.s == [33]) = true
            · rw [if_pos hp]
              have hne : t.s ≠ [40] := by simpa using h40
              have hne2 : t.s ≠ [41] := fun e => by rw [e] at hp; cases hp
              refine ⟨d, by simp [opn, hne] at hd ⊢; exact hd, fun y hy hs => ?_, ?_⟩
              · rcases List.mem_cons.1 hy with rfl | hy
                · exact absurd hs hne
                · exact hi y hy hs
              · rw [clF] at hc
                simpa [hne, hne2] using hc
            · rw [if_neg hp] at ha; cases ha
      obtain ⟨d2, g1, g2, g3⟩ := h3
      obtain ⟨X, h1, h2⟩ := sim opM hop r (aheadM t st).2 und none d2 g2 g1 g3 hkr
      exact ⟨X, by rw [e1]; exact h1, fun tl rest f li sp fi htl => by rw [e2]; exact h2 tl rest f li sp fi htl⟩
  | t :: r, st, und, some (v, false), d, hi, hd, hc, hk => ⟨none, reck_fail opM _ st und v, fun tl rest f li sp fi htl => reck_fail opM _ _ und v⟩
  | t :: r, st, und, some (v, true), d, hi, hd, hc, hk => by
    have hkr : ∀ t ∈ r, t.s = [40] ∨ t.s = [41] → t.kind = 5 := fun x hx => hk x (by simp [hx])
    cases hb : (behindM t st und v).1
    · by_cases h41 : t.kind = 5 ∧ t.s = [41]
      · obtain ⟨k5, s41⟩ := h41
        have hbe : ∀ st, behindM t st und v = (false, st, und) := fun st => by unfold behindM; rw [k5, s41]; rfl
        have hcl : ∀ st, closeM t st und v = ((settleM 1 st und v).2.2, (leaveM [40] (settleM 1 st und v).1).2.1, (leaveM [40] (settleM 1 st und v).1).2.2, (settleM 1 st und v).2.1) := fun st => by unfold closeM; rw [k5, s41]; rfl
        have hd1 : d ≠ 0 ∧ clF (d - 1) r = true := by
          rw [clF, s41] at hc
          by_cases h0 : d = 0
          · rw [if_pos h0] at hc; simp at hc
          · rw [if_neg h0] at hc; exact ⟨h0, by simpa using hc⟩
        have hs := settle_opn 1 (by decide) st und v hi
        have e1 : reckM opM (t :: r) st und (some (v, true)) = reckM opM r (leaveM [40] (settleM 1 st und v).1).2.2 (settleM 1 st und v).2.1 (some ((settleM 1 st und v).2.2, (leaveM [40] (settleM 1 st und v).1).2.1)) := by
          rw [reckM, hbe]
          simp only [if_true, Bool.false_eq_true, if_false]
          rw [hcl]
        have e2 : ∀ tl rest f li sp fi, (∀ y ∈ tl, y.skips = false) → reckM opM ((t :: r) ++ rpT f li sp fi :: rest) (st ++ brW :: tl) und (some (v, true)) = reckM opM (r ++ rpT f li sp fi :: rest) (leaveM [40] ((settleM 1 st und v).1 ++ brW :: tl)).2.2 (settleM 1 st und v).2.1 (some ((settleM 1 st und v).2.2, (leaveM [40] ((settleM 1 st und v).1 ++ brW :: tl)).2.1)) := fun tl rest f li sp fi htl => by
          have hb : Bot (brW :: tl) := ⟨tl, rfl, htl⟩
          rw [List.cons_append, reckM, hbe]
          simp only [if_true, Bool.false_eq_true, if_false]
          rw [hcl, settle_app hb 1 (by decide)]
        generalize settleM 1 st und v = Q at *
        obtain ⟨q, u1, v1⟩ := Q
        simp only at hs e1 e2
        cases q with
        | nil => exact absurd (hs.1.symm.trans rfl |>.symm ▸ hd.symm : d = _) (by have := hs.1; rw [hd] at this; simp [opn] at this; omega)
        | cons x q =>
          by_cases hx : (x.sign == [40]) = true
          · have hl : leaveM [40] (x :: q) = (x, true, q) := by rw [leaveM, if_pos hx]
            have hl2 : ∀ tl, leaveM [40] ((x :: q) ++ brW :: tl) = (x, true, q ++ brW :: tl) := fun tl => by rw [List.cons_append, leaveM, if_pos hx]
            have hq : opn q = d - 1 := by
              have := hs.1
              rw [hd] at this
              have hx' : x.sign = [40] := by simpa using hx
              simp [opn, hx'] at this
              simp [opn]; omega
            obtain ⟨X, h1, h2⟩ := sim opM hop r q u1 (some (v1, true)) (d - 1) (fun y hy => hs.2 y (by simp [hy])) hq hd1.2 hkr
            exact ⟨X, by rw [e1, hl]; exact h1, fun tl rest f li sp fi htl => by rw [e2 tl rest f li sp fi htl, hl2]; exact h2 tl rest f li sp fi htl⟩
          · have hl : leaveM [40] (x :: q) = (zeroW, false, x :: q) := by rw [leaveM, if_neg hx]
            have hl2 : ∀ tl, leaveM [40] ((x :: q) ++ brW :: tl) = (zeroW, false, (x :: q) ++ brW :: tl) := fun tl => by rw [List.cons_append, leaveM, if_neg hx]
            exact ⟨none, by rw [e1, hl]; exact reck_fail opM _ _ _ _, fun tl rest f li sp fi htl => by rw [e2 tl rest f li sp fi htl, hl2]; exact reck_fail opM _ _ _ _⟩
      · have hcl : ∀ st und, (closeM t st und v).2.1 = false := fun st und => by
          unfold closeM
          have : (t.kind != 5 || t.s != [41]) = true := by
            by_cases h : t.kind = 5
            · have h2 : t.s ≠ [41] := fun e => h41 ⟨h, e⟩
              simp [h2]
            · simp [h]
          rw [if_pos this]
        refine ⟨none, ?_, fun tl rest f li sp fi htl => ?_⟩
        · show (reckM opM (t :: r) st und (some (v, true))).2 = false
          rw [reckM, hb]
          simp only [if_true, Bool.false_eq_true, if_false]
          rw [hcl]
          exact reck_fail opM _ _ _ _
        · show (reckM opM ((t :: r) ++ rpT f li sp fi :: rest) (st ++ brW :: tl) und (some (v, true))).2 = false
          have hb' : Bot (brW :: tl) := ⟨tl, rfl, htl⟩
          rw [List.cons_append, reckM, behind_app hb', hb]
          simp only [if_true, Bool.false_eq_true, if_false]
          rw [hcl]
          exact reck_fail opM _ _ _ _
    · obtain ⟨g1, g2, g3, g4⟩ := behind_opn t st und v hi hb
      have hc' : clF d r = true := by
        rw [clF] at hc
        simpa [g3, g4] using hc
      obtain ⟨X, h1, h2⟩ := sim opM hop r (behindM t st und v).2.1 (behindM t st und v).2.2 none d g2 (g1.trans hd) hc' hkr
      refine ⟨X, ?_, fun tl rest f li sp fi htl => ?_⟩
      · rw [reckM, hb]
        simpa using h1
      · have hb' : Bot (brW :: tl) := ⟨tl, rfl, htl⟩
        rw [List.cons_append, reckM, behind_app hb', hb]
        simpa using h2 tl rest f li sp fi htl
end Go.Proofs.YtfghfohlcofdpaaGreatDoor
