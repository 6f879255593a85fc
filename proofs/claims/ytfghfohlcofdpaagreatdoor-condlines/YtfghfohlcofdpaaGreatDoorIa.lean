/-
  The document's own way through a condition, as a relation; the program's answers are the same, on lists.
-/
import Derived.Test.YtfghfohlcofdpaaGreatDoorHb
namespace Go.Proofs.YtfghfohlcofdpaaGreatDoor
open Go Go.RowKit
set_option linter.unusedVariables false
set_option linter.unusedSimpArgs false

/-- Is a token this sign? -/
def isS (s : List UInt8) (t : Gt) : Bool := t.kind == 5 && t.s == s
/-- Does a sign stand next? -/
def nxS (s : List UInt8) : List Gt → Bool
  | [] => false
  | t :: _ => isS s t
def preS (t : Gt) : Bool := isS [43] t || isS [45] t || isS [126] t || isS [33] t
/-- How a binary operator binds; 0: there stands none. -/
def nxL : List Gt → Int
  | [] => 0
  | t :: _ => if t.kind == 5 then levM t.s else 0
inductive Kd where
  | front | atom | chain (n : Int) | loop (n : Int) (v : Vl) | choice
/-- A binary operator that waits. -/
def bx (t : Gt) (v : Vl) : Wt := ⟨t.s, levM t.s, v, false, skipsM (levM t.s) v.b⟩
/-- What is chosen. -/
def outM (v a b : Vl) : Vl := ⟨if v.b != 0 then a.b else b.b, a.u || b.u⟩
/-- What the document makes of tokens: its value, what is left, and whether all was right. -/
inductive Pr : Kd → Bool → List Gt → Vl → List Gt → Bool → Prop where
  | frontPre {live t r v rest k} : preS t = true → Pr .front live r v rest k → Pr .front live (t :: r) (prefM t.s v) rest k
  | frontAtom {live l v rest k} : (∀ t r, l = t :: r → preS t = false) → Pr .atom live l v rest k → Pr .front live l v rest k
  | atomBr {live t r v c rest} : isS [40] t = true → isS [41] c = true → Pr .choice live r v (c :: rest) true → Pr .atom live (t :: r) v rest true
  | atomBrNo {live t r v rest k v' rest'} : isS [40] t = true → Pr .choice live r v rest k → (k = false ∨ nxS [41] rest = false) → Pr .atom live (t :: r) v' rest' false
  | atomNil {live v rest} : Pr .atom live [] v rest false
  | atomOp {live t r} : isS [40] t = false → (opT t).2 = true → Pr .atom live (t :: r) (opT t).1 r true
  | atomOpNo {live t r v rest} : isS [40] t = false → (opT t).2 = false → Pr .atom live (t :: r) v rest false
  | chain {n live l v r w rest k} : Pr .front live l v r true → Pr (.loop n v) live r w rest k → Pr (.chain n) live l w rest k
  | chainNo {n live l v r v' rest} : Pr .front live l v r false → Pr (.chain n) live l v' rest false
  | loopEnd {n v live l} : nxL l = 0 ∨ nxL l < n → Pr (.loop n v) live l v l true
  | loopOp {n v live t r w r' v' rest k} : nxL (t :: r) ≠ 0 → n ≤ nxL (t :: r) → Pr (.chain (levM t.s + 1)) (live && !skipsM (levM t.s) v.b) r w r' true → (live = true → (ofM (bx t v) w).2 = true) → Pr (.loop n (ofM (bx t v) w).1) live r' v' rest k → Pr (.loop n v) live (t :: r) v' rest k
  | loopNo {n v live t r w r' v' rest} : nxL (t :: r) ≠ 0 → n ≤ nxL (t :: r) → Pr (.chain (levM t.s + 1)) (live && !skipsM (levM t.s) v.b) r w r' false → Pr (.loop n v) live (t :: r) v' rest false
  | loopUnd {n v live t r w r' v' rest} : nxL (t :: r) ≠ 0 → n ≤ nxL (t :: r) → Pr (.chain (levM t.s + 1)) (live && !skipsM (levM t.s) v.b) r w r' true → live = true → (ofM (bx t v) w).2 = false → Pr (.loop n v) live (t :: r) v' rest false
  | plain {live l v rest} : Pr (.chain 2) live l v rest true → nxS [63] rest = false → Pr .choice live l v rest true
  | no {live l v rest v' rest'} : Pr (.chain 2) live l v rest false → Pr .choice live l v' rest' false
  | ask {live l v q r1 a c r2 b rest k} : Pr (.chain 2) live l v (q :: r1) true → isS [63] q = true → Pr .choice (live && v.b != 0) r1 a (c :: r2) true → isS [58] c = true → Pr .choice (live && v.b == 0) r2 b rest k → Pr .choice live l (outM v a b) rest k
  | askNo {live l v q r1 a r2 k v' rest'} : Pr (.chain 2) live l v (q :: r1) true → isS [63] q = true → Pr .choice (live && v.b != 0) r1 a r2 k → (k = false ∨ nxS [58] r2 = false) → Pr .choice live l v' rest' false
theorem settle_mono (l : Int) : ∀ (st : List Wt) (v : Vl), (settleM l st true v).2.1 = true
  | [], v => rfl
  | x :: st, v => by
    rw [settleM]
    by_cases h : l ≤ x.lev
    · rw [if_pos h, Bool.true_or]; exact settle_mono l st _
    · rw [if_neg h]
theorem behind_mono (t : Gt) (st : List Wt) (v : Vl) : (behindM t st true v).2.2 = true := by
  unfold behindM
  have h1 := settle_mono 1 st v
  have h2 := settle_mono 2 st v
  have h3 := settle_mono (levM t.s) st v
  repeat' split
  all_goals first | rfl | exact h1 | exact h2 | exact h3
theorem close_mono (t : Gt) (st : List Wt) (v : Vl) : (closeM t st true v).2.2.2 = true := by
  unfold closeM
  split
  · rfl
  · exact settle_mono 1 st v
theorem reck_und (opM : Gt → Vl × Bool) : ∀ (l : List Gt) (st : List Wt) (m : Option (Vl × Bool)), (reckM opM l st true m).2 = false
  | [], st, none => rfl
  | t :: r, st, none => by
    rw [reckM]
    split
    · exact reck_und opM r _ none
    · exact reck_und opM r _ _
  | [], st, some (v, ok) => by
    rw [reckM, finM, settle_mono 1 st v]
    simp
  | t :: r, st, some (v, ok) => by
    rw [reckM]
    split
    · split
      · rw [behind_mono]; exact reck_und opM r _ none
      · rw [behind_mono, close_mono]; exact reck_und opM r _ _
    · rw [finM, settle_mono 1 st v]; simp
/-- What waits above a stack comes to a value there, for all that binds no tighter. -/
def Abs (k : Int) (st P : List Wt) (w : Vl) (uc : Bool) (v : Vl) : Prop := ∀ l, 1 ≤ l → l ≤ k → settleM l (P ++ st) uc w = settleM l st false v
theorem Abs.nil (k : Int) (st : List Wt) (v : Vl) : Abs k st [] v false v := fun l _ _ => rfl
theorem Abs.le {k k' : Int} {st P : List Wt} {w v : Vl} {uc : Bool} (h : Abs k st P w uc v) (hk : k' ≤ k) : Abs k' st P w uc v := fun l h1 h2 => h l h1 (by omega)
/-- What stands last binds less. -/
def Top (k : Int) (st : List Wt) : Prop := ∀ x q, st = x :: q → x.lev < k
theorem settle_top {l k : Int} {st : List Wt} (h : Top k st) (hl : k ≤ l) (u : Bool) (v : Vl) : settleM l st u v = (st, u, v) := by
  cases st with
  | nil => rfl
  | cons x q =>
    have := h x q rfl
    rw [settleM, if_neg (by omega)]
theorem skN_cons' (x : Wt) (st : List Wt) : skN (x :: st) = skN st + (if x.skips then 1 else 0) := by
  unfold skN
  rw [List.countP_cons]
  cases x.skips <;> simp
theorem skN_pos (st : List Wt) : 0 ≤ skN st := by unfold skN; omega
theorem live_cons {live : Bool} {st : List Wt} (h : live = true ↔ skN st = 0) (x : Wt) : (live && !x.skips) = true ↔ skN (x :: st) = 0 := by
  have := skN_pos st
  rw [skN_cons']
  cases hx : x.skips
  · simp [h]
  · simp; omega
/-- Behind an operand, what can't go on fails. -/
theorem stop_fail {l : List Gt} {st : List Wt} (u : Bool) (v : Vl) (h0 : nxL l = 0) (h63 : nxS [63] l = false) (h58 : nxS [58] l = true → (leaveM [63] (settleM 1 st u v).1).2.1 = false) (h41 : nxS [41] l = true → (leaveM [40] (settleM 1 st u v).1).2.1 = false) (hn : l = [] → (settleM 1 st u v).1 ≠ []) :
    (reckM opT l st u (some (v, true))).2 = false := by
  cases l with
  | nil =>
    rw [reckM, finM]
    have := hn rfl
    cases hq : (settleM 1 st u v).1 with
    | nil => exact absurd hq this
    | cons x q => simp
  | cons t r =>
    rw [reckM]
    simp only [if_true]
    by_cases hk : t.kind = 5
    · have k5 : (t.kind == 5) = true := by simp [hk]
      have k5n : (t.kind != 5) = false := by simp [hk]
      simp only [nxL, k5, if_true] at h0
      simp only [nxS, isS, k5, Bool.true_and] at h63 h58 h41
      have hb : (behindM t st u v).1 = false := by
        unfold behindM
        rw [k5n, h63]
        simp only [Bool.false_eq_true, if_false]
        by_cases hs : (t.s == [58]) = true
        · rw [if_pos hs, h58 hs]; rfl
        · rw [if_neg hs, h0]; rfl
      rw [hb]
      simp only [Bool.false_eq_true, if_false]
      by_cases hs : (t.s == [41]) = true
      · have e : t.s = [41] := by simpa using hs
        have hbe : behindM t st u v = (false, st, u) := by unfold behindM; rw [k5n, e]; rfl
        have hce : closeM t st u v = ((settleM 1 st u v).2.2, (leaveM [40] (settleM 1 st u v).1).2.1, (leaveM [40] (settleM 1 st u v).1).2.2, (settleM 1 st u v).2.1) := by unfold closeM; rw [k5n, e]; rfl
        rw [hbe, hce, h41 hs]
        exact reck_fail opT r _ _ _
      · have hc : ∀ st u, (closeM t st u v).2.1 = false := fun st u => by
          unfold closeM
          have : (t.kind != 5 || t.s != [41]) = true := by simp [bne, hs]
          rw [if_pos this]
        rw [hc]
        exact reck_fail opT r _ _ _
    · have k5n : (t.kind != 5) = true := by simp [hk]
      have hb : behindM t st u v = (false, st, u) := by unfold behindM; rw [k5n]; rfl
      have hc : (closeM t st u v).2.1 = false := by unfold closeM; rw [k5n]; rfl
      rw [hb, hc]
      exact reck_fail opT r _ _ _
end Go.Proofs.YtfghfohlcofdpaaGreatDoor
