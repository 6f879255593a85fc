/-
  What words of two conditions in brackets are worth, on lists.
-/
import Derived.Test.YtfghfohlcofdpaaDoorHf
namespace Go.Proofs.YtfghfohlcofdpaaDoor
open Go Go.RowKit
set_option linter.unusedVariables false
set_option linter.unusedSimpArgs false

theorem evalV_ok {Z : Vl × Bool} (h : Z.2 = true) : evalV Z = .tuple #[.int .u64 Z.1.b, .bool Z.1.u, .int .i64 0] := by unfold evalV; rw [h]; rfl
theorem evalV_no {Z : Vl × Bool} (h : Z.2 = false) : evalV Z = .tuple #[.int .u64 0, .bool false, .int .i64 50] := by unfold evalV; rw [h]; rfl
/-- A condition in brackets stands for its value, wherever it stands. -/
def As (l : List Gt) (v : Vl) : Prop := ∀ (tl : List Wt) (rest : List Gt), reckM opT (inT l ++ rest) tl false none = reckM opT rest tl false (some (v, true))
theorem as_of (l : List Gt) (hc : clF 0 l = true) (hk : ∀ t ∈ l, t.s = [40] ∨ t.s = [41] → t.kind = 5) (h : (evM l).2 = true) : As l (evM l).1 := by
  intro tl rest
  have e : inT l ++ rest = sgT [40] :: (l ++ sgT [41] :: rest) := by simp [inT]
  have e0 : reckM opT (sgT [40] :: (l ++ sgT [41] :: rest)) tl false none = reckM opT (l ++ sgT [41] :: rest) (brW :: tl) false none := by rw [reckM]; rfl
  rw [e]
  by_cases hs : skN tl = 0
  · have htl : ∀ y ∈ tl, y.skips = false := by
      have h0 : tl.countP (·.skips) = 0 := by unfold skN at hs; omega
      intro y hy
      have := List.countP_eq_zero.1 h0 y hy
      simpa using this
    obtain ⟨X, h1, h2⟩ := br_out l hc hk
    have h3 := h2 tl rest htl
    cases X with
    | none => have a1 : (evM l).2 = false := h1; rw [a1] at h; cases h
    | some x =>
      obtain ⟨v, u⟩ := x
      have a1 : evM l = (v, !u) := h1
      rw [a1] at h ⊢
      obtain rfl : u = false := by simpa using h
      exact h3
  · have hs' : 0 < skN tl := by
      have : 0 ≤ skN tl := by unfold skN; omega
      omega
    obtain ⟨X, h1, h2⟩ := sim2 opT op5 l [] false none 0 (fun y hy => by cases hy) rfl hc hk
    have h3 := h2 tl rest [] 0 false false false hs'
    rw [e0]
    cases X with
    | none => have a1 : (evM l).2 = false := h1; rw [a1] at h; cases h
    | some x =>
      obtain ⟨v, u⟩ := x
      have a1 : evM l = (v, !u) := h1
      rw [a1] at h ⊢
      obtain rfl : u = false := by simpa using h
      exact h3
def wT (a b : List Gt) (c : UInt8) : List Gt := if c == 65 then inT a else if c == 66 then inT b else if c == 38 || c == 124 then [sgT [c, c]] else if c == 61 then [sgT [61, 61]] else if c == 35 then [sgT [33, 61]] else [sgT [c]]
/-- What words say. -/
def saidT (a b : List Gt) (ws : List UInt8) : List Gt := ws.flatMap (wT a b)
variable {a b : List Gt} {va vb : Vl}
theorem nots1 (hA : As a va) (hB : As b vb) : evM (saidT a b [33, 40, 65, 38, 66, 41]) = (truthM (!(va.b != 0 && vb.b != 0)), true) := by
  have e : saidT a b [33, 40, 65, 38, 66, 41] = sgT [33] :: sgT [40] :: (inT a ++ (sgT [38, 38] :: (inT b ++ [sgT [41]]))) := by simp [saidT, wT]
  rw [e, evM, reckM, reckM]
  simp only [show ∀ st, aheadM (sgT [33]) st = (true, ⟨[33], 12, ⟨0, false⟩, false, false⟩ :: st) from fun _ => rfl, show ∀ st, aheadM (sgT [40]) st = (true, brW :: st) from fun _ => rfl, if_true]
  rw [hA, reckM]
  cases h1 : (va.b != 0) <;> cases h2 : (vb.b != 0)
  all_goals (
    have g1 := h1
    have g2 := h2
    simp only [bne_iff_ne, bne_eq_false_iff_eq] at g1 g2
    simp [behindM, sgT, settleM, brW, levM, skipsM, g1]
    rw [hB, reckM]
    simp [behindM, sgT, closeM, leaveM, settleM, brW, levM, skipsM, ofM, reckM, finM, prefM, truthM, skN, g1, g2])
theorem nots2 (hA : As a va) (hB : As b vb) : evM (saidT a b [33, 65, 124, 33, 66]) = (truthM (!(va.b != 0 && vb.b != 0)), true) := by
  have e : saidT a b [33, 65, 124, 33, 66] = sgT [33] :: (inT a ++ (sgT [124, 124] :: sgT [33] :: (inT b ++ []))) := by simp [saidT, wT]
  rw [e, evM, reckM]
  simp only [show ∀ st, aheadM (sgT [33]) st = (true, ⟨[33], 12, ⟨0, false⟩, false, false⟩ :: st) from fun _ => rfl, if_true]
  rw [hA, reckM]
  cases h1 : (va.b != 0) <;> cases h2 : (vb.b != 0)
  all_goals (
    have g1 := h1
    have g2 := h2
    simp only [bne_iff_ne, bne_eq_false_iff_eq] at g1 g2
    simp [behindM, sgT, settleM, levM, skipsM, ofM, prefM, truthM, skN, g1]
    rw [reckM]
    simp only [show ∀ st, aheadM ⟨5, [33], [], 0, false, false⟩ st = (true, ⟨[33], 12, ⟨0, false⟩, false, false⟩ :: st) from fun _ => rfl, if_true]
    have hB' := fun tl => hB tl []
    simp only [List.append_nil] at hB'
    rw [hB', reckM]
    simp [finM, settleM, ofM, prefM, truthM, skN, g1, g2])
theorem nots3 (hA : As a va) (hB : As b vb) : evM (saidT a b [33, 40, 65, 124, 66, 41]) = (truthM (!(va.b != 0 || vb.b != 0)), true) := by
  have e : saidT a b [33, 40, 65, 124, 66, 41] = sgT [33] :: sgT [40] :: (inT a ++ (sgT [124, 124] :: (inT b ++ [sgT [41]]))) := by simp [saidT, wT]
  rw [e, evM, reckM, reckM]
  simp only [show ∀ st, aheadM (sgT [33]) st = (true, ⟨[33], 12, ⟨0, false⟩, false, false⟩ :: st) from fun _ => rfl, show ∀ st, aheadM (sgT [40]) st = (true, brW :: st) from fun _ => rfl, if_true]
  rw [hA, reckM]
  cases h1 : (va.b != 0) <;> cases h2 : (vb.b != 0)
  all_goals (
    have g1 := h1
    have g2 := h2
    simp only [bne_iff_ne, bne_eq_false_iff_eq] at g1 g2
    simp [behindM, sgT, settleM, brW, levM, skipsM, g1]
    rw [hB, reckM]
    simp [behindM, sgT, closeM, leaveM, settleM, brW, levM, skipsM, ofM, reckM, finM, prefM, truthM, skN, g1, g2])
theorem nots4 (hA : As a va) (hB : As b vb) : evM (saidT a b [33, 65, 38, 33, 66]) = (truthM (!(va.b != 0 || vb.b != 0)), true) := by
  have e : saidT a b [33, 65, 38, 33, 66] = sgT [33] :: (inT a ++ (sgT [38, 38] :: sgT [33] :: (inT b ++ []))) := by simp [saidT, wT]
  rw [e, evM, reckM]
  simp only [show ∀ st, aheadM (sgT [33]) st = (true, ⟨[33], 12, ⟨0, false⟩, false, false⟩ :: st) from fun _ => rfl, if_true]
  rw [hA, reckM]
  cases h1 : (va.b != 0) <;> cases h2 : (vb.b != 0)
  all_goals (
    have g1 := h1
    have g2 := h2
    simp only [bne_iff_ne, bne_eq_false_iff_eq] at g1 g2
    simp [behindM, sgT, settleM, levM, skipsM, ofM, prefM, truthM, skN, g1]
    rw [reckM]
    simp only [show ∀ st, aheadM ⟨5, [33], [], 0, false, false⟩ st = (true, ⟨[33], 12, ⟨0, false⟩, false, false⟩ :: st) from fun _ => rfl, if_true]
    have hB' := fun tl => hB tl []
    simp only [List.append_nil] at hB'
    rw [hB', reckM]
    simp [finM, settleM, ofM, prefM, truthM, skN, g1, g2])
theorem nots5 (hA : As a va) (hB : As b vb) : evM (saidT a b [40, 65, 61, 66, 41, 43, 40, 65, 35, 66, 41]) = (⟨1, false⟩, true) := by
  have e : saidT a b [40, 65, 61, 66, 41, 43, 40, 65, 35, 66, 41] = sgT [40] :: (inT a ++ (sgT [61, 61] :: (inT b ++ (sgT [41] :: sgT [43] :: sgT [40] :: (inT a ++ (sgT [33, 61] :: (inT b ++ [sgT [41]]))))))) := by simp [saidT, wT]
  rw [e, evM, reckM]
  simp only [show ∀ st, aheadM (sgT [40]) st = (true, brW :: st) from fun _ => rfl, if_true]
  rw [hA, reckM]
  simp [behindM, sgT, settleM, brW, levM, skipsM]
  rw [hB, reckM]
  cases h1 : (va.b == vb.b)
  all_goals (
    have g1 := h1
    simp only [beq_iff_eq, beq_eq_false_iff_ne] at g1
    simp [behindM, sgT, closeM, leaveM, settleM, brW, levM, skipsM, ofM, truthM, skN, g1]
    rw [reckM]
    simp [behindM, sgT, settleM, brW, levM, skipsM, truthM, skN]
    rw [reckM]
    simp only [show ∀ st, aheadM ⟨5, [40], [], 0, false, false⟩ st = (true, brW :: st) from fun _ => rfl, if_true]
    rw [hA, reckM]
    simp [behindM, sgT, settleM, brW, levM, skipsM]
    rw [hB, reckM]
    simp [behindM, sgT, closeM, leaveM, settleM, brW, levM, skipsM, ofM, reckM, finM, joinM, truthM, skN, g1, IntKind.wrap_u64])
theorem saidA : saidT a b [65] = inT a := by simp [saidT, wT]
theorem saidB : saidT a b [66] = inT b := by simp [saidT, wT]
end Go.Proofs.YtfghfohlcofdpaaDoor
