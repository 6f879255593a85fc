/-
  A condition in brackets, with signs ahead that take each other back, on lists.
-/
import Derived.Test.YtfghfohlcofdpaaGreatDoorHa
import Derived.Test.YtfghfohlcofdpaaGreatDoorDb
import Derived.Laws.Bits64
namespace Go.Proofs.YtfghfohlcofdpaaGreatDoor
open Go Go.RowKit
set_option linter.unusedVariables false
set_option linter.unusedSimpArgs false

/-- A sign as the statements make it. -/
def sgT (s : List UInt8) : Gt := ⟨5, s, [], 0, false, false⟩
theorem op5 (t : Gt) (h : t.kind = 5) : (opT t).2 = false := by unfold opT; rw [h]; rfl
theorem reckM_ok (opM : Gt → Vl × Bool) (hop : ∀ t, okV (opM t).1) : ∀ (l : List Gt) (st : List Wt) (und : Bool) (m : Option (Vl × Bool)), (∀ y ∈ st, okV y.a) → (∀ x, m = some x → okV x.1) → okV (reckM opM l st und m).1
  | [], st, und, none, hs, hm => ⟨by simp [reckM], by simp [reckM]⟩
  | t :: r, st, und, none, hs, hm => by
    rw [reckM]
    split
    · exact reckM_ok opM hop r _ und none (aheadM_ok t hs) (fun x h => by cases h)
    · exact reckM_ok opM hop r st und (some (opM t)) hs (fun x h => by cases h; exact hop t)
  | [], st, und, some (v, ok), hs, hm => by
    rw [reckM, finM]
    exact (settleM_ok 1 st und v (hm _ rfl) hs).1
  | t :: r, st, und, some (v, ok), hs, hm => by
    have hv : okV v := hm (v, ok) rfl
    rw [reckM]
    split
    · split
      · exact reckM_ok opM hop r _ _ none (behindM_ok t und hv hs) (fun x h => by cases h)
      · have hb := behindM_ok t und hv hs
        have hc := closeM_ok t (behindM t st und v).2.2 hv hb
        exact reckM_ok opM hop r _ _ _ hc.2 (fun x h => by cases h; exact hc.1)
    · rw [finM]
      exact (settleM_ok 1 st und v hv hs).1
theorem evM_ok (l : List Gt) : okV (evM l).1 := reckM_ok opT opT_ok l [] false none (fun y hy => by cases hy) (fun x h => by cases h)
theorem neg_neg {v : Vl} (h : okV v) : prefM [45] (prefM [45] v) = v := by
  obtain ⟨b, u⟩ := v
  obtain ⟨h0, h1⟩ := h
  simp only at h0 h1
  show (⟨IntKind.u64.wrap (-(IntKind.u64.wrap (-b))), u⟩ : Vl) = ⟨b, u⟩
  congr 1
  rw [IntKind.wrap_u64, IntKind.wrap_u64]
  omega
theorem not_not {v : Vl} (h : okV v) : prefM [126] (prefM [43] (prefM [126] v)) = v := by
  obtain ⟨b, u⟩ := v
  obtain ⟨h0, h1⟩ := h
  simp only at h0 h1
  obtain ⟨n, rfl⟩ : ∃ n : Nat, b = (n : Int) := ⟨b.toNat, by omega⟩
  show (⟨bits .xor .u64 IntKind.u64.max (bits .xor .u64 IntKind.u64.max (n : Int)), u⟩ : Vl) = ⟨(n : Int), u⟩
  congr 1
  have hm : IntKind.u64.max = ((18446744073709551615 : Nat) : Int) := by decide
  have hx : 18446744073709551615 ^^^ n < 18446744073709551616 := Nat.xor_lt_two_pow (n := 64) (by decide) (by omega)
  rw [hm, bits_xor_u64_nat _ _ (by decide) (by omega), bits_xor_u64_nat _ _ (by decide) hx, ← Nat.xor_assoc, Nat.xor_self, Nat.zero_xor]
/-- The tokens of a line: a bracket is a sign. -/
theorem lx_br (s : List UInt8) : ∀ t ∈ lx s, t.s = [40] ∨ t.s = [41] → t.kind = 5 := by
  intro t ht hs
  obtain ⟨x, hx, rfl⟩ := List.mem_map.1 ht
  have h := (Tk.lex_alone hx).2.1
  have hp : Tk.pn x.s = true := by
    rcases hs with h | h
    · rw [show x.s = [40] from h]; decide
    · rw [show x.s = [41] from h]; decide
  rw [hp] at h
  have : x.kind = 5 := by simpa using h.symm
  show ((x.kind : Nat) : Int) = 5
  rw [this]; rfl
/-- A condition in brackets, behind signs ahead: what becomes of it. -/
theorem br_out (l : List Gt) (hc : clF 0 l = true) (hk : ∀ t ∈ l, t.s = [40] ∨ t.s = [41] → t.kind = 5) :
    ∃ X, Out X (evM l) ∧ ∀ tl rest, (∀ y ∈ tl, y.skips = false) → OutB opT X rest tl (reckM opT (sgT [40] :: (l ++ sgT [41] :: rest)) tl false none) := by
  obtain ⟨X, h1, h2⟩ := sim opT op5 l [] false none 0 (fun y hy => by cases hy) rfl hc hk
  refine ⟨X, h1, fun tl rest htl => ?_⟩
  have := h2 tl rest [] 0 false false htl
  have e : reckM opT (sgT [40] :: (l ++ sgT [41] :: rest)) tl false none = reckM opT (l ++ sgT [41] :: rest) (brW :: tl) false none := by rw [reckM]; rfl
  rw [e]
  exact this
def inT (l : List Gt) : List Gt := sgT [40] :: (l ++ [sgT [41]])
theorem br_one (l : List Gt) (hc : clF 0 l = true) (hk : ∀ t ∈ l, t.s = [40] ∨ t.s = [41] → t.kind = 5) (ss : List (List UInt8)) (tl : List Wt) (htl : ∀ y ∈ tl, y.skips = false) (hgo : ∀ r, reckM opT (ss.map sgT ++ r) [] false none = reckM opT r tl false none)
    (hfin : ∀ u v, okV v → reckM opT [] tl u (some (v, true)) = (v, !u)) : evalV (evM (ss.map sgT ++ inT l)) = evalV (evM l) := by
  obtain ⟨X, h1, h2⟩ := br_out l hc hk
  have h3 := h2 tl [] htl
  have e : evM (ss.map sgT ++ inT l) = reckM opT (sgT [40] :: (l ++ [sgT [41]])) tl false none := hgo _
  rw [e]
  have hok := evM_ok l
  cases X with
  | none =>
    have a1 : (evM l).2 = false := h1
    have a2 : (reckM opT (sgT [40] :: (l ++ [sgT [41]])) tl false none).2 = false := h3
    simp [evalV, a1, a2]
  | some x =>
    obtain ⟨v, u⟩ := x
    have a1 : evM l = (v, !u) := h1
    have a2 : reckM opT (sgT [40] :: (l ++ [sgT [41]])) tl false none = reckM opT [] tl u (some (v, true)) := h3
    rw [a1] at hok
    rw [a1, a2, hfin u v hok]
theorem br_plain (l : List Gt) (hc : clF 0 l = true) (hk : ∀ t ∈ l, t.s = [40] ∨ t.s = [41] → t.kind = 5) : evalV (evM (inT l)) = evalV (evM l) :=
  br_one l hc hk [] [] (fun y hy => by cases hy) (fun r => rfl) (fun u v hv => by simp [reckM, finM, settleM])
theorem br_minus (l : List Gt) (hc : clF 0 l = true) (hk : ∀ t ∈ l, t.s = [40] ∨ t.s = [41] → t.kind = 5) : evalV (evM ([sgT [45], sgT [45]] ++ inT l)) = evalV (evM l) :=
  br_one l hc hk [[45], [45]] [⟨[45], 12, ⟨0, false⟩, false, false⟩, ⟨[45], 12, ⟨0, false⟩, false, false⟩] (fun y hy => by simp at hy; rw [hy]) (fun r => by simp [reckM, aheadM, sgT]) (fun u v hv => by
    have := neg_neg hv
    simp [reckM, finM, settleM, ofM, skN, this])
theorem br_tilde (l : List Gt) (hc : clF 0 l = true) (hk : ∀ t ∈ l, t.s = [40] ∨ t.s = [41] → t.kind = 5) : evalV (evM ([sgT [126], sgT [43], sgT [126]] ++ inT l)) = evalV (evM l) :=
  br_one l hc hk [[126], [43], [126]] [⟨[126], 12, ⟨0, false⟩, false, false⟩, ⟨[43], 12, ⟨0, false⟩, false, false⟩, ⟨[126], 12, ⟨0, false⟩, false, false⟩] (fun y hy => by simp at hy; rcases hy with rfl | rfl | rfl <;> rfl) (fun r => by simp [reckM, aheadM, sgT]) (fun u v hv => by
    have := not_not hv
    simp [reckM, finM, settleM, ofM, skN, this])
end Go.Proofs.YtfghfohlcofdpaaGreatDoor
