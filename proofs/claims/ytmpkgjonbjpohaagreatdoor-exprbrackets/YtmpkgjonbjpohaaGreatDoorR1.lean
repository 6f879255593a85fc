/-
  Package expr: every call of the reader: by induction over words left.
-/
import Derived.Test.YtmpkgjonbjpohaaGreatDoorRz
namespace Go.Proofs.YtmpkgjonbjpohaaGreatDoor
open Go Go.RowKit
set_option linter.unusedVariables false
set_option linter.unusedSimpArgs false

theorem Cx.le {R : Nat} {wv : Value} {ws : List Wd} {tw : Value} {W : World} {p : Nat} {cr : List Int} (h : Cx R wv ws tw W p cr) : p ≤ ws.length := by
  obtain ⟨_, _, _, h, _⟩ := h
  exact h
/-- All that is read from a place on. -/
structure OkAll (R : Nat) (wv : Value) (ws : List Wd) (tw : Value) (p : Nat) : Prop where
  o : OkO R wv ws tw p
  e : OkE R wv ws tw p
  k : OkK R wv ws tw p
  n : OkN R wv ws tw p
  a : OkA R wv ws tw p
  v : ∀ i, OkV R wv ws tw i p
theorem okAll (R : Nat) (wv : Value) (ws : List Wd) (tw : Value) (hl : ws.length ≤ 1000000) (hws : ∀ y ∈ ws, y.s.length ≤ 140737488355328) : ∀ (d p : Nat), ws.length < p + d → OkAll R wv ws tw p
  | 0, p, h => ⟨fun W cr hC => absurd hC.le (by omega), fun W cr hC => absurd hC.le (by omega), fun W cr line hC => absurd hC.le (by omega), fun W cr hC => absurd hC.le (by omega), fun W cr hC => absurd hC.le (by omega), fun i W cr a b c fv hC => absurd hC.le (by omega)⟩
  | d + 1, p, h => by
    have ih : ∀ p', p < p' → OkAll R wv ws tw p' := fun p' hp => okAll R wv ws tw hl hws d p' (by omega)
    have hn : OkN R wv ws tw p := alone_any R wv ws tw hl hws p (fun p' hp => (ih p' hp).a)
    have hk : OkK R wv ws tw p := cast_any R wv ws tw hl hws p (fun p' hp => (ih p' hp).o)
    have ho : OkO R wv ws tw p := one_any R wv ws tw hl hws p (fun p' hp => (ih p' hp).o) (fun p' hp => (ih p' hp).e) (fun p' hp => (ih p' hp).k) hn
    have at' : ∀ {A : Nat → Prop}, A p → (∀ p', p < p' → A p') → ∀ p', p ≤ p' → A p' := fun h0 h1 p' hp => by
      rcases Nat.lt_or_eq_of_le hp with hlt | rfl
      · exact h1 p' hlt
      · exact h0
    have hv : ∀ i, OkV R wv ws tw i p := fun i => by
      induction i with
      | zero => exact level0_any R wv ws tw hl hws p (at' ho fun p' hp => (ih p' hp).o)
      | succ j hj => exact levelS_any R wv ws tw hl hws p j (at' hj fun p' hp => (ih p' hp).v j)
    have he : OkE R wv ws tw p := expression_any R wv ws tw hl hws p (hv 9) (fun p' hp => (ih p' hp).e)
    exact ⟨ho, he, hk, hn, arguments_any R wv ws tw hl hws p (at' he fun p' hp => (ih p' hp).e), hv⟩
/-- An expression is read as 'gM' reads it. -/
theorem expr_read (R : Nat) (wv : Value) (ws : List Wd) (tw : Value) (hl : ws.length ≤ 1000000) (hws : ∀ y ∈ ws, y.s.length ≤ 140737488355328) (p : Nat) : OkE R wv ws tw p := (okAll R wv ws tw hl hws (ws.length + 1) p (by omega)).e
end Go.Proofs.YtmpkgjonbjpohaaGreatDoor
