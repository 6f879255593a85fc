/-
  Walking the still operations of a region one by one, with the goal kept as an open continuation.
-/
import Derived.Still
namespace Go.Proofs.YticiddcgafhkhaaGreatDoor
open Go
variable {P : Program} {ops : Array Oper} {w : World}
theorem still_first {Q : Act → Prop} {l : List Oper} {a : Act} (h : ∀ K : Act → Prop, (∀ a, wpStill P ops w Q l a → K a) → K a) : wpStill P ops w Q l a := h _ (fun _ h => h)
theorem still_next {Q : Act → Prop} {a : Act} {o : Oper} {rest : List Oper} {K : Act → Prop} (hK : ∀ a, wpStill P ops w Q (o :: rest) a → K a)
    (h : ∀ K' : Act → Prop, (∀ a, wpStill P ops w Q rest a → K' a) → if Region.wanted o (yielded ops a.tmps) then o.still P a w K' else K' (a.put o.dst undef)) : K a := hK a (wpStill_step h)
theorem still_last {Q : Act → Prop} {a : Act} {K : Act → Prop} (hK : ∀ a, wpStill P ops w Q [] a → K a) (h : Q a) : K a := hK a (wpStill_nil h)
end Go.Proofs.YticiddcgafhkhaaGreatDoor
