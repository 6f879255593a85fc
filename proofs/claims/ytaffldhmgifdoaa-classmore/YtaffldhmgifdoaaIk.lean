/-
  Mixed schedules inside a round; package class: putOnStack.
-/
import Derived.Test.YtaffldhmgifdoaaIg
namespace Go.Proofs.Ytaffldhmgifdoaa
open Go Go.RowKit Go.Shelf
section
variable {P : Program} {n : Nat} {l : List Oper} {w : World} {S : World → Prop} {Q : Exit → Act → World → Prop}
theorem wpIn_region_noPanicR {F : Fence} {id : Nat} {ops : Array Oper} {b : Bool} {a : Act} (h : (Code.region id ops b).wpIn F n P (NoPanic Q) a w) : (Code.region id ops b).wpIn F n P Q a w :=
  Code.wpIn_mono (fun e a w h => NoPanic.imp e a w h) h
theorem mix_soleR {lp : Nat} {K : Act → World → Prop} {ops : Array Oper} {a : Act} {k : Nat} {r : List (Nat × Bool)} (o : Oper) (ho : ops[k]? = some o)
    (h : ∀ K' : Act → World → Prop, (∀ a' w', S w' → wpMix (some lp) n P ops Q S K r a' w' → K' a' w') →
      if Region.wanted o (yielded ops a.tmps) = true then o.wpIn (Fence.wide.inRound lp) n P a w K' Q else (∀ f, o.about P w a.eval = some f → Fence.wide.fn f) ∧ K' (a.put o.dst undef) w) :
    wpMix (some lp) n P ops Q S K ((k, false) :: r) a w := by
  have h := h (fun a' w' => S w' ∧ wpMix (some lp) n P ops Q S K r a' w') (fun _ _ h1 h2 => ⟨h1, h2⟩)
  refine ⟨o, ho, ?_⟩
  split
  · rename_i hw; rw [if_pos hw] at h; exact h
  · rename_i hw; rw [if_neg hw] at h; exact h
theorem mixR {lp : Nat} {id : Nat} {a : Act} (S : World → Prop) (sc : List (Nat × Bool)) (m : Nat) (hm : P.follows .mixedOrders = true) (hd : noDefer l = true) (hsel : Region.noSelect l.toArray = true) (hs : Region.sinkB .any l.toArray m = true) (hc : Region.chainB .any l.toArray m = true)
    (hn : decide (sc.length = m ∧ m < l.length) = true) (hB : mixB .any l.toArray m (l.drop m).length sc (Array.replicate l.length false) = true)
    (hS : S w.drew) (h : wpMix (some lp) n P l.toArray (NoPanic Q) S (fun a'' w'' => wpListIn (wideAt (some lp)) n P l.toArray (NoPanic Q) (l.drop m) a'' w'') sc a w.drew) :
    (Code.region id l.toArray true).wpIn (Fence.wide.inRound lp) n P Q a w :=
  wpIn_region_noPanicR (wpIn_region_mix (ro := some lp) S sc m hm hd hsel hs hc hn hB (fun _ _ _ _ h => h) hS h)
theorem listIn_lastR {lp : Nat} {ops : Array Oper} {o : Oper} {a : Act} (hg : o.guard = none)
    (h : ∀ K : Act → World → Prop, (∀ a' w', Q .normal a' w' → K a' w') → o.wpIn (Fence.wide.inRound lp) n P a w K (NoPanic Q)) : wpListIn (wideAt (some lp)) n P ops (NoPanic Q) [o] a w :=
  wpListIn_plain hg fun K hK => h K fun a' w' hq => hK a' w' (NoPanic.normal hq)
end
end Go.Proofs.Ytaffldhmgifdoaa
