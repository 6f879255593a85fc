/-
  A region that draws its order, loads and calls mixed: what yields in every world that meets S is taken first, wherever it stands; calls come one behind the other, S behind each.
-/
import Derived.Test.YtfghfohlcofdpaaDoorRw
namespace Go.Proofs.YtfghfohlcofdpaaDoor
open Go
section
variable {P : Program} {ro : Option Nat} {n : Nat} {md : Region.Mode} {S : World → Prop} {l : List Oper} {Q : Exit → Act → World → Prop}

/-- The schedule: an operation's number, and whether it is taken first, or is the only one that may come. -/
def mixB (md : Region.Mode) (ops : Array Oper) (m g : Nat) : List (Nat × Bool) → Array Bool → Bool
  | [], listed => Region.seqB md ops g m listed
  | (k, true) :: r, listed => (Region.ready md ops listed).contains k && Region.free md ops listed k && decide (k < m) && mixB md ops m g r (listed.setIfInBounds k true)
  | (k, false) :: r, listed => decide (Region.ready md ops listed = [k]) && decide (k < m) && mixB md ops m g r (listed.setIfInBounds k true)
def wpMix (ro : Option Nat) (n : Nat) (P : Program) (ops : Array Oper) (Q : Exit → Act → World → Prop) (S : World → Prop) (K : Act → World → Prop) : List (Nat × Bool) → Act → World → Prop
  | [], a, w => K a w
  | (k, true) :: r, a, w => ∃ o, ops[k]? = some o ∧ ∃ v, YieldsIf P ops S o v a ∧ wpMix ro n P ops Q S K r (a.put o.dst v) w
  | (k, false) :: r, a, w => ∃ o, ops[k]? = some o ∧ if Region.wanted o (yielded ops a.tmps) then o.wpIn (wideAt ro) n P a w (fun a' w' => S w' ∧ wpMix ro n P ops Q S K r a' w') Q
      else (∀ f, o.about P w a.eval = some f → (wideAt ro).fn f) ∧ S w ∧ wpMix ro n P ops Q S K r (a.put o.dst undef) w

theorem held_mix (hd : noDefer l = true) (hsel : Region.noSelect l.toArray = true) {m g : Nat} {Lq : Act → World → Prop} (hQ : ∀ ch a a' w, Q (.panic ch) a w → Q (.panic ch) a' w)
    (hs : Region.sinkB md l.toArray m = true) (hc : Region.chainB md l.toArray m = true) (hn : m < l.toArray.size) :
    ∀ (sc : List (Nat × Bool)) (listed : Array Bool) (a : Act) (w : World), HeadInv md l.toArray m listed → mixB md l.toArray m g sc listed = true → S w → wpMix ro n P l.toArray Q S Lq sc a w →
    wpAnyLH ro n P md l.toArray Q S m (fun listed' a' w' => Region.seqB md l.toArray g m listed' = true ∧ Lq a' w') sc.length listed a w
  | [], listed, a, w, inv, hB, hS, h => ⟨hB, h⟩
  | (k, true) :: r, listed, a, w, inv, hB, hS, h => by
    simp only [mixB, Bool.and_eq_true, decide_eq_true_eq] at hB
    obtain ⟨⟨⟨hrd, hf⟩, hkm⟩, hB'⟩ := hB
    obtain ⟨o, h0, v, hyv, hK⟩ := h
    have hr' : k ∈ Region.ready md l.toArray listed := by simpa using hrd
    exact wpAnyLH_first hd h0 (Region.noSelect_spec hsel) (fun ch a w h => hQ ch _ _ w h) hs hc hn hkm (fun listed' a' w' hL => seqB_ready hL.1) r.length listed a w inv (Region.free_spec h0 hf) hr' hyv hS
      (held_mix hd hsel hQ hs hc hn r _ _ w (inv.set hr' hkm) hB' hS hK)
  | (k, false) :: r, listed, a, w, inv, hB, hS, h => by
    simp only [mixB, Bool.and_eq_true, decide_eq_true_eq] at hB
    obtain ⟨⟨hrd, hkm⟩, hB'⟩ := hB
    obtain ⟨o, h0, h⟩ := h
    have hr' : k ∈ Region.ready md l.toArray listed := by rw [hrd]; simp
    refine ⟨by rw [hrd]; simp, fun i hi => ?_⟩
    rw [hrd] at hi
    have hik : i = k := by simpa using hi
    subst hik
    refine ⟨hkm, ?_⟩
    unfold wpOpIn
    simp only [h0]
    split
    · rename_i hw
      rw [if_pos hw] at h
      exact Oper.wpIn_mono (fun a' w' h' => ⟨h'.1, held_mix hd hsel hQ hs hc hn r _ a' w' (inv.set hr' hkm) hB' h'.1 h'.2⟩) h
    · rename_i hw
      rw [if_neg hw] at h
      exact ⟨h.1, h.2.1, held_mix hd hsel hQ hs hc hn r _ _ w (inv.set hr' hkm) hB' h.2.1 h.2.2⟩

theorem wpIn_region_mix {id : Nat} {a : Act} {w : World} (S : World → Prop) (sc : List (Nat × Bool)) (m : Nat) (hm : P.follows .mixedOrders = true) (hd : noDefer l = true) (hsel : Region.noSelect l.toArray = true) (hs : Region.sinkB .any l.toArray m = true) (hc : Region.chainB .any l.toArray m = true)
    (hn : decide (sc.length = m ∧ m < l.length) = true) (hB : mixB .any l.toArray m (l.drop m).length sc (Array.replicate l.length false) = true) (hQ : ∀ ch a a' w, Q (.panic ch) a w → Q (.panic ch) a' w)
    (hS : S w.drew) (h : wpMix ro n P l.toArray Q S (fun a'' w'' => wpListIn (wideAt ro) n P l.toArray Q (l.drop m) a'' w'') sc a w.drew) :
    (Code.region id l.toArray true).wpIn (wideAt ro) n P Q a w := by
  have hn' := of_decide_eq_true hn
  have hn2 : m < l.toArray.size := by simpa using hn'.2
  have inv0 : HeadInv .any l.toArray m (Array.replicate l.length false) :=
    ⟨by simp, fun j oj _ hl => (by rw [getD_replicate_false] at hl; cases hl), fun t _ ht => getD_in (by simpa using ht) (getD_replicate_false _ _)⟩
  refine wpIn_region_any hm ?_
  have H := held_mix (ro := ro) (n := n) (P := P) (md := .any) (S := S) (Q := Q) (Lq := fun a'' w'' => wpListIn (wideAt ro) n P l.toArray Q (l.drop m) a'' w'') hd hsel hQ hs hc hn2 (g := (l.drop m).length) sc _ a w.drew inv0 hB hS h
  have H2 := wpAnyIn_of_LH (g := (l.drop m).length) (fun listed a' w' hL => wpAnyIn_seq m hL.1 hL.2) _ _ _ _ H
  have hsum : sc.length + (l.drop m).length = l.toArray.size := by simp; omega
  rw [hsum] at H2
  have hrep : Array.replicate l.length false = Array.replicate l.toArray.size false := by simp
  rw [hrep] at H2
  exact H2
theorem mix_nil {K : Act → World → Prop} {ops : Array Oper} {a : Act} {w : World} (h : K a w) : wpMix ro n P ops Q S K [] a w := h
theorem mix_pure {K : Act → World → Prop} {ops : Array Oper} {a : Act} {w : World} {k : Nat} {r : List (Nat × Bool)} (o : Oper) (ho : ops[k]? = some o) (v : Value) (hy : YieldsIf P ops S o v a) (h : ∀ b, b = a.put o.dst v → wpMix ro n P ops Q S K r b w) : wpMix ro n P ops Q S K ((k, true) :: r) a w := ⟨o, ho, v, hy, h _ rfl⟩
theorem mix_sole {K : Act → World → Prop} {ops : Array Oper} {a : Act} {w : World} {k : Nat} {r : List (Nat × Bool)} (o : Oper) (ho : ops[k]? = some o)
    (h : ∀ K' : Act → World → Prop, (∀ a' w', S w' → wpMix none n P ops Q S K r a' w' → K' a' w') →
      if Region.wanted o (yielded ops a.tmps) = true then o.wpIn Fence.wide n P a w K' Q else (∀ f, o.about P w a.eval = some f → Fence.wide.fn f) ∧ K' (a.put o.dst undef) w) :
    wpMix none n P ops Q S K ((k, false) :: r) a w := by
  have h := h (fun a' w' => S w' ∧ wpMix none n P ops Q S K r a' w') (fun _ _ h1 h2 => ⟨h1, h2⟩)
  refine ⟨o, ho, ?_⟩
  split
  · rename_i hw; rw [if_pos hw] at h; exact h
  · rename_i hw; rw [if_neg hw] at h; exact h
end
end Go.Proofs.YtfghfohlcofdpaaDoor
