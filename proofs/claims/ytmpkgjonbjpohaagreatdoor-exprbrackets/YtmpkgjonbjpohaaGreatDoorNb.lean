/-
  A region that draws: two operations that may come in either order.
-/
import Derived.Test.YtmpkgjonbjpohaaGreatDoorNa
namespace Go.Proofs.YtmpkgjonbjpohaaGreatDoor
open Go
section
variable {P : Program} {ro : Option Nat} {n : Nat} {md : Region.Mode} {S : World → Prop} {l : List Oper} {Q : Exit → Act → World → Prop}

/-- A schedule as a tree: one that is taken first; one that is the only one; two, of which either may come. -/
inductive Sch where
  | done
  | pure (k : Nat) (r : Sch)
  | sole (k : Nat) (r : Sch)
  | both (k j : Nat) (r s : Sch)
def schB (md : Region.Mode) (ops : Array Oper) (m g : Nat) : Nat → Sch → Array Bool → Bool
  | 0, .done, listed => Region.seqB md ops g m listed
  | f + 1, .pure k r, listed => (Region.ready md ops listed).contains k && Region.free md ops listed k && decide (k < m) && schB md ops m g f r (listed.setIfInBounds k true)
  | f + 1, .sole k r, listed => decide (Region.ready md ops listed = [k]) && decide (k < m) && schB md ops m g f r (listed.setIfInBounds k true)
  | f + 1, .both k j r s, listed => decide (Region.ready md ops listed = [k, j]) && decide (k < m) && decide (j < m) && schB md ops m g f r (listed.setIfInBounds k true) && schB md ops m g f s (listed.setIfInBounds j true)
  | _, _, _ => false
/-- One step of a schedule, whatever it holds. -/
def soleStep (ro : Option Nat) (n : Nat) (P : Program) (ops : Array Oper) (Q : Exit → Act → World → Prop) (S : World → Prop) (K : Act → World → Prop) (k : Nat) (a : Act) (w : World) : Prop :=
  ∃ o, ops[k]? = some o ∧ if Region.wanted o (yielded ops a.tmps) then o.wpIn (wideAt ro) n P a w (fun a' w' => S w' ∧ K a' w') Q
      else (∀ f, o.about P w a.eval = some f → (wideAt ro).fn f) ∧ S w ∧ K (a.put o.dst undef) w
def wpSch (ro : Option Nat) (n : Nat) (P : Program) (ops : Array Oper) (Q : Exit → Act → World → Prop) (S : World → Prop) (K : Act → World → Prop) : Sch → Act → World → Prop
  | .done, a, w => K a w
  | .pure k r, a, w => ∃ o, ops[k]? = some o ∧ ∃ v, YieldsIf P ops S o v a ∧ wpSch ro n P ops Q S K r (a.put o.dst v) w
  | .sole k r, a, w => soleStep ro n P ops Q S (wpSch ro n P ops Q S K r) k a w
  | .both k j r s, a, w => soleStep ro n P ops Q S (wpSch ro n P ops Q S K r) k a w ∧ soleStep ro n P ops Q S (wpSch ro n P ops Q S K s) j a w
theorem soleStep_op {K : Act → World → Prop} {k : Nat} {a : Act} {w : World} (h : soleStep ro n P l.toArray Q S K k a w) : wpOpIn (wideAt ro) n P l.toArray Q k (fun a' w' => S w' ∧ K a' w') a w := by
  obtain ⟨o, h0, h⟩ := h
  unfold wpOpIn
  simp only [h0]
  split
  · rename_i hw
    rw [if_pos hw] at h
    exact h
  · rename_i hw
    rw [if_neg hw] at h
    exact h
theorem held_sch (hd : noDefer l = true) (hsel : Region.noSelect l.toArray = true) {m g : Nat} {Lq : Act → World → Prop} (hQ : ∀ ch a a' w, Q (.panic ch) a w → Q (.panic ch) a' w)
    (hs : Region.sinkB md l.toArray m = true) (hc : Region.chainB md l.toArray m = true) (hn : m < l.toArray.size) :
    ∀ (sc : Sch) (f : Nat) (listed : Array Bool) (a : Act) (w : World), HeadInv md l.toArray m listed → schB md l.toArray m g f sc listed = true → S w → wpSch ro n P l.toArray Q S Lq sc a w →
    wpAnyLH ro n P md l.toArray Q S m (fun listed' a' w' => Region.seqB md l.toArray g m listed' = true ∧ Lq a' w') f listed a w
  | .done, 0, listed, a, w, inv, hB, hS, h => ⟨hB, h⟩
  | .done, f + 1, listed, a, w, inv, hB, hS, h => by cases hB
  | .pure k r, 0, listed, a, w, inv, hB, hS, h => by cases hB
  | .sole k r, 0, listed, a, w, inv, hB, hS, h => by cases hB
  | .both k j r s, 0, listed, a, w, inv, hB, hS, h => by cases hB
  | .pure k r, f + 1, listed, a, w, inv, hB, hS, h => by
    simp only [schB, Bool.and_eq_true, decide_eq_true_eq] at hB
    obtain ⟨⟨⟨hrd, hf⟩, hkm⟩, hB'⟩ := hB
    obtain ⟨o, h0, v, hyv, hK⟩ := h
    have hr' : k ∈ Region.ready md l.toArray listed := by simpa using hrd
    exact wpAnyLH_first hd h0 (Region.noSelect_spec hsel) (fun ch a w h => hQ ch _ _ w h) hs hc hn hkm (fun listed' a' w' hL => seqB_ready hL.1) f listed a w inv (Region.free_spec h0 hf) hr' hyv hS
      (held_sch hd hsel hQ hs hc hn r f _ _ w (inv.set hr' hkm) hB' hS hK)
  | .sole k r, f + 1, listed, a, w, inv, hB, hS, h => by
    simp only [schB, Bool.and_eq_true, decide_eq_true_eq] at hB
    obtain ⟨⟨hrd, hkm⟩, hB'⟩ := hB
    have hr' : k ∈ Region.ready md l.toArray listed := by rw [hrd]; simp
    refine ⟨by rw [hrd]; simp, fun i hi => ?_⟩
    rw [hrd] at hi
    have hik : i = k := by simpa using hi
    subst hik
    exact ⟨hkm, wpOpIn_mono (fun a' w' h' => ⟨h'.1, held_sch hd hsel hQ hs hc hn r f _ a' w' (inv.set hr' hkm) hB' h'.1 h'.2⟩) (soleStep_op h)⟩
  | .both k j r s, f + 1, listed, a, w, inv, hB, hS, h => by
    simp only [schB, Bool.and_eq_true, decide_eq_true_eq] at hB
    obtain ⟨⟨⟨⟨hrd, hkm⟩, hjm⟩, hB1⟩, hB2⟩ := hB
    have hr1 : k ∈ Region.ready md l.toArray listed := by rw [hrd]; simp
    have hr2 : j ∈ Region.ready md l.toArray listed := by rw [hrd]; simp
    refine ⟨by rw [hrd]; simp, fun i hi => ?_⟩
    rw [hrd] at hi
    have hik : i = k ∨ i = j := by simpa using hi
    rcases hik with rfl | rfl
    · exact ⟨hkm, wpOpIn_mono (fun a' w' h' => ⟨h'.1, held_sch hd hsel hQ hs hc hn r f _ a' w' (inv.set hr1 hkm) hB1 h'.1 h'.2⟩) (soleStep_op h.1)⟩
    · exact ⟨hjm, wpOpIn_mono (fun a' w' h' => ⟨h'.1, held_sch hd hsel hQ hs hc hn s f _ a' w' (inv.set hr2 hjm) hB2 h'.1 h'.2⟩) (soleStep_op h.2)⟩
theorem wpIn_region_sch {id : Nat} {a : Act} {w : World} (S : World → Prop) (sc : Sch) (m : Nat) (hm : P.follows .mixedOrders = true) (hd : noDefer l = true) (hsel : Region.noSelect l.toArray = true) (hs : Region.sinkB .any l.toArray m = true) (hc : Region.chainB .any l.toArray m = true)
    (hn : decide (m < l.length) = true) (hB : schB .any l.toArray m (l.drop m).length m sc (Array.replicate l.length false) = true) (hQ : ∀ ch a a' w, Q (.panic ch) a w → Q (.panic ch) a' w)
    (hS : S w.drew) (h : wpSch ro n P l.toArray Q S (fun a'' w'' => wpListIn (wideAt ro) n P l.toArray Q (l.drop m) a'' w'') sc a w.drew) :
    (Code.region id l.toArray true).wpIn (wideAt ro) n P Q a w := by
  have hn' := of_decide_eq_true hn
  have hn2 : m < l.toArray.size := by simpa using hn'
  have inv0 : HeadInv .any l.toArray m (Array.replicate l.length false) :=
    ⟨by simp, fun j oj _ hl => (by rw [getD_replicate_false] at hl; cases hl), fun t _ ht => getD_in (by simpa using ht) (getD_replicate_false _ _)⟩
  refine wpIn_region_any hm ?_
  have H := held_sch (ro := ro) (n := n) (P := P) (md := .any) (S := S) (Q := Q) (Lq := fun a'' w'' => wpListIn (wideAt ro) n P l.toArray Q (l.drop m) a'' w'') hd hsel hQ hs hc hn2 (g := (l.drop m).length) sc m _ a w.drew inv0 hB hS h
  have H2 := wpAnyIn_of_LH (g := (l.drop m).length) (fun listed a' w' hL => wpAnyIn_seq m hL.1 hL.2) _ _ _ _ H
  have hsum : m + (l.drop m).length = l.toArray.size := by simp; omega
  rw [hsum] at H2
  have hrep : Array.replicate l.length false = Array.replicate l.toArray.size false := by simp
  rw [hrep] at H2
  exact H2
theorem sch_done {K : Act → World → Prop} {ops : Array Oper} {a : Act} {w : World} (h : K a w) : wpSch ro n P ops Q S K .done a w := h
theorem sch_pure {K : Act → World → Prop} {ops : Array Oper} {a : Act} {w : World} {k : Nat} {r : Sch} (o : Oper) (ho : ops[k]? = some o) (v : Value) (hy : YieldsIf P ops S o v a) (h : ∀ b, b = a.put o.dst v → wpSch ro n P ops Q S K r b w) : wpSch ro n P ops Q S K (.pure k r) a w := ⟨o, ho, v, hy, h _ rfl⟩
theorem sole_step {K : Act → World → Prop} {ops : Array Oper} {a : Act} {w : World} {k : Nat} (o : Oper) (ho : ops[k]? = some o)
    (h : ∀ K' : Act → World → Prop, (∀ a' w', S w' → K a' w' → K' a' w') →
      if Region.wanted o (yielded ops a.tmps) = true then o.wpIn Fence.wide n P a w K' Q else (∀ f, o.about P w a.eval = some f → Fence.wide.fn f) ∧ K' (a.put o.dst undef) w) :
    soleStep none n P ops Q S K k a w := by
  have h := h (fun a' w' => S w' ∧ K a' w') (fun _ _ h1 h2 => ⟨h1, h2⟩)
  refine ⟨o, ho, ?_⟩
  split
  · rename_i hw; rw [if_pos hw] at h; exact h
  · rename_i hw; rw [if_neg hw] at h; exact h
theorem sch_sole {K : Act → World → Prop} {ops : Array Oper} {a : Act} {w : World} {k : Nat} {r : Sch} (o : Oper) (ho : ops[k]? = some o)
    (h : ∀ K' : Act → World → Prop, (∀ a' w', S w' → wpSch none n P ops Q S K r a' w' → K' a' w') →
      if Region.wanted o (yielded ops a.tmps) = true then o.wpIn Fence.wide n P a w K' Q else (∀ f, o.about P w a.eval = some f → Fence.wide.fn f) ∧ K' (a.put o.dst undef) w) :
    wpSch none n P ops Q S K (.sole k r) a w := sole_step o ho h
theorem sch_both {K : Act → World → Prop} {ops : Array Oper} {a : Act} {w : World} {k j : Nat} {r s : Sch} (h1 : wpSch ro n P ops Q S K (.sole k r) a w) (h2 : wpSch ro n P ops Q S K (.sole j s) a w) : wpSch ro n P ops Q S K (.both k j r s) a w := ⟨h1, h2⟩
end
end Go.Proofs.YtmpkgjonbjpohaaGreatDoor
