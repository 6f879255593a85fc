/-
  A law of the walk: a region that draws its order, whose operations but the last ones only read, is walked in the order of its text, also in a round.
-/
import Derived.StillTail
import Derived.StillTactics
import Derived.TacticsIn
import Derived.OrdersIn
import Derived.ControlIn
import Derived.WalkMore
import Derived.OrdersHeld
namespace Go.Proofs.YticiddcgafhkhaaGreatDoor
open Go

abbrev wideAt (ro : Option Nat) : Fence := { Fence.wide with round := ro }
def noDefer (l : List Oper) : Bool := l.all fun o => match o.op with | .defer _ => false | _ => true
theorem noDefer_at {l : List Oper} (h : noDefer l = true) {i : Nat} {o : Oper} (ho : l.toArray[i]? = some o) : ∀ c, o.op ≠ .defer c := by
  intro c hc
  have hm : o ∈ l := by
    have : l[i]? = some o := by simpa using ho
    exact List.mem_of_getElem? this
  have := List.all_eq_true.1 h o hm
  rw [hc] at this
  cases this

variable {P : Program} {n : Nat} {md : Region.Mode} {w : World} {ro : Option Nat}

theorem wpIn_of_still {o : Oper} {a : Act} {K : Act → Prop} {K' : Act → World → Prop} {Q' : Exit → Act → World → Prop} (hd : ∀ c, o.op ≠ .defer c) (h : ∀ a, K a → K' a w) (hh : o.still P a w K) :
    o.wpIn (wideAt ro) n P a w K' Q' := by
  unfold Oper.still at hh
  refine ⟨fun _ _ => trivial, ?_⟩
  rw [Oper.semAt_eq _ _ _ hd]
  generalize (execOp a.eval o).run P w = r at *
  cases r with
  | ok x w' =>
    cases x <;> simp only [Oper.stillUpon] at hh <;> simp only [Oper.uponIn]
    case enter f args =>
      obtain ⟨rfl, v, hc, hn⟩ := hh
      refine ⟨fun h => (by cases h), ?_⟩
      have hc' : CallsIn Fence.wide (n - 1) P f args w' (fun e w'' => e = .returned v ∧ w'' = w') := callsIn_wide.2 hc
      exact CallsIn.mono (F := wideAt ro) hc' (fun e w'' ⟨he, hw⟩ => by subst he; subst hw; exact h _ hn)
    all_goals (obtain ⟨rfl, h2⟩ := hh; exact h _ h2)
  | halt x w' => simp only [Oper.stillUpon] at hh

theorem wpOpIn_of_stOp {l : List Oper} (hd : noDefer l = true) {i : Nat} {a : Act} {K : Act → Prop} {K' : Act → World → Prop} {Q' : Exit → Act → World → Prop} (h : ∀ a, K a → K' a w) (hh : stOp P l.toArray w i K a) :
    wpOpIn (wideAt ro) n P l.toArray Q' i K' a w := by
  unfold stOp at hh
  unfold wpOpIn
  split
  · rename_i ho; simp only [ho] at hh; exact h _ hh
  · rename_i o ho
    simp only [ho] at hh
    split
    · rename_i hw; simp only [hw, if_true] at hh; exact wpIn_of_still (noDefer_at hd ho) h hh
    · rename_i hw; simp only [hw] at hh; exact ⟨fun _ _ => trivial, h _ hh⟩

theorem wpAnyIn_of_head {l : List Oper} (hd : noDefer l = true) {m g : Nat} {L : Array Bool → Act → Prop} {Q' : Exit → Act → World → Prop} (hL : ∀ listed a, L listed a → wpAnyIn (wideAt ro) n P md l.toArray Q' g listed a w) :
    ∀ (f : Nat) (listed : Array Bool) (a : Act), wpAnyL P md l.toArray w m L f listed a → wpAnyIn (wideAt ro) n P md l.toArray Q' (f + g) listed a w
  | 0, listed, a, h => by rw [Nat.zero_add]; exact hL _ _ h
  | f + 1, listed, a, h => by
    rw [show f + 1 + g = (f + g) + 1 by omega]
    exact ⟨fun h0 => absurd h0 h.1, fun i hi => wpOpIn_of_stOp hd (fun a' h' => wpAnyIn_of_head hd hL f _ a' h') (h.2 i hi).2⟩

theorem wpAnyIn_of_seq {F : Fence} {ops : Array Oper} {Q' : Exit → Act → World → Prop} : ∀ (l : List Oper) (k : Nat) (listed : Array Bool) (a : Act) (w : World), (∀ j, l[j]? = ops[k + j]?) →
    Region.seqB md ops l.length k listed = true → wpListIn F n P ops Q' l a w → wpAnyIn F n P md ops Q' l.length listed a w
  | [], _, _, _, _, _, hB, h => ⟨by simpa [Region.seqB] using hB, h⟩
  | o :: l, k, listed, a, w, hl, hB, h => by
    have h0 : ops[k]? = some o := by simpa using (hl 0).symm
    simp only [List.length_cons, Region.seqB, Bool.and_eq_true, decide_eq_true_eq] at hB
    refine ⟨fun h1 => (by rw [hB.1] at h1; cases h1), fun i hi => ?_⟩
    rw [hB.1] at hi
    have hik : i = k := by simpa using hi
    subst hik
    have hw : wpOpIn F n P ops Q' i (wpListIn F n P ops Q' l) a w := by unfold wpOpIn; simp only [h0]; exact h
    exact wpOpIn_mono (fun a' w' h' => wpAnyIn_of_seq l (i + 1) _ a' w' (fun j => by have := hl (j + 1); simpa [Nat.add_assoc, Nat.add_comm 1 j] using this) hB.2 h') hw

theorem wpIn_region_still_tail {id : Nat} {Q : Exit → Act → World → Prop} {a : Act} {l : List Oper} (m : Nat) (hm : P.follows .mixedOrders = true) (hB : Region.lexTailB .any l.toArray m = true) (hd : noDefer l = true)
    (h : wpStill P l.toArray w.drew (fun a' => wpListIn (wideAt ro) n P l.toArray Q (l.drop m) a' w.drew) (l.take m) a) : (Code.region id l.toArray true).wpIn (wideAt ro) n P Q a w := by
  simp only [Region.lexTailB, Bool.and_eq_true, decide_eq_true_eq] at hB
  obtain ⟨⟨⟨⟨hsel, hn⟩, hs⟩, hc⟩, hlex⟩ := hB
  have hn' : m < l.length := by simpa using hn
  have htl : (l.take m).length = m := by simp; omega
  have hdl : (l.drop m).length = l.toArray.size - m := by simp
  have inv0 : HeadInv .any l.toArray m (Array.replicate l.toArray.size false) :=
    ⟨by simp, fun j oj _ hl => (by rw [getD_replicate_false] at hl; cases hl), fun t _ ht => getD_in (by simpa using ht) (getD_replicate_false _ _)⟩
  have H := wpAnyL_lex (md := .any) (g := l.toArray.size - m) hsel hs hc hn (l.take m) 0 _ a (fun j hj => by
    have hj' : j < m := by rw [htl] at hj; exact hj
    simp [hj']) (by simpa using htl) inv0 (by rw [htl]; exact hlex) h
  refine wpIn_region_any hm ?_
  have := wpAnyIn_of_head (ro := ro) (n := n) hd (Q' := Q) (g := l.toArray.size - m) (fun listed a' hL => by
    have := wpAnyIn_of_seq (md := .any) (F := wideAt ro) (n := n) (P := P) (Q' := Q) (l.drop m) m listed a' w.drew (fun j => by simp [List.getElem?_drop]) (by rw [hdl]; exact hL.1) hL.2
    rwa [hdl] at this) _ _ _ H
  rw [htl, show m + (l.toArray.size - m) = l.toArray.size by omega] at this
  exact this

/-- The last operations of a region, one behind the other. -/
theorem wpAnyIn_seq {F : Fence} {l : List Oper} {Q' : Exit → Act → World → Prop} {listed : Array Bool} {a : Act} (m : Nat) (hB : Region.seqB md l.toArray (l.drop m).length m listed = true) (h : wpListIn F n P l.toArray Q' (l.drop m) a w) :
    wpAnyIn F n P md l.toArray Q' (l.drop m).length listed a w :=
  wpAnyIn_of_seq (l.drop m) m listed a w (fun j => by simp [List.getElem?_drop]) hB h

theorem wp_region_still_plain {id : Nat} {Q : Exit → Act → World → Prop} {a : Act} {l : List Oper} (m : Nat) (hm : P.follows .mixedOrders = true) (hB : Region.lexTailB .any l.toArray m = true)
    (h : wpStill P l.toArray w.drew (fun a' => wpList P l.toArray Q (l.drop m) a' w.drew) (l.take m) a) : (Code.region id l.toArray true).wp P Q a w := wp_region_still_tail m hm hB h
theorem wpIn_region_still_round {lr id : Nat} {Q : Exit → Act → World → Prop} {a : Act} {l : List Oper} (m : Nat) (hm : P.follows .mixedOrders = true) (hB : Region.lexTailB .any l.toArray m = true) (hd : noDefer l = true)
    (h : wpStill P l.toArray w.drew (fun a' => wpListIn (Fence.wide.inRound lr) n P l.toArray Q (l.drop m) a' w.drew) (l.take m) a) : (Code.region id l.toArray true).wpIn (Fence.wide.inRound lr) n P Q a w :=
  wpIn_region_still_tail (ro := some lr) m hm hB hd h
theorem wpIn_region_still_wide {id : Nat} {Q : Exit → Act → World → Prop} {a : Act} {l : List Oper} (m : Nat) (hm : P.follows .mixedOrders = true) (hB : Region.lexTailB .any l.toArray m = true) (hd : noDefer l = true)
    (h : wpStill P l.toArray w.drew (fun a' => wpListIn Fence.wide n P l.toArray Q (l.drop m) a' w.drew) (l.take m) a) : (Code.region id l.toArray true).wpIn Fence.wide n P Q a w :=
  wpIn_region_still_tail (ro := none) m hm hB hd h

/-! A load may be taken first where nobody ahead of it writes its cell: the head of a region; its tail goes one behind the other. -/
section held
variable {S : World → Prop} {l : List Oper} {Q : Exit → Act → World → Prop}

theorem yieldsIf_wpOpIn (hd : noDefer l = true) {i : Nat} {o : Oper} {v : Value} {a : Act} (hi : l.toArray[i]? = some o) (hy : YieldsIf P l.toArray S o v a)
    {K : Act → World → Prop} {w : World} (hS : S w) (h : K (a.put o.dst v) w) : wpOpIn (wideAt ro) n P l.toArray Q i K a w := by
  unfold wpOpIn
  simp only [hi]
  rcases hy with ⟨hw, hv⟩ | ⟨hw, rfl⟩
  · simp only [hw, if_true, Oper.wpIn, Oper.semAt_eq _ _ _ (noDefer_at hd hi), hv w hS, Oper.uponIn]; exact ⟨fun _ _ => trivial, h⟩
  · simp only [hw, Bool.false_eq_true, if_false]; exact ⟨fun _ _ => trivial, h⟩

theorem wpOpIn_putIf (hd : noDefer l = true) {j : Nat} {oi oj : Oper} {v : Value} (hj : l.toArray[j]? = some oj) (hap : oi.apart l.toArray oj = true)
    (hsi : ∀ cs b, oi.op ≠ .select cs b) (hsj : ∀ cs b, oj.op ≠ .select cs b)
    (hQ : ∀ c a w, Q (.panic c) (a.put oi.dst v) w → Q (.panic c) a w) {K : Act → World → Prop} {a : Act} {w : World}
    (hy : YieldsIf P l.toArray S oi v a) (h : wpOpIn (wideAt ro) n P l.toArray Q j K (a.put oi.dst v) w) :
    wpOpIn (wideAt ro) n P l.toArray Q j (fun a' w' => YieldsIf P l.toArray S oi v a' ∧ K (a'.put oi.dst v) w') a w := by
  obtain ⟨h1, h2, h3⟩ := Oper.apart_spec hap
  have keep : ∀ (a : Act), YieldsIf P l.toArray S oi v a → ∀ u, YieldsIf P l.toArray S oi v (a.put oj.dst u) := fun a hy u =>
    hy.of_same (execOp_put oi hsi a oj.dst u h3) (wanted_put oi a oj.dst u h3)
  have keepD : ∀ d, YieldsIf P l.toArray S oi v { a with defers := d :: a.defers } := fun d => hy.of_same rfl rfl
  have hnd := noDefer_at hd hj
  unfold wpOpIn at h ⊢
  simp only [hj] at h ⊢
  rw [wanted_put oj a oi.dst v h1] at h
  split
  · rename_i hw
    simp only [hw, if_true] at h
    refine ⟨fun _ _ => trivial, ?_⟩
    have h := h.2
    rw [Oper.semAt_eq _ _ _ hnd] at h ⊢
    rw [execOp_put oj hsj a oi.dst v h1] at h
    generalize (execOp a.eval oj).run P w = r at *
    cases r with
    | ok x w' =>
      cases x <;> simp only [Oper.uponIn] at h ⊢
      case value u => exact ⟨keep a hy u, by rw [← Act.put_comm a v u h2]; exact h⟩
      case skip => exact ⟨keep a hy _, by rw [← Act.put_comm a v undef h2]; exact h⟩
      case defer d =>
        refine ⟨keep _ (keepD d) _, ?_⟩
        rw [← Act.put_comm _ v undef h2, ← Act.put_defers]
        exact h
      case enter f args =>
        refine ⟨h.1, CallsIn.mono h.2 fun e w'' he => ?_⟩
        cases e with
        | returned u => exact ⟨keep a hy u, by rw [← Act.put_comm a v u h2]; exact he⟩
        | panicked c => exact hQ _ _ _ he
        | outgrown => exact he
      case row row args => exact ⟨h.1, RowsIn.mono h.2 fun u w'' he => ⟨keep a hy u, by rw [← Act.put_comm a v u h2]; exact he⟩⟩
      case round lr f tmps assign body =>
        refine ⟨h.1, RoundIn.mono h.2 fun e w'' he => ?_⟩
        cases e with
        | returned u => exact ⟨keep a hy u, by rw [← Act.put_comm a v u h2]; exact he⟩
        | panicked c => exact hQ _ _ _ he
        | outgrown => exact he
    | halt x w' =>
      cases x <;> simp only [Oper.uponIn] at h ⊢
      case panic u => exact hQ _ _ _ h
  · rename_i hw
    simp only [hw] at h
    exact ⟨fun _ _ => trivial, keep a hy _, by rw [← Act.put_comm a v undef h2]; exact h.2⟩

/-- Whatever order is picked of the first m operations, and S holds behind each; behind them L. -/
def wpAnyLH (ro : Option Nat) (n : Nat) (P : Program) (md : Region.Mode) (ops : Array Oper) (Q : Exit → Act → World → Prop) (S : World → Prop) (m : Nat) (L : Array Bool → Act → World → Prop) : Nat → Array Bool → Act → World → Prop
  | 0, listed, a, w => L listed a w
  | f + 1, listed, a, w => Region.ready md ops listed ≠ [] ∧ ∀ i ∈ Region.ready md ops listed, i < m ∧ wpOpIn (wideAt ro) n P ops Q i (fun a' w' => S w' ∧ wpAnyLH ro n P md ops Q S m L f (listed.setIfInBounds i true) a' w') a w

theorem wpAnyIn_of_LH {m g : Nat} {L : Array Bool → Act → World → Prop} (hL : ∀ listed a w, L listed a w → wpAnyIn (wideAt ro) n P md l.toArray Q g listed a w) :
    ∀ (f : Nat) (listed : Array Bool) (a : Act) (w : World), wpAnyLH ro n P md l.toArray Q S m L f listed a w → wpAnyIn (wideAt ro) n P md l.toArray Q (f + g) listed a w
  | 0, listed, a, w, h => by rw [Nat.zero_add]; exact hL _ _ _ h
  | f + 1, listed, a, w, h => by
    rw [show f + 1 + g = (f + g) + 1 by omega]
    exact ⟨fun h0 => absurd h0 h.1, fun i hi => wpOpIn_mono (fun a' w' h' => wpAnyIn_of_LH hL f _ a' w' h'.2) (h.2 i hi).2⟩

theorem wpAnyLH_first (hd : noDefer l = true) {m i : Nat} {oi : Oper} {v : Value} {L : Array Bool → Act → World → Prop} (hi : l.toArray[i]? = some oi) (hsel : ∀ (j : Nat) (o : Oper) cs b, l.toArray[j]? = some o → o.op ≠ .select cs b)
    (hQ : ∀ c a w, Q (.panic c) (a.put oi.dst v) w → Q (.panic c) a w)
    (hs : Region.sinkB md l.toArray m = true) (hc : Region.chainB md l.toArray m = true) (hn : m < l.toArray.size) (hin : i < m)
    (hdone : ∀ listed a w, L listed a w → ∀ j ∈ Region.ready md l.toArray listed, m ≤ j) :
    ∀ (f : Nat) (listed : Array Bool) (a : Act) (w : World), HeadInv md l.toArray m listed →
      (∀ j oj, l.toArray[j]? = some oj → j ≠ i → listed.getD j true = false → (∀ e ∈ oj.after, Region.binds md e = true → e.on ≠ i) → oi.apart l.toArray oj = true) →
      i ∈ Region.ready md l.toArray listed → YieldsIf P l.toArray S oi v a → S w →
      wpAnyLH ro n P md l.toArray Q S m L f (listed.setIfInBounds i true) (a.put oi.dst v) w → wpAnyLH ro n P md l.toArray Q S m L (f + 1) listed a w := by
  intro f
  induction f with
  | zero =>
    intro listed a w inv _ hr hy hS H
    have hun := (mem_ready.1 hr).1
    refine ⟨fun h => (by rw [h] at hr; cases hr), fun j hj => ?_⟩
    have hjn : j < m := by
      rcases Nat.lt_or_ge j m with h | h
      · exact h
      · exact absurd hj (tail_waits hs hc hn inv _ i rfl hin hun j h)
    refine ⟨hjn, ?_⟩
    by_cases hji : j = i
    · subst hji; exact yieldsIf_wpOpIn hd hi hy hS ⟨hS, H⟩
    · have := hdone _ _ _ H j (ready_mono hj hji)
      omega
  | succ f ih =>
    intro listed a w inv hfree hr hy hS H
    have hun := (mem_ready.1 hr).1
    refine ⟨fun h => (by rw [h] at hr; cases hr), fun j hj => ?_⟩
    have hjn : j < m := by
      rcases Nat.lt_or_ge j m with h | h
      · exact h
      · exact absurd hj (tail_waits hs hc hn inv _ i rfl hin hun j h)
    refine ⟨hjn, ?_⟩
    by_cases hji : j = i
    · subst hji; exact yieldsIf_wpOpIn hd hi hy hS ⟨hS, H⟩
    · have h1 := (H.2 j (ready_mono hj hji)).2
      obtain ⟨hjun, oj, hoj, hall⟩ := mem_ready.1 hj
      have hnot : ∀ e ∈ oj.after, Region.binds md e = true → e.on ≠ i := fun e he hb heq => by
        have h1 := hall e he hb
        rw [heq, getD_both hun] at h1
        cases h1
      have h2 := wpOpIn_putIf hd hoj (hfree j oj hoj hji hjun hnot) (fun cs b => hsel i oi cs b hi) (fun cs b => hsel j oj cs b hoj) hQ hy h1
      have hfree' : ∀ k ok, l.toArray[k]? = some ok → k ≠ i → (listed.setIfInBounds j true).getD k true = false →
          (∀ e ∈ ok.after, Region.binds md e = true → e.on ≠ i) → oi.apart l.toArray ok = true := fun k ok hk hki hun hno => by
        refine hfree k ok hk hki ?_ hno
        by_cases hjk : j = k
        · subst hjk; exact hjun
        · rw [getD_set_ne true hjk] at hun; exact hun
      refine wpOpIn_mono (fun a' w' h3 => ⟨h3.2.1, ih (listed.setIfInBounds j true) a' w' (inv.set hj hjn) hfree' (ready_mono hr (Ne.symm hji)) h3.1 h3.2.1 ?_⟩) h2
      rw [Array.setIfInBounds_comm _ _ hji]
      exact h3.2.2

/-- A walk of the head in the order of the text: first f operations that yield in every world that meets S, then the rest of the head, S behind each, one behind the other. -/
def wpYields (P : Program) (ops : Array Oper) (S : World → Prop) (K : Act → Prop) : List Oper → Act → Prop
  | [], a => K a
  | o :: rest, a => ∃ v, YieldsIf P ops S o v a ∧ wpYields P ops S K rest (a.put o.dst v)
def wpListS (ro : Option Nat) (n : Nat) (P : Program) (ops : Array Oper) (Q : Exit → Act → World → Prop) (S : World → Prop) (K : Act → World → Prop) : List Oper → Act → World → Prop
  | [], a, w => K a w
  | o :: rest, a, w => if Region.wanted o (yielded ops a.tmps) then o.wpIn (wideAt ro) n P a w (fun a' w' => S w' ∧ wpListS ro n P ops Q S K rest a' w') Q
      else (∀ f, o.about P w a.eval = some f → (wideAt ro).fn f) ∧ S w ∧ wpListS ro n P ops Q S K rest (a.put o.dst undef) w

/-- The Bool over a region: y operations that are taken first, then up to number m one behind the other, then the tail. -/
def heldB0 (md : Region.Mode) (ops : Array Oper) (m g : Nat) : Nat → Nat → Array Bool → Bool
  | 0, k, listed => decide (k = m) && Region.seqB md ops g k listed
  | c + 1, k, listed => decide (Region.ready md ops listed = [k]) && decide (k < m) && heldB0 md ops m g c (k + 1) (listed.setIfInBounds k true)
def heldB (md : Region.Mode) (ops : Array Oper) (m g c : Nat) : Nat → Nat → Array Bool → Bool
  | 0, k, listed => heldB0 md ops m g c k listed
  | y + 1, k, listed => (Region.ready md ops listed).contains k && Region.free md ops listed k && decide (k < m) && heldB md ops m g c y (k + 1) (listed.setIfInBounds k true)

theorem held_seq {m g : Nat} {Lq : Act → World → Prop} : ∀ (c k : Nat) (listed : Array Bool) (a : Act) (w : World) (r : List Oper), r.length = c → (∀ j, j < r.length → r[j]? = l.toArray[k + j]?) →
    heldB0 md l.toArray m g c k listed = true → wpListS ro n P l.toArray Q S Lq r a w →
    wpAnyLH ro n P md l.toArray Q S m (fun listed' a' w' => Region.seqB md l.toArray g m listed' = true ∧ Lq a' w') c listed a w
  | 0, k, listed, a, w, r, hr, _, hB, h => by
    have : r = [] := List.length_eq_zero_iff.1 hr
    subst this
    simp only [heldB0, Bool.and_eq_true, decide_eq_true_eq] at hB
    exact ⟨hB.1 ▸ hB.2, h⟩
  | c + 1, k, listed, a, w, [], hr, _, _, _ => by simp at hr
  | c + 1, k, listed, a, w, o :: r, hr, hl, hB, h => by
    simp only [heldB0, Bool.and_eq_true, decide_eq_true_eq] at hB
    obtain ⟨⟨hrd, hkm⟩, hB'⟩ := hB
    have h0 : l.toArray[k]? = some o := by simpa using (hl 0 (by simp)).symm
    have ih : ∀ a' w', wpListS ro n P l.toArray Q S Lq r a' w' → wpAnyLH ro n P md l.toArray Q S m (fun listed' a' w' => Region.seqB md l.toArray g m listed' = true ∧ Lq a' w') c (listed.setIfInBounds k true) a' w' :=
      fun a' w' h' => held_seq c (k + 1) _ a' w' r (by simpa using hr) (fun j hj => by have := hl (j + 1) (by simp; omega); simpa [Nat.add_assoc, Nat.add_comm 1 j] using this) hB' h'
    refine ⟨by rw [hrd]; simp, fun i hi => ?_⟩
    rw [hrd] at hi
    have hik : i = k := by simpa using hi
    subst hik
    refine ⟨hkm, ?_⟩
    unfold wpOpIn
    simp only [h0]
    unfold wpListS at h
    split
    · rename_i hw
      rw [if_pos hw] at h
      exact Oper.wpIn_mono (fun a' w' h' => ⟨h'.1, ih a' w' h'.2⟩) h
    · rename_i hw
      rw [if_neg hw] at h
      exact ⟨h.1, h.2.1, ih _ _ h.2.2⟩

theorem held_lex (hd : noDefer l = true) (hsel : Region.noSelect l.toArray = true) {m g c : Nat} {Lq : Act → World → Prop} (hQ : ∀ ch a a' w, Q (.panic ch) a w → Q (.panic ch) a' w)
    (hs : Region.sinkB md l.toArray m = true) (hc : Region.chainB md l.toArray m = true) (hn : m < l.toArray.size) (r : List Oper) (hrc : r.length = c) :
    ∀ (y k : Nat) (listed : Array Bool) (a : Act) (w : World) (ys : List Oper), ys.length = y → (∀ j, j < ys.length → ys[j]? = l.toArray[k + j]?) → (∀ j, j < r.length → r[j]? = l.toArray[k + y + j]?) → HeadInv md l.toArray m listed →
    heldB md l.toArray m g c y k listed = true → S w → wpYields P l.toArray S (fun a' => wpListS ro n P l.toArray Q S Lq r a' w) ys a →
    wpAnyLH ro n P md l.toArray Q S m (fun listed' a' w' => Region.seqB md l.toArray g m listed' = true ∧ Lq a' w') (y + c) listed a w
  | 0, k, listed, a, w, ys, hy, _, hr, inv, hB, hS, h => by
    have : ys = [] := List.length_eq_zero_iff.1 hy
    subst this
    rw [Nat.zero_add]
    exact held_seq c k listed a w r hrc (by simpa using hr) hB h
  | y + 1, k, listed, a, w, [], hy, _, _, _, _, _, _ => by simp at hy
  | y + 1, k, listed, a, w, o :: ys, hy, hl, hr, inv, hB, hS, h => by
    simp only [heldB, Bool.and_eq_true, decide_eq_true_eq] at hB
    obtain ⟨⟨⟨hrd, hf⟩, hkm⟩, hB'⟩ := hB
    have h0 : l.toArray[k]? = some o := by simpa using (hl 0 (by simp)).symm
    obtain ⟨v, hyv, hK⟩ := h
    have hr' : k ∈ Region.ready md l.toArray listed := by simpa using hrd
    rw [show y + 1 + c = (y + c) + 1 by omega]
    refine wpAnyLH_first hd h0 (Region.noSelect_spec hsel) (fun ch a w h => hQ ch _ _ w h) hs hc hn hkm (fun listed' a' w' hL => seqB_ready hL.1) (y + c) listed a w inv (Region.free_spec h0 hf) hr' hyv hS ?_
    exact held_lex hd hsel hQ hs hc hn r hrc y (k + 1) _ _ w ys (by simpa using hy) (fun j hj => by have := hl (j + 1) (by simp; omega); simpa [Nat.add_assoc, Nat.add_comm 1 j] using this)
      (fun j hj => by have := hr j hj; rw [this]; congr 1; omega) (inv.set hr' hkm) hB' hS hK

/-- THE REGION: y loads first, the rest of the head up to m one behind the other (S behind each), then the tail. -/
theorem wpIn_region_held {id : Nat} {a : Act} {w : World} (S : World → Prop) (y m : Nat) (hm : P.follows .mixedOrders = true) (hd : noDefer l = true) (hsel : Region.noSelect l.toArray = true) (hs : Region.sinkB .any l.toArray m = true) (hc : Region.chainB .any l.toArray m = true)
    (hn : decide (y ≤ m ∧ m < l.length) = true) (hB : heldB .any l.toArray m (l.drop m).length (m - y) y 0 (Array.replicate l.length false) = true) (hQ : ∀ ch a a' w, Q (.panic ch) a w → Q (.panic ch) a' w)
    (hS : S w.drew) (h : wpYields P l.toArray S (fun a' => wpListS ro n P l.toArray Q S (fun a'' w'' => wpListIn (wideAt ro) n P l.toArray Q (l.drop m) a'' w'') ((l.take m).drop y) a' w.drew) (l.take y) a) :
    (Code.region id l.toArray true).wpIn (wideAt ro) n P Q a w := by
  have hn' := of_decide_eq_true hn
  have hn2 : m < l.toArray.size := by simpa using hn'.2
  have inv0 : HeadInv .any l.toArray m (Array.replicate l.length false) :=
    ⟨by simp, fun j oj _ hl => (by rw [getD_replicate_false] at hl; cases hl), fun t _ ht => getD_in (by simpa using ht) (getD_replicate_false _ _)⟩
  refine wpIn_region_any hm ?_
  have H := held_lex (ro := ro) (n := n) (P := P) (md := .any) (S := S) (Q := Q) (Lq := fun a'' w'' => wpListIn (wideAt ro) n P l.toArray Q (l.drop m) a'' w'') hd hsel hQ hs hc hn2 ((l.take m).drop y) (c := m - y) (g := (l.drop m).length)
    (by simp; omega) y 0 (Array.replicate l.length false) a w.drew (l.take y) (by simp; omega)
    (fun j hj => by have hj' : j < y := by simp at hj; omega
                    simp [hj'])
    (fun j hj => by have hj' : y + j < m := by simp at hj; omega
                    simp [hj']) inv0 hB hS h
  have H2 := wpAnyIn_of_LH (g := (l.drop m).length) (fun listed a' w' hL => wpAnyIn_seq m hL.1 hL.2) _ _ _ _ H
  have hsum : y + (m - y) + (l.drop m).length = l.toArray.size := by simp; omega
  rw [hsum] at H2
  have hrep : Array.replicate l.length false = Array.replicate l.toArray.size false := by simp
  rw [hrep] at H2
  exact H2

theorem wpIn_region_held_round {lr id : Nat} {a : Act} {w : World} (S : World → Prop) (y m : Nat) (hm : P.follows .mixedOrders = true) (hd : noDefer l = true) (hsel : Region.noSelect l.toArray = true) (hs : Region.sinkB .any l.toArray m = true) (hc : Region.chainB .any l.toArray m = true)
    (hn : decide (y ≤ m ∧ m < l.length) = true) (hB : heldB .any l.toArray m (l.drop m).length (m - y) y 0 (Array.replicate l.length false) = true) (hQ : ∀ ch a a' w, Q (.panic ch) a w → Q (.panic ch) a' w)
    (hS : S w.drew) (h : wpYields P l.toArray S (fun a' => wpListS (some lr) n P l.toArray Q S (fun a'' w'' => wpListIn (Fence.wide.inRound lr) n P l.toArray Q (l.drop m) a'' w'') ((l.take m).drop y) a' w.drew) (l.take y) a) :
    (Code.region id l.toArray true).wpIn (Fence.wide.inRound lr) n P Q a w := wpIn_region_held (ro := some lr) S y m hm hd hsel hs hc hn hB hQ hS h
theorem wpListS_round {lr : Nat} {K : Act → World → Prop} {ops : Array Oper} {o : Oper} {rest : List Oper} {a : Act} {w : World}
    (h : ∀ K' : Act → World → Prop, (∀ a' w', S w' → wpListS (some lr) n P ops Q S K rest a' w' → K' a' w') →
      if Region.wanted o (yielded ops a.tmps) = true then o.wpIn (Fence.wide.inRound lr) n P a w K' Q else (∀ f, o.about P w a.eval = some f → (Fence.wide.inRound lr).fn f) ∧ K' (a.put o.dst undef) w) :
    wpListS (some lr) n P ops Q S K (o :: rest) a w := by
  have h := h (fun a' w' => S w' ∧ wpListS (some lr) n P ops Q S K rest a' w') (fun _ _ h1 h2 => ⟨h1, h2⟩)
  unfold wpListS
  split
  · rename_i hw; rw [if_pos hw] at h; exact h
  · rename_i hw; rw [if_neg hw] at h; exact h
end held

section
variable {F : Fence} {b : Frame} {a : Act} {k : List Item} {cs : List Frame}
theorem stepR_scope {c : Code} : step P (lone (b.atR a (.code (.scope c) :: k)) cs w) = .next (lone (b.atR a (.code c :: .inScope c :: k)) cs w) :=
  step_lone_go (by simp [stepG, stepG.exec, Frame.atR])
theorem stepR_inScope {c : Code} : step P (lone (b.atR a (.inScope c :: k)) cs w) = .next (lone (b.atR a k) cs w) :=
  step_lone_go (by simp [stepG, stepG.exec, Frame.atR])
/-- A scope through which the run goes without a goto. -/
theorem wpIn_scope_straight {c : Code} {Q : Exit → Act → World → Prop} (h : c.wpIn F n P (Exit.noGoto Q) a w) : (Code.scope c).wpIn F n P Q a w := by
  intro b k cs hro hb hr
  have h0 : (lone (b.atR a (.code (.scope c) :: k)) cs w).fenced P F := fenced_calm hb hr rfl
  obtain ⟨e, a₁, w₁, hq, harr⟩ := h b (.inScope c :: k) cs hro hb hr
  cases e with
  | normal => exact ⟨.normal, a₁, w₁, hq, .head h0 stepR_scope (StepsIn.trans harr (.one (fenced_calm hb hr rfl) stepR_inScope))⟩
  | exit id =>
    have hx : exitTo id (.inScope c :: k) = exitTo id k := by simp [exitTo]
    exact ⟨.exit id, a₁, w₁, hq, fun k' hk => .head h0 stepR_scope (harr.1 k' (by rw [hx]; exact hk)),
      fun hr' hk => let ⟨k₁, h1, h2⟩ := harr.2 hr' (by rw [hx]; exact hk); ⟨k₁, h1, .head h0 stepR_scope h2⟩⟩
  | goto l => exact hq.elim
  | ret => exact ⟨_, a₁, w₁, hq, .of_steps (.one h0 stepR_scope) harr⟩
  | panic ch => exact ⟨_, a₁, w₁, hq, .of_steps (.one h0 stepR_scope) harr⟩
  | outgrown => exact ⟨_, a₁, w₁, hq, .of_steps (.one h0 stepR_scope) harr⟩
end
end Go.Proofs.YticiddcgafhkhaaGreatDoor
