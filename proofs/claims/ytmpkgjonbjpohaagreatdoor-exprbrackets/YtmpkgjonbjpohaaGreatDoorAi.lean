/-
  Lists of words that are appended: rows, sources, what stays; schedules of three.
-/
import Derived.Test.YtmpkgjonbjpohaaGreatDoorY11
import Derived.Test.YtmpkgjonbjpohaaGreatDoorY12
import Derived.Test.YtmpkgjonbjpohaaGreatDoorNc
import Derived.Test.YtmpkgjonbjpohaaGreatDoorY9
namespace Go.Proofs.YtmpkgjonbjpohaaGreatDoor
open Go Go.RowKit
set_option linter.unusedVariables false
set_option linter.unusedSimpArgs false

theorem src_wd {B : Nat} {W : World} {p : Option Addr} {cap : Nat} {l : List Wd} (h : WdG B W (.slice p l.length cap) l) (hp : p = none → cap = 0) : Src W (.slice p l.length cap) l.length (wdCells l) := by
  refine ⟨wdCells_length l, wd_one l, ?_⟩
  obtain ⟨p', cap', he, hc⟩ := h
  obtain ⟨rfl, rfl⟩ : p = p' ∧ cap = cap' := by simpa using he
  cases p with
  | none =>
    have h0 : l.length = 0 := by
      by_cases hz : 0 < l.length
      · obtain ⟨g, o, hg, _⟩ := hc 0 hz; cases hg
      · omega
    exact .inl ⟨by rw [h0, hp rfl], h0⟩
  | some ad =>
    refine .inr ⟨ad, cap, rfl, fun j u hu => ?_⟩
    have hj : j < l.length * 6 := by rw [← wdCells_length]; exact (List.getElem?_eq_some_iff.1 hu).1
    have hi : j / 6 < l.length := by omega
    obtain ⟨g, o, hg, _, c0, c1, c2, c3, c4, c5⟩ := hc (j / 6) hi
    obtain rfl := Option.some.inj hg
    have hu' := wdCells_at l (j / 6) hi (j % 6) (by omega)
    rw [show j / 6 * 6 + j % 6 = j by omega, hu] at hu'
    rw [show (⟨g, o, none⟩ : Addr).add j = ⟨g, o + j, none⟩ from by unfold Addr.add; split <;> simp_all]
    have hm : j % 6 < 6 := by omega
    have e : o + j = o + j / 6 * 6 + j % 6 := by omega
    rw [e]
    generalize j % 6 = q at *
    match q, hm with
    | 0, _ => rw [Nat.add_zero]; rw [c0]; simp [wdC] at hu'; rw [hu']
    | 1, _ => rw [c1]; simp [wdC] at hu'; rw [hu']
    | 2, _ => rw [c2]; simp [wdC] at hu'; rw [hu']
    | 3, _ => rw [c3]; simp [wdC] at hu'; rw [hu']
    | 4, _ => rw [c4]; simp [wdC] at hu'; rw [hu']
    | 5, _ => rw [c5]; simp [wdC] at hu'; rw [hu']
/-- A block of words that was just made. -/
theorem own_new {W : World} {g m base : Nat} {cs : Array Value} {xs : List Value} (hb : Bk W g 42 cs) (h : cs.toList = xs) (hx : xs.length = m * 6) (hg : base ≤ g) (hm : m ≤ maxLen) : W.ownsRow base 42 6 (.slice (some ⟨g, 0, none⟩) m m) m xs :=
  ⟨hx, .inr ⟨g, m, cs, rfl, hg, hb, Nat.le_refl _, hm, by rw [← hx, ← h]; simp, by rw [h, ← hx, List.take_length]⟩⟩
theorem Src.below {W W' : World} {v : Value} {m : Nat} {xs : List Value} (h : Src W v m xs) (hb : Below W.heap.size W W') : Src W' v m xs := by
  obtain ⟨h1, h2, h3⟩ := h
  refine ⟨h1, h2, ?_⟩
  rcases h3 with h3 | ⟨ad, c, e, hc⟩
  · exact .inl h3
  · refine .inr ⟨ad, c, e, fun j u hu => ?_⟩
    have := hc j u hu
    refine (hb.cell (p := ad.add j) ?_).trans this
    unfold World.cell? at this
    cases hg : W.heap[(ad.add j).block]? with
    | none => rw [hg] at this; simp at this
    | some o => exact (Array.getElem?_eq_some_iff.1 hg).1
/-- What appends leave as it was: what lies below, and all that is no list of words. -/
structure FrW (N : Nat) (A B : World) : Prop where
  be : Below N A B
  bk : ∀ (j : Nat) cs S fz, S ≠ 42 → A.heap[j]? = some (.cells cs S fz) → B.heap[j]? = some (.cells cs S fz)
theorem FrW.refl (N : Nat) (A : World) : FrW N A A := ⟨Below.refl _ _, fun _ _ _ _ _ h => h⟩
theorem FrW.below {N : Nat} {A B C : World} (h : FrW N A B) (hb : Below B.heap.size B C) (hN : N ≤ B.heap.size) : FrW N A C := ⟨h.be.trans (hb.mono hN), fun j cs S fz h1 h2 => (hb.block j (Array.getElem?_eq_some_iff.1 (h.bk j cs S fz h1 h2)).1).trans (h.bk j cs S fz h1 h2)⟩
theorem FrW.grow {N g : Nat} {A B C : World} {cur : Array Value} {fz : Nat × Nat} (h : FrW N A B) (hg : B.grownBy C (some g)) (hN : N ≤ B.heap.size) (hNg : N ≤ g) (hw : B.heap[g]? = some (.cells cur 42 fz)) : FrW N A C :=
  ⟨h.be.grown hg hN (fun r e => by cases e; exact hNg), fun j cs S fz' h1 h2 => by
    have h3 := h.bk j cs S fz' h1 h2
    refine (hg.block j (Array.getElem?_eq_some_iff.1 h3).1 (fun e => ?_)).trans h3
    cases e
    rw [hw] at h3
    simp at h3
    exact h1 h3.2.1.symm⟩
theorem FrW.putBox {N b : Nat} {A B C : World} (h : FrW N A B) (hb : A.heap.size ≤ b) (hN : N ≤ b) (r2 : ∀ n, n ≤ b → Below n B C) (r3 : ∀ (j : Nat) (o : Obj), j ≠ b → B.heap[j]? = some o → C.heap[j]? = some o) : FrW N A C :=
  ⟨h.be.trans (r2 N hN), fun j cs S fz h1 h2 => r3 j _ (by have := (Array.getElem?_eq_some_iff.1 h2).1; omega) (h.bk j cs S fz h1 h2)⟩
theorem FrW.box {N b : Nat} {A B : World} {S : TypeId} {cs : Array Value} (h : FrW N A B) (hb : Bk A b S cs) (hS : S ≠ 42) : Bk B b S cs := h.bk b cs S (0, 0) hS hb
theorem FrW.kids {N : Nat} {A B : World} {x : PE} {q : Option Addr} (h : FrW N A B) (hk : Kids A (fun _ => True) x q) : Kids B (fun _ => True) x q := hk.keep (fun g cs fz _ e => ⟨h.bk g cs _ fz (by decide) e, trivial⟩)
theorem FrW.growX {N n : Nat} {A B C : World} {v : Value} {xs : List Value} (h : FrW N A B) (hr : B.ownsRow N 42 6 v n xs) (hg : B.grownBy C v.ownBlock) (hN : N ≤ B.heap.size) : FrW N A C := by
  have ht := row_turnX hr
  cases ho : v.ownBlock with
  | none =>
    rw [ho] at hg
    exact h.below ⟨hg.os, hg.tape, hg.output, hg.size, fun i hi => hg.block i hi (by simp)⟩ hN
  | some r =>
    rw [ho] at hg
    obtain ⟨h1, h2, cur, h3⟩ := ht r ho
    exact h.grow hg hN h1 h3
/-- A row of words grows: others that lie behind stay. -/
theorem row_other {W W' : World} {base g bA n : Nat} {xs : List Value} {c : Nat} (h : W.ownsRow base 42 6 (.slice (some ⟨bA, 0, none⟩) n c) n xs) (hg : W.grownBy W' (some g)) (hne : bA ≠ g) : W'.ownsRow base 42 6 (.slice (some ⟨bA, 0, none⟩) n c) n xs := by
  obtain ⟨h1, h2⟩ := h
  refine ⟨h1, ?_⟩
  rcases h2 with ⟨h2, h0⟩ | ⟨g', cap, cur, hv, hbg, hg', hr⟩
  · cases h2
  · obtain ⟨rfl, rfl⟩ : bA = g' ∧ c = cap := by simpa using hv
    exact .inr ⟨bA, c, cur, rfl, hbg, (hg.block bA (Array.getElem?_eq_some_iff.1 hg').1 (fun e => by cases e; exact hne rfl)).trans hg', hr⟩
theorem bk_grow {W W' : World} {g b : Nat} {S : TypeId} {cs cur : Array Value} {fz : Nat × Nat} (h : Bk W b S cs) (hS : S ≠ 42) (hg : W.grownBy W' (some g)) (hw : W.heap[g]? = some (.cells cur 42 fz)) : Bk W' b S cs := by
  refine (hg.block b h.lt (fun e => ?_)).trans h
  have h3 : W.heap[b]? = some (.cells cs S (0, 0)) := h
  cases e
  rw [hw] at h3
  simp at h3
  exact hS h3.2.1.symm
theorem row_at {W : World} {base g n c : Nat} {xs : List Value} (h : W.ownsRow base 42 6 (.slice (some ⟨g, 0, none⟩) n c) n xs) : base ≤ g ∧ ∃ cur, W.heap[g]? = some (.cells cur 42 (0, 0)) := by
  rcases h.2 with ⟨h2, h0⟩ | ⟨g', cap, cur, hv, hbg, hg', hr⟩
  · cases h2
  · obtain ⟨rfl, rfl⟩ : g = g' ∧ c = cap := by simpa using hv
    exact ⟨hbg, cur, hg'⟩
section
variable {P : Program} {ro : Option Nat} {n : Nat} {md : Region.Mode} {S : World → Prop} {l : List Oper} {Q : Exit → Act → World → Prop}
/-- A schedule as a tree: one that is taken first; one that is the only one; two, three, of which any may come. -/
inductive Sct where
  | done
  | pure (k : Nat) (r : Sct)
  | sole (k : Nat) (r : Sct)
  | both (k j : Nat) (r s : Sct)
  | three (k j i : Nat) (r s t : Sct)
def sctB (md : Region.Mode) (ops : Array Oper) (m g : Nat) : Nat → Sct → Array Bool → Bool
  | 0, .done, listed => Region.seqB md ops g m listed
  | f + 1, .pure k r, listed => (Region.ready md ops listed).contains k && Region.free md ops listed k && decide (k < m) && sctB md ops m g f r (listed.setIfInBounds k true)
  | f + 1, .sole k r, listed => decide (Region.ready md ops listed = [k]) && decide (k < m) && sctB md ops m g f r (listed.setIfInBounds k true)
  | f + 1, .both k j r s, listed => decide (Region.ready md ops listed = [k, j]) && decide (k < m) && decide (j < m) && sctB md ops m g f r (listed.setIfInBounds k true) && sctB md ops m g f s (listed.setIfInBounds j true)
  | f + 1, .three k j i r s t, listed => decide (Region.ready md ops listed = [k, j, i]) && decide (k < m) && decide (j < m) && decide (i < m) && sctB md ops m g f r (listed.setIfInBounds k true) && sctB md ops m g f s (listed.setIfInBounds j true) && sctB md ops m g f t (listed.setIfInBounds i true)
  | _, _, _ => false
def wpSct (ro : Option Nat) (n : Nat) (P : Program) (ops : Array Oper) (Q : Exit → Act → World → Prop) (S : World → Prop) (K : Act → World → Prop) : Sct → Act → World → Prop
  | .done, a, w => K a w
  | .pure k r, a, w => ∃ o, ops[k]? = some o ∧ ∃ v, YieldsIf P ops S o v a ∧ wpSct ro n P ops Q S K r (a.put o.dst v) w
  | .sole k r, a, w => soleStep ro n P ops Q S (wpSct ro n P ops Q S K r) k a w
  | .both k j r s, a, w => soleStep ro n P ops Q S (wpSct ro n P ops Q S K r) k a w ∧ soleStep ro n P ops Q S (wpSct ro n P ops Q S K s) j a w
  | .three k j i r s t, a, w => soleStep ro n P ops Q S (wpSct ro n P ops Q S K r) k a w ∧ soleStep ro n P ops Q S (wpSct ro n P ops Q S K s) j a w ∧ soleStep ro n P ops Q S (wpSct ro n P ops Q S K t) i a w
theorem held_sct (hd : noDefer l = true) (hsel : Region.noSelect l.toArray = true) {m g : Nat} {Lq : Act → World → Prop} (hQ : ∀ ch a a' w, Q (.panic ch) a w → Q (.panic ch) a' w)
    (hs : Region.sinkB md l.toArray m = true) (hc : Region.chainB md l.toArray m = true) (hn : m < l.toArray.size) :
    ∀ (sc : Sct) (f : Nat) (listed : Array Bool) (a : Act) (w : World), HeadInv md l.toArray m listed → sctB md l.toArray m g f sc listed = true → S w → wpSct ro n P l.toArray Q S Lq sc a w →
    wpAnyLH ro n P md l.toArray Q S m (fun listed' a' w' => Region.seqB md l.toArray g m listed' = true ∧ Lq a' w') f listed a w
  | .done, 0, listed, a, w, inv, hB, hS, h => ⟨hB, h⟩
  | .done, f + 1, listed, a, w, inv, hB, hS, h => by cases hB
  | .pure k r, 0, listed, a, w, inv, hB, hS, h => by cases hB
  | .sole k r, 0, listed, a, w, inv, hB, hS, h => by cases hB
  | .both k j r s, 0, listed, a, w, inv, hB, hS, h => by cases hB
  | .three k j i r s t, 0, listed, a, w, inv, hB, hS, h => by cases hB
  | .pure k r, f + 1, listed, a, w, inv, hB, hS, h => by
    simp only [sctB, Bool.and_eq_true, decide_eq_true_eq] at hB
    obtain ⟨⟨⟨hrd, hf⟩, hkm⟩, hB'⟩ := hB
    obtain ⟨o, h0, v, hyv, hK⟩ := h
    have hr' : k ∈ Region.ready md l.toArray listed := by simpa using hrd
    exact wpAnyLH_first hd h0 (Region.noSelect_spec hsel) (fun ch a w h => hQ ch _ _ w h) hs hc hn hkm (fun listed' a' w' hL => seqB_ready hL.1) f listed a w inv (Region.free_spec h0 hf) hr' hyv hS
      (held_sct hd hsel hQ hs hc hn r f _ _ w (inv.set hr' hkm) hB' hS hK)
  | .sole k r, f + 1, listed, a, w, inv, hB, hS, h => by
    simp only [sctB, Bool.and_eq_true, decide_eq_true_eq] at hB
    obtain ⟨⟨hrd, hkm⟩, hB'⟩ := hB
    have hr' : k ∈ Region.ready md l.toArray listed := by rw [hrd]; simp
    refine ⟨by rw [hrd]; simp, fun i hi => ?_⟩
    rw [hrd] at hi
    have hik : i = k := by simpa using hi
    subst hik
    exact ⟨hkm, wpOpIn_mono (fun a' w' h' => ⟨h'.1, held_sct hd hsel hQ hs hc hn r f _ a' w' (inv.set hr' hkm) hB' h'.1 h'.2⟩) (soleStep_op h)⟩
  | .both k j r s, f + 1, listed, a, w, inv, hB, hS, h => by
    simp only [sctB, Bool.and_eq_true, decide_eq_true_eq] at hB
    obtain ⟨⟨⟨⟨hrd, hkm⟩, hjm⟩, hB1⟩, hB2⟩ := hB
    have hr1 : k ∈ Region.ready md l.toArray listed := by rw [hrd]; simp
    have hr2 : j ∈ Region.ready md l.toArray listed := by rw [hrd]; simp
    refine ⟨by rw [hrd]; simp, fun i hi => ?_⟩
    rw [hrd] at hi
    have hik : i = k ∨ i = j := by simpa using hi
    rcases hik with rfl | rfl
    · exact ⟨hkm, wpOpIn_mono (fun a' w' h' => ⟨h'.1, held_sct hd hsel hQ hs hc hn r f _ a' w' (inv.set hr1 hkm) hB1 h'.1 h'.2⟩) (soleStep_op h.1)⟩
    · exact ⟨hjm, wpOpIn_mono (fun a' w' h' => ⟨h'.1, held_sct hd hsel hQ hs hc hn s f _ a' w' (inv.set hr2 hjm) hB2 h'.1 h'.2⟩) (soleStep_op h.2)⟩
  | .three k j i r s t, f + 1, listed, a, w, inv, hB, hS, h => by
    simp only [sctB, Bool.and_eq_true, decide_eq_true_eq] at hB
    obtain ⟨⟨⟨⟨⟨⟨hrd, hkm⟩, hjm⟩, him⟩, hB1⟩, hB2⟩, hB3⟩ := hB
    have hr1 : k ∈ Region.ready md l.toArray listed := by rw [hrd]; simp
    have hr2 : j ∈ Region.ready md l.toArray listed := by rw [hrd]; simp
    have hr3 : i ∈ Region.ready md l.toArray listed := by rw [hrd]; simp
    refine ⟨by rw [hrd]; simp, fun i' hi => ?_⟩
    rw [hrd] at hi
    have hik : i' = k ∨ i' = j ∨ i' = i := by simpa using hi
    rcases hik with rfl | rfl | rfl
    · exact ⟨hkm, wpOpIn_mono (fun a' w' h' => ⟨h'.1, held_sct hd hsel hQ hs hc hn r f _ a' w' (inv.set hr1 hkm) hB1 h'.1 h'.2⟩) (soleStep_op h.1)⟩
    · exact ⟨hjm, wpOpIn_mono (fun a' w' h' => ⟨h'.1, held_sct hd hsel hQ hs hc hn s f _ a' w' (inv.set hr2 hjm) hB2 h'.1 h'.2⟩) (soleStep_op h.2.1)⟩
    · exact ⟨him, wpOpIn_mono (fun a' w' h' => ⟨h'.1, held_sct hd hsel hQ hs hc hn t f _ a' w' (inv.set hr3 him) hB3 h'.1 h'.2⟩) (soleStep_op h.2.2)⟩
theorem wpIn_region_sct {id : Nat} {a : Act} {w : World} (S : World → Prop) (sc : Sct) (m : Nat) (hm : P.follows .mixedOrders = true) (hd : noDefer l = true) (hsel : Region.noSelect l.toArray = true) (hs : Region.sinkB .any l.toArray m = true) (hc : Region.chainB .any l.toArray m = true)
    (hn : decide (m < l.length) = true) (hB : sctB .any l.toArray m (l.drop m).length m sc (Array.replicate l.length false) = true) (hQ : ∀ ch a a' w, Q (.panic ch) a w → Q (.panic ch) a' w)
    (hS : S w.drew) (h : wpSct ro n P l.toArray Q S (fun a'' w'' => wpListIn (wideAt ro) n P l.toArray Q (l.drop m) a'' w'') sc a w.drew) :
    (Code.region id l.toArray true).wpIn (wideAt ro) n P Q a w := by
  have hn' := of_decide_eq_true hn
  have hn2 : m < l.toArray.size := by simpa using hn'
  have inv0 : HeadInv .any l.toArray m (Array.replicate l.length false) :=
    ⟨by simp, fun j oj _ hl => (by rw [getD_replicate_false] at hl; cases hl), fun t _ ht => getD_in (by simpa using ht) (getD_replicate_false _ _)⟩
  refine wpIn_region_any hm ?_
  have H := held_sct (ro := ro) (n := n) (P := P) (md := .any) (S := S) (Q := Q) (Lq := fun a'' w'' => wpListIn (wideAt ro) n P l.toArray Q (l.drop m) a'' w'') hd hsel hQ hs hc hn2 (g := (l.drop m).length) sc m _ a w.drew inv0 hB hS h
  have H2 := wpAnyIn_of_LH (g := (l.drop m).length) (fun listed a' w' hL => wpAnyIn_seq m hL.1 hL.2) _ _ _ _ H
  have hsum : m + (l.drop m).length = l.toArray.size := by simp; omega
  rw [hsum] at H2
  have hrep : Array.replicate l.length false = Array.replicate l.toArray.size false := by simp
  rw [hrep] at H2
  exact H2
theorem sct_done {K : Act → World → Prop} {ops : Array Oper} {a : Act} {w : World} (h : K a w) : wpSct ro n P ops Q S K .done a w := h
theorem sct_sole {K : Act → World → Prop} {ops : Array Oper} {a : Act} {w : World} {k : Nat} {r : Sct} (h : soleStep ro n P ops Q S (wpSct ro n P ops Q S K r) k a w) : wpSct ro n P ops Q S K (.sole k r) a w := h
theorem sct_both {K : Act → World → Prop} {ops : Array Oper} {a : Act} {w : World} {k j : Nat} {r s : Sct} (h1 : wpSct ro n P ops Q S K (.sole k r) a w) (h2 : wpSct ro n P ops Q S K (.sole j s) a w) : wpSct ro n P ops Q S K (.both k j r s) a w := ⟨h1, h2⟩
theorem sct_three {K : Act → World → Prop} {ops : Array Oper} {a : Act} {w : World} {k j i : Nat} {r s t : Sct} (h1 : wpSct ro n P ops Q S K (.sole k r) a w) (h2 : wpSct ro n P ops Q S K (.sole j s) a w) (h3 : wpSct ro n P ops Q S K (.sole i t) a w) : wpSct ro n P ops Q S K (.three k j i r s t) a w := ⟨h1, h2, h3⟩
theorem sct_step {K : Act → World → Prop} {ops : Array Oper} {a : Act} {w : World} {k : Nat} {r : Sct} (o : Oper) (ho : ops[k]? = some o)
    (h : ∀ K' : Act → World → Prop, (∀ a' w', S w' → wpSct none n P ops Q S K r a' w' → K' a' w') →
      if Region.wanted o (yielded ops a.tmps) = true then o.wpIn Fence.wide n P a w K' Q else (∀ f, o.about P w a.eval = some f → Fence.wide.fn f) ∧ K' (a.put o.dst undef) w) :
    wpSct none n P ops Q S K (.sole k r) a w := sole_step o ho h
theorem stepIn_app_Src {w : World} {F : Fence} {ops : Array Oper} {o : Oper} {a : Act} {K : Act → World → Prop} {E : Prop} (hg : o.guard = none) (s x : Operand) (t : TypeId) (hop : o.op = Op.call { callee := Callee.builtin Builtin.append, args := #[s, x], argTypes := #[t, t] })
    (base : Nat) (e : TypeId) (i : TypeInfo) (z : Value) (bytes : Nat) (h1 : P.underlying t = some (.slice e)) (h2 : P.info? e = some i) (h3 : i.zero = some z) (h4 : i.size = 6) (h5 : i.bytes = bytes) (h6 : z.cells.size = 6)
    (v : Value) (k : Nat) (xs : List Value) (hs : a.eval s = v) (hown : w.ownsRow base e 6 v k xs) (sv : Value) (m : Nat) (news : List Value) (hx : a.eval x = sv) (hsrc : Src w sv m news) (b1 : k + m ≤ maxLen) (b2 : (k + m) * bytes ≤ 140737488355328) (b3 : base ≤ w.heap.size)
    (hK : ∀ v' w', w'.ownsRow base e 6 v' (k + m) (xs ++ news) → w.grownBy w' v.ownBlock → K (a.put o.dst v') w') :
    if Region.wanted o (yielded ops a.tmps) = true then o.wpIn F n P a w K Q else E := by
  obtain ⟨q1, q2, ⟨q3, q4⟩ | ⟨ad, c, q3, q4⟩⟩ := hsrc
  · subst q3 q4
    exact stepIn_app_src hg s x t hop base e i z 6 bytes h1 h2 h3 h4 h5 h6 (by decide) v k xs hs hown none 0 0 news hx (by rw [q1]) (fun _ => ⟨rfl, rfl⟩) (fun ad e => by cases e) q2 b1 b2 b3 hK
  · subst q3
    exact stepIn_app_src hg s x t hop base e i z 6 bytes h1 h2 h3 h4 h5 h6 (by decide) v k xs hs hown (some ad) m c news hx q1 (fun h => by cases h) (fun ad' e => by cases e; exact q4) q2 b1 b2 b3 hK
theorem sct_pure {K : Act → World → Prop} {ops : Array Oper} {a : Act} {w : World} {k : Nat} {r : Sct} (o : Oper) (ho : ops[k]? = some o) (v : Value) (hy : YieldsIf P ops S o v a) (h : ∀ b, b = a.put o.dst v → wpSct ro n P ops Q S K r b w) : wpSct ro n P ops Q S K (.pure k r) a w := ⟨o, ho, v, hy, h _ rfl⟩
end
/-- The cells of a row's last word. -/
theorem last_cells {W : World} {base g c k : Nat} {xs : List Value} {x : Wd} (h : W.ownsRow base 42 6 (.slice (some ⟨g, 0, none⟩) (k + 1) c) (k + 1) (xs ++ wdCells [x])) :
    W.cell? ⟨g, k * 6, none⟩ = some (.int .i64 x.kind) ∧ W.cell? ⟨g, k * 6 + 1, none⟩ = some (.string ⟨x.s.toArray⟩) ∧ W.cell? ⟨g, k * 6 + 2, none⟩ = some (.int .i64 x.v) ∧ W.cell? ⟨g, k * 6 + 3, none⟩ = some (.int .i64 x.t) ∧ W.cell? ⟨g, k * 6 + 4, none⟩ = some (.string ⟨x.f.toArray⟩) ∧ W.cell? ⟨g, k * 6 + 5, none⟩ = some (.int .i64 x.line) ∧ g < W.heap.size := by
  have hl : xs.length = k * 6 := by
    have := h.1
    rw [List.length_append, wdCells_length] at this
    simp at this
    omega
  have key : ∀ (j : Nat) (u : Value), (wdC x)[j]? = some u → W.cell? ⟨g, k * 6 + j, none⟩ = some u := fun j u hu => by
    have h1 := h.cells (g := g) rfl (k * 6 + j) u (by
      rw [List.getElem?_append_right (by omega), hl, show k * 6 + j - k * 6 = j by omega]
      simpa [wdCells] using hu)
    rw [show (⟨g, 0, none⟩ : Addr).add (k * 6 + j) = ⟨g, k * 6 + j, none⟩ from by unfold Addr.add; split <;> simp_all] at h1
    exact h1
  exact ⟨key 0 _ rfl, key 1 _ rfl, key 2 _ rfl, key 3 _ rfl, key 4 _ rfl, key 5 _ rfl, (h.lt g rfl).2⟩
end Go.Proofs.YtmpkgjonbjpohaaGreatDoor
