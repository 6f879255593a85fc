/-
  Package macro: parseParams.
-/
import Derived.Test.YticiddcgafhkhaaGreatDoorV3
import Derived.Deep.AppendLies
import Derived.Deep.DrawnRows
namespace Go.Proofs.YticiddcgafhkhaaGreatDoor
open Go Go.RowKit Go.Shelf
attribute [local go_sem] Oper.semAt_some
set_option linter.unusedVariables false
set_option linter.unusedSimpArgs false

/-- What stands where a round is under way. -/
structure PF (w : World) (M N A : Nat) (nm : Value) (fn : Bool) (pv : Value) (more : Bool) (bv : Value) (sz : Int) (a b : Gt) (W : World) : Prop where
  m : MBox W M nm fn pv more bv
  b0 : Boxed W w.heap.size 78 (.pointer (some ⟨M, 0, none⟩))
  b1 : Boxed W (w.heap.size + 1) 3 (.int .i64 0)
  b2 : Boxed W (w.heap.size + 2) 4 (.bool false)
  b3 : Boxed W N 3 (.int .i64 sz)
  be : Below M w W
  a : W.heap[A]? = some (.cells (gC a) 74)
  b : W.heap[A + 1]? = some (.cells (gC b) 74)
theorem PF.below {w : World} {M N A : Nat} {nm : Value} {fn : Bool} {pv : Value} {more : Bool} {bv : Value} {sz : Int} {a b : Gt} {W W' : World} (h : PF w M N A nm fn pv more bv sz a b W) (hb : Below W.heap.size W W') : PF w M N A nm fn pv more bv sz a b W' :=
  ⟨h.m.below hb h.m.lt, Boxed.below h.b0 hb h.b0.lt, Boxed.below h.b1 hb h.b1.lt, Boxed.below h.b2 hb h.b2.lt, Boxed.below h.b3 hb h.b3.lt, h.be.trans (hb.mono (Nat.le_of_lt h.m.lt)), (hb.block A (Array.getElem?_eq_some_iff.1 h.a).1).trans h.a, (hb.block (A + 1) (Array.getElem?_eq_some_iff.1 h.b).1).trans h.b⟩
theorem PF.row {w : World} {M N A : Nat} {nm : Value} {fn : Bool} {pv : Value} {more : Bool} {bv : Value} {sz : Int} {a b : Gt} {W W' : World} {base n size : Nat} {e : TypeId} {v : Value} {xs : List Value} (h : PF w M N A nm fn pv more bv sz a b W)
    (hr : W.ownsRow base e size v n xs) (hg : W.grownBy W' v.ownBlock) (h1 : M < base) (h2 : w.heap.size + 2 < base) (h3 : N < base) (he : e ≠ 74) : PF w M N A nm fn pv more bv sz a b W' := by
  have hr' : ∀ r, v.ownBlock = some r → base ≤ r := fun r e => (row_turn hr r e).1
  have hnr : ∀ (j : Nat) (x : Gt), W.heap[j]? = some (Obj.cells (gC x) 74) → W'.heap[j]? = some (Obj.cells (gC x) 74) := fun j x hj => (hg.block j (Array.getElem?_eq_some_iff.1 hj).1 (fun e' => by
    obtain ⟨_, cur, hc⟩ := row_turn hr j e'.symm
    rw [hj] at hc; simp at hc; exact he hc.2.symm)).trans hj
  exact ⟨h.m.turn hg (fun r e => by have := hr' r e; omega), Boxed.turn h.b0 hg (fun r e => by have := hr' r e; omega), Boxed.turn h.b1 hg (fun r e => by have := hr' r e; omega), Boxed.turn h.b2 hg (fun r e => by have := hr' r e; omega), Boxed.turn h.b3 hg (fun r e => by have := hr' r e; omega),
    h.be.grown hg (by have := h.be.size; have := h.m.lt; omega) (fun r e => by have := hr' r e; omega), hnr _ _ h.a, hnr _ _ h.b⟩
theorem listS_nil' {ro : Option Nat} {n : Nat} {P : Program} {S : World → Prop} {Q : Exit → Act → World → Prop} {K : Act → World → Prop} {ops : Array Oper} {a : Act} {w : World} (h : K a w) : wpListS ro n P ops Q S K [] a w := h
theorem par_ret {w W3 W6 : World} {M N A n : Nat} {S : Nat → Prop} {nm : Value} {fn : Bool} {pv : Value} {more : Bool} {bv : Value} {a b : Gt} {ps : List (List UInt8)} {R : Option (List (List UInt8) × Bool × Nat)} (hM : M < w.heap.size) (hz1 : w.heap.size + 3 ≤ N)
    (hx : PF w M N A nm fn pv more bv (2 * (n : Int) + 2) a b W6) (hk : Kx (N + 2) S W3 W6) (hrow : W6.ownsRow (N + 4) 9 1 pv ps.length (sCells ps)) (hR : R = some (ps, more, 2 * n + 2)) (hS : ∀ c, S c → c ≠ w.heap.size + 1 ∧ c ≠ w.heap.size + 1 + 1) :
    KeepsFrom (N + 2) W3 ((W6.setCell ⟨w.heap.size + 1, 0, none⟩ (.int .i64 (2 * (n : Int) + 2))).setCell ⟨w.heap.size + 1 + 1, 0, none⟩ (.bool true)) ∧
    KeepsO (N + 2 + 2) 0 W3 ((W6.setCell ⟨w.heap.size + 1, 0, none⟩ (.int .i64 (2 * (n : Int) + 2))).setCell ⟨w.heap.size + 1 + 1, 0, none⟩ (.bool true)) ∧
    ParX w M N nm fn bv R .ret ((W6.setCell ⟨w.heap.size + 1, 0, none⟩ (.int .i64 (2 * (n : Int) + 2))).setCell ⟨w.heap.size + 1 + 1, 0, none⟩ (.bool true)) := by
  have hk2 := (hk.trans (Kx.setCell W6 (w.heap.size + 1) 0 (.int .i64 (2 * (n : Int) + 2)) (fun c hc => (hS c hc).1))).trans (Kx.setCell _ (w.heap.size + 1 + 1) 0 (.bool true) (fun c hc => (hS c hc).2))
  refine ⟨hk2.fr, hk2.o, (hx.be.setCell (p := ⟨w.heap.size + 1, 0, none⟩) (by show M ≤ w.heap.size + 1; omega) _).setCell (p := ⟨w.heap.size + 1 + 1, 0, none⟩) (by show M ≤ w.heap.size + 1 + 1; omega) _, .inl ⟨rfl, ps, more, 2 * n + 2, pv, hR, (hx.m.setCell (by omega) _).setCell (by omega) _, ownsRow_setCell (ownsRow_setCell hrow (by omega) _) (by omega) _, ?_, Boxed.set _ (Boxed.setCell hx.b2 (by omega) _)⟩⟩
  have := Boxed.setCell (Boxed.set (.int .i64 (2 * (n : Int) + 2)) hx.b1) (by omega : w.heap.size + 1 ≠ w.heap.size + 1 + 1) (i := 0) (.bool true)
  simpa using this
theorem par_exit {w W3 W6 : World} {M N A : Nat} {S : Nat → Prop} {nm : Value} {fn : Bool} {q : Option Addr} {n c : Nat} {more : Bool} {bv : Value} {sz : Int} {a b : Gt} {R : Option (List (List UInt8) × Bool × Nat)}
    (hx : PF w M N A nm fn (.slice q n c) more bv sz a b W6) (hk : Kx (N + 2) S W3 W6) (hR : R = none) : KeepsFrom (N + 2) W3 W6 ∧ KeepsO (N + 2 + 2) 0 W3 W6 ∧ ParX w M N nm fn bv R (.exit 0) W6 :=
  ⟨hk.fr, hk.o, hx.be, .inr ⟨rfl, hR, q, n, c, more, hx.m, hx.b1, hx.b2⟩⟩
theorem par_end {w W' : World} {M N D : Nat} {nm bv : Value} {q : Option Addr} {n1 c1 : Nat} {fn more : Bool} {R : Option (List (List UInt8) × Bool × Nat)} {tmps : Array Value} {n : Nat} (hM : M < w.heap.size) (hz1 : w.heap.size + 3 ≤ N) (hD : N + 2 ≤ D) (hK : W'.heap[D]? = some (.deferred (some []))) (hR : R = none)
    (m1 : MBox W' M nm fn (.slice q n1 c1) more bv) (h1 : Boxed W' (w.heap.size + 1) 3 (.int .i64 0)) (h2 : Boxed W' (w.heap.size + 2) 4 (.bool false)) (h4 : Below M w W') (t4 : tmps.getD 4 undef = .pointer (some ⟨w.heap.size + 1, 0, none⟩)) (t5 : tmps.getD 5 undef = .pointer (some ⟨w.heap.size + 1 + 1, 0, none⟩)) :
    LeavesInM Fence.wide n Tryz.prog Tryz.f34 tmps (fun e w' => ParP w M nm fn bv R e w') [{ target := .collected D, args := #[] }] .returning ((W'.setCell ⟨w.heap.size + 1, 0, none⟩ (.int .i64 0)).setCell ⟨w.heap.size + 1 + 1, 0, none⟩ (.bool false)) := by
  have q1 : Boxed ((W'.setCell ⟨w.heap.size + 1, 0, none⟩ (.int .i64 0)).setCell ⟨w.heap.size + 1 + 1, 0, none⟩ (.bool false)) (w.heap.size + 1) 3 (.int .i64 0) := Boxed.setCell (Boxed.set _ h1) (by omega) _
  have q2 : Boxed ((W'.setCell ⟨w.heap.size + 1, 0, none⟩ (.int .i64 0)).setCell ⟨w.heap.size + 1 + 1, 0, none⟩ (.bool false)) (w.heap.size + 1 + 1) 4 (.bool false) := Boxed.set _ (Boxed.setCell h2 (by omega) _)
  have qm := (m1.setCell (b := w.heap.size + 1) (i := 0) (by omega) (.int .i64 0)).setCell (b := w.heap.size + 1 + 1) (i := 0) (by omega) (.bool false)
  have qb : Below M w ((W'.setCell ⟨w.heap.size + 1, 0, none⟩ (.int .i64 0)).setCell ⟨w.heap.size + 1 + 1, 0, none⟩ (.bool false)) := (h4.setCell (p := ⟨w.heap.size + 1, 0, none⟩) (by show M ≤ w.heap.size + 1; omega) _).setCell (p := ⟨w.heap.size + 1 + 1, 0, none⟩) (by show M ≤ w.heap.size + 1 + 1; omega) _
  have qK : ((W'.setCell ⟨w.heap.size + 1, 0, none⟩ (.int .i64 0)).setCell ⟨w.heap.size + 1 + 1, 0, none⟩ (.bool false)).heap[D]? = some (.deferred (some [])) :=
    (Below.heap_setCell _ _ _ _ (by show D ≠ w.heap.size + 1 + 1; omega)).trans ((Below.heap_setCell _ _ _ _ (by show D ≠ w.heap.size + 1; omega)).trans hK)
  generalize ((W'.setCell ⟨w.heap.size + 1, 0, none⟩ (.int .i64 0)).setCell ⟨w.heap.size + 1 + 1, 0, none⟩ (.bool false)) = W6 at *
  refine ⟨by simp, .inl ⟨_, _, rfl, run_takeDeferred qK, ?_⟩⟩
  have hother : ∀ j, j ≠ D → (W6.putObj D (.deferred none)).heap[j]? = W6.heap[j]? := fun j hj => World.putObj_heap_other (by omega)
  have r1 : Boxed (W6.putObj D (.deferred none)) (w.heap.size + 1) 3 (.int .i64 0) := (hother _ (by omega)).trans q1
  have r2 : Boxed (W6.putObj D (.deferred none)) (w.heap.size + 1 + 1) 4 (.bool false) := (hother _ (by omega)).trans q2
  exact ⟨_, res63 t4 t5 r1.cell r2.cell, qb.grown (grownBy_putObj' W6 D _) (by have := qb.size; omega) (fun r e => by cases e; omega), .inl ⟨hR, rfl, q, n1, c1, more, (hother _ (by omega)).trans qm⟩⟩

theorem pairs_none (n : Nat) (h1 : 1 ≤ n) (Bd : Nat) (p : Option Addr) (cap : Nat) (w : World) (hb : Boxed w Bd 31 (.slice p 0 cap)) :
    SeqStopsO Fence.wide n 0 Tryz.prog 69 #[.pointer (some ⟨Bd, 0, none⟩)] encP2 (fun W W' => W'.heap[Bd]? = W.heap[Bd]?) [] w := by
  intro lp J Jx W hW hJ hJx hY h0
  have hbx := (Boxed.below hb hW hb.lt).cell
  refine callsIn_of_wp Tryz.func69 rfl trivial ?_ rfl
  simp only [Tryz.ntmps69, List.size_toArray, List.length_cons, List.length_nil, Nat.reduceAdd, Nat.reduceSub, Array.replicate_succ, Array.replicate_zero, List.push_toArray, List.append_toArray, List.nil_append, List.cons_append]
  gi_wp2
  gi_loopw [3] (fun i wr => i = .int .i64 0 ∧ wr = W) (fun i wr => 0)
  case atStart => exact ⟨rfl, rfl⟩
  case round =>
    obtain ⟨rfl, rfl⟩ := hrel
    gi_wp2
    refine bodyPost_end (results_none rfl _ _ _) rfl ?_
    exact ⟨⟨_, rfl⟩, .inl h0⟩

set_option maxRecDepth 100000 in
set_option maxHeartbeats 4000000 in
theorem parseParams_any (p : Option Addr) (cap M : Nat) (l : List Gt) (nm bv : Value) (fn : Bool) (w : World) (hsz : l.length * 56 ≤ 140737488355328) (hM : M < w.heap.size) (hl : TkG M w (.slice p l.length cap) l)
    (hm : MBox w M nm fn (.slice none 0 0) false bv) :
    Calls Tryz.prog 34 #[.slice p l.length cap, .pointer (some ⟨M, 0, none⟩)] w fun e w' => ParP w M nm fn bv (parP l) e w' := by
  have hmix : Tryz.prog.follows .mixedOrders = true := by kernel_rfl
  have HL := hide hl
  clear hl
  have HM := hide hm
  clear hm
  refine (callsIn_wide (n := 4)).1 ?_
  refine callsIn_of_wp_marks Tryz.func34 rfl trivial ?_ rfl
  simp only [Tryz.ntmps34, List.size_toArray, List.length_cons, List.length_nil, Nat.reduceAdd, Nat.reduceSub, Array.replicate_succ, Array.replicate_zero, List.push_toArray, List.append_toArray, List.nil_append, List.cons_append]
  by_cases hl0 : l.length = 0
  · obtain rfl : l = [] := List.eq_nil_of_length_eq_zero hl0
    simp only [List.length_nil] at *
    gi_wp2
    refine wpIn_scope_straight ?_
    have b0 : Boxed (((w.alloc (.cells #[.pointer (some ⟨M, 0, none⟩)] 78)).alloc (.cells #[.int .i64 0] 3)).alloc (.cells #[.bool false] 4)) w.heap.size 78 (.pointer (some ⟨M, 0, none⟩)) := ((Boxed.new w 78 _).alloc _).alloc _
    have b1 : Boxed (((w.alloc (.cells #[.pointer (some ⟨M, 0, none⟩)] 78)).alloc (.cells #[.int .i64 0] 3)).alloc (.cells #[.bool false] 4)) (w.heap.size + 1) 3 (.int .i64 0) := by
      have := (Boxed.new (w.alloc (.cells #[.pointer (some ⟨M, 0, none⟩)] 78)) 3 (.int .i64 0)).alloc (.cells #[.bool false] 4)
      rwa [World.size_alloc] at this
    have b2 : Boxed (((w.alloc (.cells #[.pointer (some ⟨M, 0, none⟩)] 78)).alloc (.cells #[.int .i64 0] 3)).alloc (.cells #[.bool false] 4)) (w.heap.size + 2) 4 (.bool false) := by
      have := (Boxed.new ((w.alloc (.cells #[.pointer (some ⟨M, 0, none⟩)] 78)).alloc (.cells #[.int .i64 0] 3)) 4 (.bool false))
      rwa [World.size_alloc, World.size_alloc] at this
    have hz : (((w.alloc (.cells #[.pointer (some ⟨M, 0, none⟩)] 78)).alloc (.cells #[.int .i64 0] 3)).alloc (.cells #[.bool false] 4)).heap.size = w.heap.size + 3 := by simp
    have hbe1 : Below w.heap.size w (((w.alloc (.cells #[.pointer (some ⟨M, 0, none⟩)] 78)).alloc (.cells #[.int .i64 0] 3)).alloc (.cells #[.bool false] 4)) :=
      (((Below.refl _ w).alloc (Nat.le_refl _) _).alloc (by simp) _).alloc (by simp; omega) _
    generalize (((w.alloc (.cells #[.pointer (some ⟨M, 0, none⟩)] 78)).alloc (.cells #[.int .i64 0] 3)).alloc (.cells #[.bool false] 4)) = W1 at *
    have hm1 : MBox W1 M nm fn (.slice none 0 0) false bv := (unhide HM).below hbe1 hM
    have hz1 : w.heap.size + 3 ≤ W1.heap.size := by omega
    clear hz
    gi_wp2
    refine ⟨trivial, ?_⟩
    gi_wp2
    refine wpIn_label ?_
    gi_wp2_with (refine ⟨trivial, ?_⟩; gi_at_call 52; refine (callsIn_wide.2 (pairs_any p 0 cap _)).mono ?_; rintro e w' ⟨rfl, rfl⟩)
    have d0 := (b0.alloc (.cells #[.int .i64 0] 3)).alloc (.cells #[.slice p 0 cap] 31)
    have d1 := (b1.alloc (.cells #[.int .i64 0] 3)).alloc (.cells #[.slice p 0 cap] 31)
    have d2 := (b2.alloc (.cells #[.int .i64 0] 3)).alloc (.cells #[.slice p 0 cap] 31)
    have d3 := (Boxed.new W1 3 (.int .i64 0)).alloc (.cells #[.slice p 0 cap] 31)
    have d4 := Boxed.new (W1.alloc (.cells #[.int .i64 0] 3)) 31 (.slice p 0 cap)
    rw [World.size_alloc] at d4
    have hbe2 : Below w.heap.size w ((W1.alloc (.cells #[.int .i64 0] 3)).alloc (.cells #[.slice p 0 cap] 31)) := (hbe1.alloc (by omega) _).alloc (by simp; omega) _
    have hm2 := hm1.below (((Below.refl _ W1).alloc (Nat.le_refl _) (.cells #[.int .i64 0] 3)).alloc (by simp) (.cells #[.slice p 0 cap] 31)) (by omega)
    have hz2 : ((W1.alloc (.cells #[.int .i64 0] 3)).alloc (.cells #[.slice p 0 cap] 31)).heap.size = W1.heap.size + 2 := by simp
    clear b0 b1 b2 hm1
    generalize ((W1.alloc (.cells #[.int .i64 0] 3)).alloc (.cells #[.slice p 0 cap] 31)) = W2 at *
    generalize W1.heap.size = N at *
    clear hbe1
    have hS : ∀ b, (b = N + 1 ∨ ∃ o, p = some ⟨b, o, none⟩ ∧ b < W2.heap.size) → b < W2.heap.size := fun b h => by
      rcases h with rfl | ⟨_, _, h⟩
      · omega
      · exact h
    refine wpIn_rangeFunc_ownL (k := 0) rfl (by decide) (gf := 69) (lb := #[.pointer (some ⟨N + 1, 0, none⟩)]) rfl trivial (enters_of Tryz.func69 (by kernel_rfl) rfl)
      (pairs_none 3 (by decide) (N + 1) p cap W2 d4) (fun h g => g.trans h) (fun W lb o o' hlb hlo _ _ => ?kb) (fun W => rfl)
      (fun W o hW => ?ka) (Below.refl _ _) (fun _ => rfl)
      (ParI w M N nm fn bv [] none) (fun c _ W => ParX w M N nm fn bv none c W) (by rw [hz2]; exact ParI.abides w M N nm fn bv _ _ hM hz1) (fun c => by rw [hz2]; exact ParX.abides w M N nm fn bv _ c hM hz1)
      ⟨⟨[], _, hm2, World.ownsRow_nil _ _ _ _, rfl, fun rest h => by rw [List.nil_append] at h; rw [h]; rfl⟩, d0, d1, d2, d3, hbe2.mono (by omega)⟩
      (fun x => [.cells (gC x.1) 74, .cells (gC x.2) 74])
      (fun x A => { tmps := #[.slice p 0 cap, .pointer (some ⟨M, 0, none⟩), undef, .pointer (some ⟨w.heap.size, 0, none⟩), .pointer (some ⟨w.heap.size + 1, 0, none⟩), .pointer (some ⟨w.heap.size + 1 + 1, 0, none⟩), .pointer (some ⟨N, 0, none⟩), .pointer (some ⟨A, 0, none⟩), .pointer (some ⟨A + 1, 0, none⟩),
        .slice p 0 cap, .int .i64 0, .bool false, .bool false, undef, undef, undef, undef, .bool false, .slice p 0 cap, .func (.func 69) #[] #[.pointer (some ⟨N + 1, 0, none⟩)], .agg (gC x.1), .agg (gC x.2),
        undef, undef, undef, undef, undef, undef, undef, undef, undef, undef, undef, undef, undef, undef, undef, undef, undef, undef, undef, undef, undef, undef, undef, undef, undef, undef, undef, undef, undef, undef, undef, undef, undef, undef, undef], defers := [] })
      ?assign ?body ?done ?stop
    case kb => exact World.putObj_heap_other (by omega)
    case ka => exact Below.heap_alloc _ _ _ (by omega)
    case assign =>
      intro l' x W' K hK
      simp only [encP2, gC, allocs] at hK ⊢
      gi_wp2
      simpa using hK
    case body =>
      rintro l' pre x W3 A hA hAo hno hI ⟨r, hr⟩
      simp at hr
    case done =>
      rintro D W' hD ⟨⟨acc, pv, m1, m2, m3, m4⟩, h0, h1, h2, h3, h4⟩ hK
      obtain ⟨q, cq, rfl⟩ := ownsRow_slice m2
      have c1 := h1.cell
      have f1 := h1.frozen
      have c2 := h2.cell
      have f2 := h2.frozen
      have hKlt := (Array.getElem?_eq_some_iff.1 hK).1
      gi_wp2
      try rw [Exit.noGoto_ret]
      exact par_end hM hz1 (by omega) hK rfl m1 h1 h2 h4 rfl rfl
    case stop =>
      rintro D c pre W' hD _ ⟨h4, (⟨rfl, ps, more, k, pv, h0, m1, m2, h1, h2⟩ | ⟨rfl, h0, q, n, c, more, m1, h1, h2⟩)⟩ hK
      · exact nomatch h0.out
      · have c1 := h1.cell
        have f1 := h1.frozen
        have c2 := h2.cell
        have f2 := h2.frozen
        have hKlt := (Array.getElem?_eq_some_iff.1 hK).1
        gi_wp2
        try rw [Exit.noGoto_ret]
        exact par_end hM hz1 (by omega) hK rfl m1 h1 h2 h4 rfl rfl
  · have hpos : 0 < l.length := by omega
    have hR := parP_pos l hpos
    generalize parP l = R at *
    have HR := hide hR
    clear hR
    have hc := unhide HL
    obtain ⟨p', cap', hp', hcs⟩ := hc
    obtain ⟨g, o, rfl, hgM, a0, a1, a2, a3, a4, a5⟩ := hcs 0 hpos
    obtain ⟨rfl, rfl⟩ : p = some ⟨g, o, none⟩ ∧ cap = cap' := by simpa using hp'
    simp only [Nat.zero_mul, Nat.add_zero] at a0 a1 a2 a3 a4 a5
    clear hp' hcs hl0
    have hgw : g < w.heap.size := by omega
    have i1 : (0 : Int) < (l.length : Int) := by omega
    have hsi := hide (fun W => isSign_any l[0] ⟨#[41]⟩ W)
    generalize l[0] = t at *
    simp only [gC] at hsi
    gi_wp2
    refine wpIn_scope_straight ?_
    have b0 : Boxed (((w.alloc (.cells #[.pointer (some ⟨M, 0, none⟩)] 78)).alloc (.cells #[.int .i64 0] 3)).alloc (.cells #[.bool false] 4)) w.heap.size 78 (.pointer (some ⟨M, 0, none⟩)) := ((Boxed.new w 78 _).alloc _).alloc _
    have b1 : Boxed (((w.alloc (.cells #[.pointer (some ⟨M, 0, none⟩)] 78)).alloc (.cells #[.int .i64 0] 3)).alloc (.cells #[.bool false] 4)) (w.heap.size + 1) 3 (.int .i64 0) := by
      have := (Boxed.new (w.alloc (.cells #[.pointer (some ⟨M, 0, none⟩)] 78)) 3 (.int .i64 0)).alloc (.cells #[.bool false] 4)
      rwa [World.size_alloc] at this
    have b2 : Boxed (((w.alloc (.cells #[.pointer (some ⟨M, 0, none⟩)] 78)).alloc (.cells #[.int .i64 0] 3)).alloc (.cells #[.bool false] 4)) (w.heap.size + 2) 4 (.bool false) := by
      have := (Boxed.new ((w.alloc (.cells #[.pointer (some ⟨M, 0, none⟩)] 78)).alloc (.cells #[.int .i64 0] 3)) 4 (.bool false))
      rwa [World.size_alloc, World.size_alloc] at this
    have hz : (((w.alloc (.cells #[.pointer (some ⟨M, 0, none⟩)] 78)).alloc (.cells #[.int .i64 0] 3)).alloc (.cells #[.bool false] 4)).heap.size = w.heap.size + 3 := by simp
    have hbe : Below w.heap.size w (((w.alloc (.cells #[.pointer (some ⟨M, 0, none⟩)] 78)).alloc (.cells #[.int .i64 0] 3)).alloc (.cells #[.bool false] 4)) :=
      (((Below.refl _ w).alloc (Nat.le_refl _) _).alloc (by simp) _).alloc (by simp; omega) _
    generalize (((w.alloc (.cells #[.pointer (some ⟨M, 0, none⟩)] 78)).alloc (.cells #[.int .i64 0] 3)).alloc (.cells #[.bool false] 4)) = W0 at *
    have hww : ∀ j v, w.cell? ⟨g, j, none⟩ = some v → W0.cell? ⟨g, j, none⟩ = some v := fun j v h => (hbe.cell (p := ⟨g, j, none⟩) hgw).trans h
    replace a0 := hww _ _ a0
    replace a1 := hww _ _ a1
    replace a2 := hww _ _ a2
    replace a3 := hww _ _ a3
    replace a4 := hww _ _ a4
    replace a5 := hww _ _ a5
    gi_wp2_with fail
    refine ⟨trivial, ?_⟩
    refine (callsIn_wide.2 (unhide hsi _)).mono ?_
    rintro e W1 ⟨rfl, hb1⟩
    have hsg : Hid (sg t [41] = (decide (t.kind = 5) && decide (t.s = [41]))) := rfl
    simp only [Array.toList] 
    generalize (decide (t.kind = 5) && decide (t.s = [41])) = G at *
    have hz1 := hb1.size
    rw [hz] at hz1
    replace b0 := Boxed.below b0 hb1 (by omega)
    replace b1 := Boxed.below b1 hb1 (by omega)
    replace b2 := Boxed.below b2 hb1 (by omega)
    have hbe1 : Below w.heap.size w W1 := hbe.trans (hb1.mono (by omega))
    have c1 := b1.cell
    have f1 := b1.frozen
    have c2 := b2.cell
    have f2 := b2.frozen
    clear a0 a1 a2 a3 a4 a5 hsi hb1 hww hbe
    have hm1 : MBox W1 M nm fn (.slice none 0 0) false bv := (unhide HM).below hbe1 hM
    cases G
    · have HRR : Hid (R = goP [] 0 (prs l)) := by rw [Hid, unhide HR, unhide hsg]; rfl
      gi_wp2
      refine wpIn_label ?_
      gi_wp2_with (refine ⟨trivial, ?_⟩; gi_at_call 52; refine (callsIn_wide.2 (pairs_any _ _ cap _)).mono ?_; rintro e w' ⟨rfl, rfl⟩)
      have d0 := (b0.alloc (.cells #[.int .i64 0] 3)).alloc (.cells #[.slice (some ⟨g, o, none⟩) l.length cap] 31)
      have d1 := (b1.alloc (.cells #[.int .i64 0] 3)).alloc (.cells #[.slice (some ⟨g, o, none⟩) l.length cap] 31)
      have d2 := (b2.alloc (.cells #[.int .i64 0] 3)).alloc (.cells #[.slice (some ⟨g, o, none⟩) l.length cap] 31)
      have d3 := (Boxed.new W1 3 (.int .i64 0)).alloc (.cells #[.slice (some ⟨g, o, none⟩) l.length cap] 31)
      have d4 := Boxed.new (W1.alloc (.cells #[.int .i64 0] 3)) 31 (.slice (some ⟨g, o, none⟩) l.length cap)
      rw [World.size_alloc] at d4
      have hbe2 : Below w.heap.size w ((W1.alloc (.cells #[.int .i64 0] 3)).alloc (.cells #[.slice (some ⟨g, o, none⟩) l.length cap] 31)) := (hbe1.alloc (by omega) _).alloc (by simp; omega) _
      have hm2 := hm1.below (((Below.refl _ W1).alloc (Nat.le_refl _) (.cells #[.int .i64 0] 3)).alloc (by simp) (.cells #[.slice (some ⟨g, o, none⟩) l.length cap] 31)) (by omega)
      have hz2 : ((W1.alloc (.cells #[.int .i64 0] 3)).alloc (.cells #[.slice (some ⟨g, o, none⟩) l.length cap] 31)).heap.size = W1.heap.size + 2 := by simp
      have hl2 := hide ((unhide HL).below (hbe2.mono (by omega)))
      clear b0 b1 b2 c1 f1 c2 f2 hm1 hz
      generalize ((W1.alloc (.cells #[.int .i64 0] 3)).alloc (.cells #[.slice (some ⟨g, o, none⟩) l.length cap] 31)) = W2 at *
      generalize W1.heap.size = N at *
      clear hbe1
      have hS : ∀ b, (b = N + 1 ∨ b = g) → b < W2.heap.size := fun b h => by rcases h with rfl | rfl <;> omega
      refine wpIn_rangeFunc_ownL (k := 0) rfl (by decide) (gf := 69) (lb := #[.pointer (some ⟨N + 1, 0, none⟩)]) rfl trivial (enters_of Tryz.func69 (by kernel_rfl) rfl)
        (pairs_stops 3 (by decide) (N + 1) M (fun b => b = N + 1 ∨ b = g) (some ⟨g, o, none⟩) cap l W2 (.inl rfl) (fun g' o' h => by simp at h; exact .inr h.1.symm) hS d4 (unhide hl2) (by omega)) keepsS.trans (fun W lb o o' hlb hlo _ _ => ?kb) (fun W => keepsS.refl _ W)
        (fun W o hW => ?ka) (Below.refl _ _) (fun _ => rfl)
        (ParI w M N nm fn bv (prs l) R) (fun c _ W => ParX w M N nm fn bv R c W) (by rw [hz2]; exact ParI.abides w M N nm fn bv _ R hM hz1) (fun c => by rw [hz2]; exact ParX.abides w M N nm fn bv R c hM hz1)
        ⟨⟨[], _, hm2, World.ownsRow_nil _ _ _ _, rfl, fun rest h => by rw [List.nil_append] at h; rw [h]; exact (unhide HRR).symm⟩, d0, d1, d2, d3, hbe2.mono (by omega)⟩
        (fun x => [.cells (gC x.1) 74, .cells (gC x.2) 74])
        (fun x A => { tmps := #[.slice (some ⟨g, o, none⟩) l.length cap, .pointer (some ⟨M, 0, none⟩), undef, .pointer (some ⟨w.heap.size, 0, none⟩), .pointer (some ⟨w.heap.size + 1, 0, none⟩), .pointer (some ⟨w.heap.size + 1 + 1, 0, none⟩), .pointer (some ⟨N, 0, none⟩), .pointer (some ⟨A, 0, none⟩), .pointer (some ⟨A + 1, 0, none⟩),
          .slice (some ⟨g, o, none⟩) l.length cap, .int .i64 l.length, .bool true, .bool true, .slice (some ⟨g, o, none⟩) l.length cap, .pointer (some ⟨g, o, none⟩), .agg (gC t), .bool false, .bool false, .slice (some ⟨g, o, none⟩) l.length cap, .func (.func 69) #[] #[.pointer (some ⟨N + 1, 0, none⟩)], .agg (gC x.1), .agg (gC x.2),
          undef, undef, undef, undef, undef, undef, undef, undef, undef, undef, undef, undef, undef, undef, undef, undef, undef, undef, undef, undef, undef, undef, undef, undef, undef, undef, undef, undef, undef, undef, undef, undef, undef, undef, undef], defers := [] })
        ?assign ?body ?done ?stop
      case kb => exact fun b hb => World.putObj_heap_other (by have := hS b hb; omega)
      case ka => exact fun b hb => Below.heap_alloc _ _ _ (by have := hS b hb; omega)
      case assign =>
        intro l' x W' K hK
        simp only [encP2, gC, allocs] at hK ⊢
        gi_wp2
        simpa using hK
      case body =>
        rintro l' pre ⟨a, b⟩ W3 A hA hAo hno ⟨⟨acc, pv, m1, m2, m3, m4⟩, h0, h1, h2, h3, h4⟩ hpre
        rw [hz2] at hA
        have hA0 : W3.heap[A]? = some (.cells (gC a) 74) := hAo 0 _ rfl
        have hA1 : W3.heap[A + 1]? = some (.cells (gC b) 74) := hAo 1 _ rfl
        have hlen := pre_len hpre
        simp only [List.length_append, List.length_cons, List.length_nil] at hlen
        obtain ⟨rest, hrest⟩ := hpre
        have hgo := unhide m4 ((a, b) :: rest) (by rw [← hrest]; simp)
        have HGO := hide hgo
        have HRE := hide hrest
        clear hgo hrest m4 hAo hno
        have hc3 := h3.cell
        have hf3 := h3.frozen
        have hlt1 := (Array.getElem?_eq_some_iff.1 hA1).1
        obtain ⟨q, cp, rfl⟩ := ownsRow_slice m2
        -- the size is raised
        have x0 : PF w M N A nm fn (.slice q acc.length cp) false bv (2 * (pre.length : Int) + 2) a b (W3.setCell ⟨N, 0, none⟩ (.int .i64 (2 * (pre.length : Int) + 2))) :=
          ⟨m1.setCell (by omega) _, Boxed.setCell h0 (by omega) _, Boxed.setCell h1 (by omega) _, Boxed.setCell h2 (by omega) _, Boxed.set _ h3, h4.setCell (p := ⟨N, 0, none⟩) (by show M ≤ N; omega) _,
            (Below.heap_setCell _ _ _ _ (by show A ≠ N; omega)).trans hA0, (Below.heap_setCell _ _ _ _ (by show A + 1 ≠ N; omega)).trans hA1⟩
        have x1 : Kx (N + 2) (fun b => b = N + 1 ∨ b = g) W3 (W3.setCell ⟨N, 0, none⟩ (.int .i64 (2 * (pre.length : Int) + 2))) := Kx.setCell _ _ _ _ (fun c hc => by rcases hc with rfl | rfl <;> omega)
        have x2 : (W3.setCell ⟨N, 0, none⟩ (.int .i64 (2 * (pre.length : Int) + 2))).ownsRow (N + 4) 9 1 (.slice q acc.length cp) acc.length (sCells acc) := ownsRow_setCell m2 (by omega) _
        have hsb1 := hide (fun W => isSign_any b ⟨#[41]⟩ W)
        have hsb2 := hide (fun W => isSign_any b ⟨#[44]⟩ W)
        have hsa := hide (fun W => isSign_any a ⟨#[46, 46, 46]⟩ W)
        have G1 : Hid (sg b [41] = (decide (b.kind = 5) && decide (b.s = [41]))) := rfl
        have G2 : Hid (sg b [44] = (decide (b.kind = 5) && decide (b.s = [44]))) := rfl
        have G3 : Hid (sg a [46, 46, 46] = (decide (a.kind = 5) && decide (a.s = [46, 46, 46]))) := rfl
        simp only [Array.toList] at hsb1 hsb2 hsa
        simp only [gC] at hsb1 hsb2 hsa hA0 hA1 ⊢
        have e0 : W3.cell? ⟨A, 0, none⟩ = some (.int .i64 a.kind) := by rw [World.cell?, hA0]; rfl
        have hAN : A ≠ N := by omega
        have hNA : N ≠ A := by omega
        have hKN : Hid (∀ c, (c = N + 1 ∨ c = g) → c ≠ M ∧ c ≠ N ∧ c ≠ w.heap.size + 1 ∧ c ≠ w.heap.size + 1 + 1 ∧ c < W3.heap.size ∧ c < N + 4) := fun c hc => by rcases hc with rfl | rfl <;> omega
        generalize (decide (b.kind = 5) && decide (b.s = [41])) = g1 at *
        generalize (decide (b.kind = 5) && decide (b.s = [44])) = g2 at *
        generalize (decide (a.kind = 5) && decide (a.s = [46, 46, 46])) = g3 at *
        have X0 := hide x0
        have X1 := hide x1
        have X2 := hide x2
        have M3 := hide m3
        have hacl : acc.length ≤ l.length := by omega
        clear x0 x1 x2 m1 h0 h1 h2 h4 m2 m3
        by_cases hk : a.kind = 1
        · have i1 : (a.kind == 1) = true := by rw [beq_iff_eq]; exact hk
          have HK := hide hk
          clear hk
          gi_wp2
          generalize (W3.setCell ⟨N, 0, none⟩ (.int .i64 (2 * (pre.length : Int) + 2))) = W4 at *
          have hx := unhide X0
          have y0 := hx.m.five.2.2.1
          have y1 := hx.b0.cell
          have y2 : W4.cell? ⟨A, 1, none⟩ = some (.string ⟨a.s.toArray⟩) := by rw [World.cell?, hx.a]; rfl
          have hz4 := (unhide X1).size
          obtain ⟨i0, hi0, hz0, hzz1, hzz2⟩ := info_parts Tryz.info9
          refine wpIn_region_held_round (fun w' => w'.cell? ⟨M, 2, none⟩ = some (.slice q acc.length cp) ∧ w'.cell? ⟨w.heap.size, 0, none⟩ = some (.pointer (some ⟨M, 0, none⟩)) ∧ w'.cell? ⟨A, 1, none⟩ = some (.string ⟨a.s.toArray⟩))
            7 11 hmix (by kernel_rfl) (by kernel_rfl) (by kernel_rfl) (by kernel_rfl) (by kernel_rfl) (by kernel_rfl) (fun _ _ _ _ h => h) ⟨y0, y1, y2⟩ ?_
          simp only [List.take_succ_cons, List.take_zero, List.drop_succ_cons, List.drop_zero]
          iterate 7 (refine yields_cons _ (.inl ⟨rfl, fun W hS => (by obtain ⟨hs1, hs2, hs3⟩ := hS; go_simp; rfl)⟩) (fun B hB => ?_); simp only [Act.put, List.setIfInBounds_toArray, List.set_cons_zero, List.set_cons_succ] at hB; subst hB)
          refine yields_nil ?_
          refine wpListS_round (fun K hK => ?_)
          go_simp
          have lM := hx.m.lt
          have lb0 := hx.b0.lt
          have lA := (Array.getElem?_eq_some_iff.1 hx.a).1
          refine hK _ _ ⟨(World.cell?_of_block (Below.heap_alloc W4 _ M lM)).trans y0, (World.cell?_of_block (Below.heap_alloc W4 _ _ lb0)).trans y1, (World.cell?_of_block (Below.heap_alloc W4 _ A lA)).trans y2⟩ ?_
          clear hK K
          refine wpListS_round (fun K hK => ?_)
          have hro := unhide X2
          refine stepIn_append (by rfl) _ _ 30 (by rfl) (N + 4) 9 i0 _ 1 16 Tryz.underlying30 hi0 hz0 hzz1 hzz2 rfl (by decide) (.slice q acc.length cp) acc.length (sCells acc) (by rfl) ((hro.alloc _).drew)
            ⟨W4.heap.size, 0, none⟩ 1 1 [.string ⟨a.s.toArray⟩] (by rfl) (by rfl)
            (World.news_of_block (cs := #[.string ⟨a.s.toArray⟩]) (t := 9) (fr := (0, 0)) (heap_alloc_new W4 _)) (by simp [Value.oneCell'])
            (by unfold maxLen; omega) (by omega) (by simp; omega) ?_
          intro v5 W5 hown5 hgrow
          obtain ⟨gg, cap5, rfl⟩ := ownsRow_succ hown5
          have hrd := ((hro.alloc (.cells #[.string ⟨a.s.toArray⟩] 9)).drew)
          have z0 : PF w M N A nm fn (.slice q acc.length cp) false bv (2 * (pre.length : Int) + 2) a b W5 :=
            (hx.below (((Below.refl _ W4).alloc (Nat.le_refl _) (.cells #[.string ⟨a.s.toArray⟩] 9)).drew)).row hrd hgrow (by omega) (by omega) (by omega) (by decide)
          have z1 : Kx (N + 2) (fun b => b = N + 1 ∨ b = g) W4 W5 :=
            ((Kx.alloc W4 _ (fun c hc => by have := unhide hKN c hc; omega)).trans (Kx.drew _)).trans (Kx.row hrd hgrow (fun c hc => by have := unhide hKN c hc; simp; omega))
          have u0 : W5.cell? ⟨M, 2, none⟩ = some (.slice q acc.length cp) := z0.m.five.2.2.1
          have u1 := z0.b0.cell
          have u2 : W5.cell? ⟨A, 1, none⟩ = some (.string ⟨a.s.toArray⟩) := by rw [World.cell?, z0.a]; rfl
          have u3 := z0.m.frozen 2
          have Z1 := hide ((unhide X1).trans z1)
          have z2 : PF w M N A nm fn (.slice (some ⟨gg, 0, none⟩) (acc.length + 1) cap5) false bv (2 * (pre.length : Int) + 2) a b (W5.setCell ⟨M, 2, none⟩ (.slice (some ⟨gg, 0, none⟩) (acc.length + 1) cap5)) :=
            ⟨z0.m.set2 _, Boxed.setCell z0.b0 (by omega) _, Boxed.setCell z0.b1 (by omega) _, Boxed.setCell z0.b2 (by omega) _, Boxed.setCell z0.b3 (by omega) _, z0.be.setCell (p := ⟨M, 2, none⟩) (Nat.le_refl _) _,
              (Below.heap_setCell _ _ _ _ (by show A ≠ M; omega)).trans z0.a, (Below.heap_setCell _ _ _ _ (by show A + 1 ≠ M; omega)).trans z0.b⟩
          have Z2 := hide z2
          have Z3 := hide ((unhide Z1).trans (Kx.setCell (N := N + 2) (S := fun b => b = N + 1 ∨ b = g) W5 M 2 (.slice (some ⟨gg, 0, none⟩) (acc.length + 1) cap5) (fun c hc => (unhide hKN c hc).1)))
          have Z4 : Hid ((W5.setCell ⟨M, 2, none⟩ (.slice (some ⟨gg, 0, none⟩) (acc.length + 1) cap5)).ownsRow (N + 4) 9 1 (.slice (some ⟨gg, 0, none⟩) (acc.length + 1) cap5) (acc.length + 1) (sCells acc ++ [.string ⟨a.s.toArray⟩])) := ownsRow_setCell hown5 (by omega) _
          refine hK _ _ ⟨u0, u1, u2⟩ ?_
          have hAM : A + 1 ≠ M := by omega
          have v0 : W5.cell? ⟨A + 1, 0, none⟩ = some (.int .i64 b.kind) := by rw [World.cell?, z0.b]; rfl
          have v1 : W5.cell? ⟨A + 1, 1, none⟩ = some (.string ⟨b.s.toArray⟩) := by rw [World.cell?, z0.b]; rfl
          have v2 : W5.cell? ⟨A + 1, 2, none⟩ = some (.string ⟨b.f.toArray⟩) := by rw [World.cell?, z0.b]; rfl
          have v3 : W5.cell? ⟨A + 1, 3, none⟩ = some (.int .i64 b.line) := by rw [World.cell?, z0.b]; rfl
          have v4 : W5.cell? ⟨A + 1, 4, none⟩ = some (.bool b.sp) := by rw [World.cell?, z0.b]; rfl
          have v5 : W5.cell? ⟨A + 1, 5, none⟩ = some (.bool b.fi) := by rw [World.cell?, z0.b]; rfl
          clear hK K z1 z2 Z1 hown5 hgrow hrd z0 hx
          refine wpListS_round (fun K hK => ?_)
          go_simp
          refine hK _ _ ⟨u0, u1, u2⟩ ?_
          clear hK K
          refine wpListS_round (fun K hK => ?_)
          go_simp
          refine hK _ _ ⟨u0, u1, u2⟩ ?_
          clear hK K
          refine listS_nil' ?_
          gi_wp2_with fail
          refine ⟨trivial, ?_⟩
          refine (CallsIn.inRound l' (callsIn_wide.2 (unhide hsb1 _))).mono ?_
          rintro e W6 ⟨rfl, hb6⟩
          have hx6 := (unhide Z2).below hb6
          have hr6 : Hid (W6.ownsRow (N + 4) 9 1 (.slice (some ⟨gg, 0, none⟩) (acc.length + 1) cap5) (acc ++ [a.s]).length (sCells (acc ++ [a.s]))) := by
            have := ownsRow_bel (unhide Z4) hb6
            simpa [Hid, sCells] using this
          have hk6 := hide ((unhide Z3).trans (Kx.below hb6 (fun c hc => by have := (unhide hKN c hc).2.2.2.2.1; have := (unhide Z3).size; omega)))
          clear Z2 Z3 Z4 hb6 v0 v1 v2 v3 v4 v5 u0 u1 u2 u3
          generalize (W5.setCell ⟨M, 2, none⟩ (.slice (some ⟨gg, 0, none⟩) (acc.length + 1) cap5)) = W5s at *
          have t3 := hx6.b3.cell
          have t1 := hx6.b1.cell
          have t1f := hx6.b1.frozen
          have t2 := hx6.b2.cell
          have t2f := hx6.b2.frozen
          have t0 := hx6.b0.cell
          have tm := hx6.m.five.2.2.2.1
          have v0 : W6.cell? ⟨A + 1, 0, none⟩ = some (.int .i64 b.kind) := by rw [World.cell?, hx6.b]; rfl
          have v1 : W6.cell? ⟨A + 1, 1, none⟩ = some (.string ⟨b.s.toArray⟩) := by rw [World.cell?, hx6.b]; rfl
          have v2 : W6.cell? ⟨A + 1, 2, none⟩ = some (.string ⟨b.f.toArray⟩) := by rw [World.cell?, hx6.b]; rfl
          have v3 : W6.cell? ⟨A + 1, 3, none⟩ = some (.int .i64 b.line) := by rw [World.cell?, hx6.b]; rfl
          have v4 : W6.cell? ⟨A + 1, 4, none⟩ = some (.bool b.sp) := by rw [World.cell?, hx6.b]; rfl
          have v5 : W6.cell? ⟨A + 1, 5, none⟩ = some (.bool b.fi) := by rw [World.cell?, hx6.b]; rfl
          have HX6 := hide hx6
          clear hx6
          cases g1
          · have hgo2 : Hid ((if sg b [44] then goP (acc ++ [a.s]) (2 * pre.length + 2) rest else none) = R) := by
              have := unhide HGO
              rw [goP, if_pos (unhide HK), unhide G1, if_neg (by decide)] at this
              exact this
            gi_wp2_with fail
            refine ⟨trivial, ?_⟩
            refine (CallsIn.inRound l' (callsIn_wide.2 (unhide hsb2 _))).mono ?_
            rintro e W7 ⟨rfl, hb7⟩
            have hx7 := hide ((unhide HX6).below hb7)
            have hr7 := hide (ownsRow_bel (unhide hr6) hb7)
            have hk7 := hide ((unhide hk6).trans (Kx.below hb7 (fun c hc => by have := (unhide hKN c hc).2.2.2.2.1; have := (unhide hk6).size; omega)))
            cases g2
            · have hRR : Hid (R = none) := by
                have := unhide hgo2
                rw [unhide G2, if_neg (by decide)] at this
                exact this.symm
              gi_wp2
              rw [hz2]
              exact par_exit (unhide hx7) (unhide hk7) (unhide hRR)
            · have hRR : Hid (goP (acc ++ [a.s]) (2 * pre.length + 2) rest = R) := by
                have := unhide hgo2
                rw [unhide G2, if_pos rfl] at this
                exact this
              gi_wp2
              rw [hz2]
              refine ⟨(unhide hk7).fr, (unhide hk7).o, (unhide hk7).s, ⟨acc ++ [a.s], _, (unhide hx7).m, unhide hr7, by simp [unhide M3], ?_⟩, (unhide hx7).b0, (unhide hx7).b1, (unhide hx7).b2, ?_, (unhide hx7).be⟩
              · intro rest' h'
                have e1 := unhide HRE
                rw [← e1] at h'
                obtain rfl := List.append_cancel_left h'
                have := unhide hRR
                simpa [Nat.mul_add] using this
              · have := (unhide hx7).b3
                simpa [Nat.mul_add] using this
          · have hRR : Hid (R = some (acc ++ [a.s], false, 2 * pre.length + 2)) := by
              have := unhide HGO
              rw [goP, if_pos (unhide HK), unhide G1, if_pos rfl] at this
              exact this.symm
            gi_wp2
            rw [hz2]
            exact par_ret hM hz1 (unhide HX6) (unhide hk6) (unhide hr6) (unhide hRR) (fun c hc => by have := unhide hKN c hc; omega)
        · have i1 : (a.kind == 1) = false := by rw [beq_eq_false_iff_ne]; exact hk
          have HK := hide hk
          clear hk
          have e1 : W3.cell? ⟨A, 1, none⟩ = some (.string ⟨a.s.toArray⟩) := by rw [World.cell?, hA0]; rfl
          have e2 : W3.cell? ⟨A, 2, none⟩ = some (.string ⟨a.f.toArray⟩) := by rw [World.cell?, hA0]; rfl
          have e3 : W3.cell? ⟨A, 3, none⟩ = some (.int .i64 a.line) := by rw [World.cell?, hA0]; rfl
          have e4 : W3.cell? ⟨A, 4, none⟩ = some (.bool a.sp) := by rw [World.cell?, hA0]; rfl
          have e5 : W3.cell? ⟨A, 5, none⟩ = some (.bool a.fi) := by rw [World.cell?, hA0]; rfl
          gi_wp2_with fail
          refine ⟨trivial, ?_⟩
          refine (CallsIn.inRound l' (callsIn_wide.2 (unhide hsa _))).mono ?_
          rintro e W6 ⟨rfl, hb6⟩
          have hx6 := (unhide X0).below hb6
          have hr6 := hide (ownsRow_bel (unhide X2) hb6)
          have hk6 := hide ((unhide X1).trans (Kx.below hb6 (fun c hc => by have := (unhide hKN c hc).2.2.2.2.1; have := (unhide X1).size; omega)))
          clear X0 X1 X2 hb6 e0 e1 e2 e3 e4 e5
          generalize (W3.setCell ⟨N, 0, none⟩ (.int .i64 (2 * (pre.length : Int) + 2))) = W5s at *
          have HX6 := hide hx6
          cases g3
          · have hRR : Hid (R = none) := by
              have := unhide HGO
              rw [goP, if_neg (unhide HK), unhide G3, if_neg (by decide)] at this
              exact this.symm
            clear hx6
            gi_wp2
            rw [hz2]
            exact par_exit (unhide HX6) (unhide hk6) (unhide hRR)
          · have t0 := hx6.b0.cell
            have tm := hx6.m.five.2.2.2.1
            have tf := hx6.m.frozen 3
            have v0 : W6.cell? ⟨A + 1, 0, none⟩ = some (.int .i64 b.kind) := by rw [World.cell?, hx6.b]; rfl
            have v1 : W6.cell? ⟨A + 1, 1, none⟩ = some (.string ⟨b.s.toArray⟩) := by rw [World.cell?, hx6.b]; rfl
            have v2 : W6.cell? ⟨A + 1, 2, none⟩ = some (.string ⟨b.f.toArray⟩) := by rw [World.cell?, hx6.b]; rfl
            have v3 : W6.cell? ⟨A + 1, 3, none⟩ = some (.int .i64 b.line) := by rw [World.cell?, hx6.b]; rfl
            have v4 : W6.cell? ⟨A + 1, 4, none⟩ = some (.bool b.sp) := by rw [World.cell?, hx6.b]; rfl
            have v5 : W6.cell? ⟨A + 1, 5, none⟩ = some (.bool b.fi) := by rw [World.cell?, hx6.b]; rfl
            have hAM : A + 1 ≠ M := by omega
            have z2 : Hid (PF w M N A nm fn (.slice q acc.length cp) true bv (2 * (pre.length : Int) + 2) a b (W6.setCell ⟨M, 3, none⟩ (.bool true))) :=
              ⟨hx6.m.set3 _, Boxed.setCell hx6.b0 (by omega) _, Boxed.setCell hx6.b1 (by omega) _, Boxed.setCell hx6.b2 (by omega) _, Boxed.setCell hx6.b3 (by omega) _, hx6.be.setCell (p := ⟨M, 3, none⟩) (Nat.le_refl _) _,
                (Below.heap_setCell _ _ _ _ (by show A ≠ M; omega)).trans hx6.a, (Below.heap_setCell _ _ _ _ (by show A + 1 ≠ M; omega)).trans hx6.b⟩
            have z3 := hide ((unhide hk6).trans (Kx.setCell (N := N + 2) (S := fun b => b = N + 1 ∨ b = g) W6 M 3 (.bool true) (fun c hc => (unhide hKN c hc).1)))
            have z4 := hide (ownsRow_setCell (i := 3) (unhide hr6) (by omega : M < N + 4) (.bool true))
            clear hx6
            gi_wp2_with fail
            refine ⟨trivial, ?_⟩
            refine (CallsIn.inRound l' (callsIn_wide.2 (unhide hsb1 _))).mono ?_
            rintro e W7 ⟨rfl, hb7⟩
            have hx7 := (unhide z2).below hb7
            have HX7 := hide hx7
            have hr7 := hide (ownsRow_bel (unhide z4) hb7)
            have hk7 := hide ((unhide z3).trans (Kx.below hb7 (fun c hc => by have := (unhide hKN c hc).2.2.2.2.1; have := (unhide z3).size; omega)))
            clear t0 tm tf v0 v1 v2 v3 v4 v5 z2 z3 z4 hb7
            generalize W6.setCell ⟨M, 3, none⟩ (.bool true) = W6s at *
            have t3 := hx7.b3.cell
            have t1 := hx7.b1.cell
            have t1f := hx7.b1.frozen
            have t2 := hx7.b2.cell
            have t2f := hx7.b2.frozen
            have t0 := hx7.b0.cell
            have tm := hx7.m.five.2.2.2.1
            clear hx7
            cases g1
            · have hRR : Hid (R = none) := by
                have := unhide HGO
                rw [goP, if_neg (unhide HK), unhide G3, if_pos rfl, unhide G1, if_neg (by decide)] at this
                exact this.symm
              gi_wp2
              rw [hz2]
              exact par_exit (unhide HX7) (unhide hk7) (unhide hRR)
            · have hRR : Hid (R = some (acc, true, 2 * pre.length + 2)) := by
                have := unhide HGO
                rw [goP, if_neg (unhide HK), unhide G3, if_pos rfl, unhide G1, if_pos rfl] at this
                exact this.symm
              gi_wp2
              rw [hz2]
              exact par_ret hM hz1 (unhide HX7) (unhide hk7) (unhide hr7) (unhide hRR) (fun c hc => by have := unhide hKN c hc; omega)
      case done =>
        rintro D W' hD ⟨⟨acc, pv, m1, m2, m3, m4⟩, h0, h1, h2, h3, h4⟩ hK
        obtain ⟨q, cq, rfl⟩ := ownsRow_slice m2
        have hRR : Hid (R = none) := (unhide m4 [] (by simp)).symm
        have c1 := h1.cell
        have f1 := h1.frozen
        have c2 := h2.cell
        have f2 := h2.frozen
        have hKlt := (Array.getElem?_eq_some_iff.1 hK).1
        gi_wp2
        try rw [Exit.noGoto_ret]
        exact par_end hM hz1 (by omega) hK (unhide hRR) m1 h1 h2 h4 rfl rfl
      case stop =>
        rintro D c pre W' hD _ ⟨h4, (⟨rfl, ps, more, k, pv, h0, m1, m2, h1, h2⟩ | ⟨rfl, h0, q, n, c, more, m1, h1, h2⟩)⟩ hK
        · gi_wp2
          try rw [Exit.noGoto_ret]
          refine ⟨by simp, .inl ⟨_, _, rfl, run_takeDeferred hK, ?_⟩⟩
          have hother : ∀ j, j ≠ D → (W'.putObj D (.deferred none)).heap[j]? = W'.heap[j]? := fun j hj => World.putObj_heap_other (by omega)
          have r1 : Boxed (W'.putObj D (.deferred none)) (w.heap.size + 1) 3 (.int .i64 (k : Nat)) := (hother _ (by omega)).trans h1
          have r2 : Boxed (W'.putObj D (.deferred none)) (w.heap.size + 2) 4 (.bool true) := (hother _ (by omega)).trans h2
          refine ⟨_, res63 rfl rfl r1.cell r2.cell, h4.grown (grownBy_putObj' W' D _) (by have := h4.size; omega) (fun r e => by cases e; omega), .inr ⟨ps, more, k, pv, unhide h0, rfl, (hother _ (by omega)).trans m1, ?_⟩⟩
          exact ownsRow_base (ownsRow_putObj m2 (.deferred none) hK rfl) (by omega)
        · have c1 := h1.cell
          have f1 := h1.frozen
          have c2 := h2.cell
          have f2 := h2.frozen
          have hKlt := (Array.getElem?_eq_some_iff.1 hK).1
          gi_wp2
          try rw [Exit.noGoto_ret]
          exact par_end hM hz1 (by omega) hK (unhide h0) m1 h1 h2 h4 rfl rfl
    · have HRR : Hid (R = some ([], false, 1)) := by rw [Hid, unhide HR, unhide hsg]; rfl
      gi_wp2
      try rw [Exit.noGoto_ret]
      refine ⟨_, res63 rfl rfl (Boxed.setCell (Boxed.set (.int .i64 1) b1) (by omega) _).cell (Boxed.set _ (Boxed.setCell b2 (by omega) _)).cell, ?_, .inr ⟨[], false, 1, .slice none 0 0, unhide HRR, rfl, (hm1.setCell (by omega) _).setCell (by omega) _, World.ownsRow_nil _ _ _ _⟩⟩
      exact ((hbe1.mono (by omega)).setCell (p := ⟨w.heap.size + 1, 0, none⟩) (by show M ≤ w.heap.size + 1; omega) _).setCell (p := ⟨w.heap.size + 1 + 1, 0, none⟩) (by show M ≤ w.heap.size + 1 + 1; omega) _
end Go.Proofs.YticiddcgafhkhaaGreatDoor
