/-
  Package shape: leaves, an iterator; Leaves.
-/
import Derived.Test.YtgomlfaekfabpaaMf
import Derived.Test.YtgomlfaekfabpaaZzd
namespace Go.Proofs.Ytgomlfaekfabpaa
open Go Go.RowKit Go.Shelf
attribute [local go_sem] Oper.semAt_some
set_option linter.unusedVariables false
set_option linter.unusedSimpArgs false

/-- What leaves asks of its rounds. -/
structure Kp0 (N0 : Nat) (A B : World) : Prop where
  be : Below N0 A B
  bk : ∀ j T cs, (T = 77 ∨ T = 25 ∨ T = 2 ∨ T = 113 ∨ T = 4) → Bk A j T cs → Bk B j T cs
theorem Kp0.trans {N0 : Nat} {A B C : World} (h : Kp0 N0 A B) (k : Kp0 N0 B C) : Kp0 N0 A C := ⟨h.be.trans k.be, fun j T cs hT b => k.bk j T cs hT (h.bk j T cs hT b)⟩
theorem Kp0.below {N0 : Nat} {A B : World} (h : Below A.heap.size A B) (hN : N0 ≤ A.heap.size) : Kp0 N0 A B := ⟨h.mono hN, fun j T cs _ b => b.below h⟩
theorem Kp0.set {N0 : Nat} {A : World} {b i : Nat} {T : TypeId} {cs : Array Value} (hb : Bk A b T cs) (hT : T = 30 ∨ T = 27) (hN : N0 ≤ b) (v : Value) : Kp0 N0 A (A.setCell ⟨b, i, none⟩ v) := by
  refine ⟨(Below.refl _ A).setCell (p := ⟨b, i, none⟩) hN v, fun j T' cs' hT' h => h.other _ _ (fun e => ?_)⟩
  subst e
  unfold Bk at h hb
  rw [hb] at h
  simp at h
  have h2 := h.2
  rcases hT with rfl | rfl <;> rcases hT' with rfl | rfl | rfl | rfl | rfl <;> revert h2 <;> decide
theorem Kp0.put {N0 : Nat} {A : World} {l : Nat} {o : Obj} (hl : A.heap[l]? = some o) (ho : o.isCells = false) (hN : N0 ≤ l) (o' : Obj) : Kp0 N0 A (A.putObj l o') := by
  refine ⟨(Below.refl _ A).grown (grownBy_putObj' A l o') (by have := (Array.getElem?_eq_some_iff.1 hl).1; omega) (fun r e => by cases e; omega), fun j T cs' _ h => (World.putObj_heap_other (fun e => ?_)).trans h⟩
  subst e
  unfold Bk at h
  rw [hl] at h
  cases h
  cases ho
theorem Kp0.rowG {W W' : World} {base n N0 : Nat} {v : Value} {xs : List Value} (hr : W.ownsRow base 42 3 v n xs) (hg : W.grownBy W' v.ownBlock) (hN : N0 ≤ base) (hW : N0 ≤ W.heap.size) : Kp0 N0 W W' :=
  ⟨(Below.refl _ W).grown hg hW (fun r e' => Nat.le_trans hN (row_turnS hr r e').1), fun j T cs hT h => h.rowG hr hg (by rcases hT with rfl | rfl | rfl | rfl | rfl <;> decide)⟩
theorem yield_any {n m l : Nat} {P : Program} {args : Array Value} {W : World} {R R' : Ending → World → Prop} (h : YieldAt Fence.wide n P l args W R) (hr : ∀ e w', R e w' → R' e w') : YieldAt Fence.wide m P l args W R' := by
  obtain ⟨fn, tmps, assign, body, h1, h2⟩ := h
  exact ⟨fn, tmps, assign, body, h1, (RoundIn.mono ⟨h2.1, fun c cs _ => h2.2 c cs (room_wide _)⟩ hr)⟩
theorem leaves_any (t : ShT) (w : World) :
    Calls Try.prog 44 #[t.v] w fun e w' => e = .returned (.func (.func 72) #[] #[.pointer (some ⟨w.heap.size, 0, none⟩)]) ∧ w' = w.alloc (.cells t.cs 25) := by
  unfold ShT.v ShT.cs
  go_enter Try.func44, Try.ntmps44
  go_wp2
  go_ret
  exact ⟨rfl, rfl⟩
set_option maxRecDepth 100000 in
set_option maxHeartbeats 8000000 in
theorem leaves1_in (n : Nat) (lp Bd : Nat) (t : ShT) (full : List Mb) (J Jx : List Mb → World → Prop) (W : World)
    (hw : Calls Try.prog 73 #[t.v, .int .i64 0, .func (.yield lp) #[] #[]] W fun e W' => (∃ v, e = .returned v) ∧ (J full W' ∨ ∃ p, p <+: full ∧ Jx p W'))
    (hb : Bk W Bd 25 t.cs) :
    CallsIn Fence.wide n Try.prog 72 #[.func (.yield lp) #[] #[], .pointer (some ⟨Bd, 0, none⟩)] W fun e W' => (∃ v, e = .returned v) ∧ (J full W' ∨ ∃ p, p <+: full ∧ Jx p W') := by
  obtain ⟨c0, c1, c2, c3, c4, c5, c6⟩ := TyB.seven (t := t) hb
  have HW := veil hw
  clear hw hb
  unfold ShT.v ShT.cs at HW
  refine callsIn_of_wp Try.func72 rfl trivial ?_ rfl
  simp only [Try.ntmps72, List.size_toArray, List.length_cons, List.length_nil, Nat.reduceAdd, Nat.reduceSub, Array.replicate_succ, Array.replicate_zero, List.push_toArray, List.append_toArray, List.nil_append, List.cons_append]
  gi_wp2
  refine ⟨trivial, (fun h => by cases h), (callsIn_wide.2 (unveil HW)).mono ?_⟩
  rintro e W6 ⟨⟨v, rfl⟩, h6⟩
  gi_wp2
  refine bodyPost_end (results_none (fn := Try.f72) rfl _ _ _) rfl ?_
  exact ⟨⟨_, rfl⟩, h6⟩
theorem leaves_stops (n Bd N0 : Nat) (t : ShT) (hr : rigM 6 t = true) (hs : (meaM 6 t).1 ≤ 65536) (w : World) (hN : N0 ≤ w.heap.size) (hb : Bk w Bd 25 t.cs) (hin : t.In N0 w) :
    SeqStopsT 4 Fence.wide n Try.prog 72 #[.pointer (some ⟨Bd, 0, none⟩)] encS (Kp0 N0) (leaM 6 t 0) w := by
  intro lp J Jx W hW hJ hJx hY h0
  have hy : Yd lp N0 W.heap.size (leaM 6 t 0) J Jx := ⟨hJ, hJx, fun pre x W1 h1 h2 _ h4 m => yield_any (hY pre x W1 h1 h2 h4) (fun e w' h => by
    rcases h with ⟨q1, q2, q3, q4⟩ | ⟨q1, q2, q3, q4⟩
    · exact .inl ⟨q1, q2, q4.be, q4.bk, q3⟩
    · exact .inr ⟨q1, ⟨_, h4, q2⟩, q4.be, q4.bk, q3⟩)⟩
  have hwk := walk_any 6 (Nat.le_refl _) t 0 lp N0 W.heap.size (leaM 6 t 0) [] J Jx W hy hr hs (Int.le_refl _) (by omega) (hin.below (hW.mono hN)) h0 (Nat.le_refl _) (Nat.le_trans hN hW.size) (by rw [List.nil_append]; exact List.prefix_refl _)
  rw [List.nil_append] at hwk
  refine leaves1_in n lp Bd t _ J Jx W (hwk.mono fun e W' h => ?_) (hb.below hW)
  rcases h with ⟨q1, q2, _⟩ | ⟨q1, q2, _⟩
  · exact ⟨⟨_, q1⟩, .inl q2⟩
  · exact ⟨⟨_, q1⟩, .inr q2⟩
end Go.Proofs.Ytgomlfaekfabpaa
