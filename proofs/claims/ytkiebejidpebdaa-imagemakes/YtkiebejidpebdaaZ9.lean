/-
  A law of the walk: a range over an iterator that is a recursive function: it keeps state of its own in boxes of one type, however many.
  Package shape: walkMember; the numbers and pointers of a type, on lists.
  Package shape: walk, of a number and of a pointer.
  Package shape: walk, of an array.
  Package shape: walk, of a struct or a union.
  Package shape: walk, of whatever type is right and not too big; leaves.
  Package shape: leaves, an iterator; Leaves.
  Package shape: Leaves.
-/
import Derived.Test.YtkiebejidpebdaaUo
import Derived.Test.YtkiebejidpebdaaZ4
import Derived.Test.YtkiebejidpebdaaUp
import Derived.Test.YtkiebejidpebdaaZ5
namespace Go.Proofs.Ytkiebejidpebdaa
open Go Go.RowKit
set_option linter.unusedVariables false
variable {T : TypeId} {F : Fence} {n : Nat} {P : Program}

theorem kf_up {B B' : Nat} {W W' : World} (h : KeepsFrom B W W') (hB : B ≤ B') : KeepsFrom B' W W' := ⟨h.size, fun j o hj h0 ho => h.same j o (Nat.le_trans hB hj) h0 ho⟩
/-- What abides draws, new blocks, turns of what is no cells from B on, and turns of boxes of type T from B on. -/
structure AbT {β : Type} (B : Nat) (T : TypeId) (J : β → World → Prop) : Prop where
  turn : ∀ s W W' row, J s W → W.grownBy W' row → (∀ r, row = some r → B ≤ r ∧ ((∃ o : Obj, W.heap[r]? = some o ∧ o.isCells = false) ∨ ∃ cs, Bk W r T cs)) → J s W'
  drew : ∀ s W, J s W → J s W.drew
theorem AbT.alloc {β : Type} {B : Nat} {J : β → World → Prop} (h : AbT B T J) {s : β} {W : World} (o : Obj) (hs : J s W) : J s (W.alloc o) :=
  h.turn s W _ none hs (World.grownBy_alloc W o none) (fun r e => by cases e)
theorem AbT.below {β : Type} {B : Nat} {J : β → World → Prop} (h : AbT B T J) {s : β} {W W' : World} (hb : Below W.heap.size W W') (hs : J s W) : J s W' :=
  h.turn s W _ none hs (below_grown hb) (fun r e => by cases e)
theorem AbT.putObj {β : Type} {B : Nat} {J : β → World → Prop} (h : AbT B T J) {s : β} {W : World} {l : Nat} {o : Obj} (o' : Obj) (hs : J s W) (hB : B ≤ l) (hl : W.heap[l]? = some o) (ho : o.isCells = false) : J s (W.putObj l o') :=
  h.turn s W _ (some l) hs (grownBy_putObj' W l o') (fun r e => by cases e; exact ⟨hB, .inl ⟨o, hl, ho⟩⟩)
theorem AbT.setCell {β : Type} {B : Nat} {J : β → World → Prop} (h : AbT B T J) {s : β} {W : World} {b : Nat} {cs : Array Value} (v : Value) (hs : J s W) (hB : B ≤ b) (hb : Bk W b T cs) : J s (W.setCell ⟨b, 0, none⟩ v) :=
  h.turn s W _ (some b) hs (grownBy_setCell' W b v) (fun r e => by cases e; exact ⟨hB, .inr ⟨cs, hb⟩⟩)
theorem AbT.abides {β : Type} {B B' C : Nat} {J : β → World → Prop} (h : AbT B T J) (hB : B ≤ B') : AbidesO B' C 0 J :=
  ⟨fun s W W' row hs hg hr => h.turn s W W' row hs hg (fun r e => ⟨Nat.le_trans hB (hr r e).1, by
    rcases (hr r e).2 with h | h
    · omega
    · exact .inl h⟩), h.drew⟩
theorem AbT.false {β : Type} (B : Nat) (T : TypeId) : AbT B T (fun (_ : β) (_ : World) => False) := ⟨fun s W W' row hs _ _ => hs, fun s W hs => hs⟩
/-- The contract of an iterator that tells the elements of 'full', one by one. -/
def SeqStopsT {α : Type} (T : TypeId) (F : Fence) (n : Nat) (P : Program) (g : Nat) (lb : Array Value) (encs : α → Array Value) (Kp : World → World → Prop) (full : List α) (w : World) : Prop :=
  ∀ (l : Nat) (J Jx : List α → World → Prop) (W : World), Below w.heap.size w W → AbT W.heap.size T J → AbT W.heap.size T Jx →
    (∀ pre x W1, J pre W1 → W.heap.size ≤ W1.heap.size → pre ++ [x] <+: full → YieldAt F (n - 1) P l (encs x) W1 fun e W' =>
      (e = .returned (.bool true) ∧ J (pre ++ [x]) W' ∧ KeepsFrom W.heap.size W1 W' ∧ Kp W1 W') ∨ (e = .returned (.bool false) ∧ Jx (pre ++ [x]) W' ∧ KeepsFrom W.heap.size W1 W' ∧ Kp W1 W')) →
    J [] W →
    CallsIn F n P g (#[.func (.yield l) #[] #[]] ++ lb) W fun e W' => (∃ v, e = .returned v) ∧ (J full W' ∨ (∃ pre, pre <+: full ∧ Jx pre W'))
/-- How the body of a round may be left. -/
def postT {α : Type} (B : Nat) (Kp : World → World → Prop) (I : List α → World → Prop) (Ix : Code → List α → World → Prop) (xs : List α) (W : World) : Exit → Act → World → Prop
  | .normal, _, W' => KeepsFrom B W W' ∧ Kp W W' ∧ I xs W'
  | .ret, _, W' => KeepsFrom B W W' ∧ Kp W W' ∧ Ix .ret xs W'
  | .exit id, _, W' => KeepsFrom B W W' ∧ Kp W W' ∧ Ix (.exit id) xs W'
  | .goto t, _, W' => KeepsFrom B W W' ∧ Kp W W' ∧ Ix (.goto t) xs W'
  | .panic _, _, _ => False
  | .outgrown, _, _ => False

theorem wpIn_rangeFunc_ownT {α : Type} {g : Operand} {ps : Array Tmp} {assign body : Code} {Q : Exit → Act → World → Prop} {a : Act} {w : World}
    (hro : F.round = none) (h1 : 1 ≤ n) {gf : Nat} {lb : Array Value} (hg : a.eval g = .func (.func gf) #[] lb) (hFg : F.fn gf) (eg : ∀ args w, (callFunc gf args).run P w = .ok (.enter gf args) w)
    {encs : α → Array Value} {Kp : World → World → Prop} {full : List α} {w0 : World} (hseq : SeqStopsT T F (n - 1) P gf lb encs Kp full w0)
    (hKt : ∀ {A B C : World}, Kp A B → Kp B C → Kp A C) (hKb : ∀ (W : World) (l : Nat) (o o' : Obj), w.heap.size ≤ l → W.heap[l]? = some o → o.isCells = false → o.isWalk = false → Kp W (W.putObj l o')) (hKa : ∀ (W : World) (o : Obj), w.heap.size ≤ W.heap.size → Kp W (W.alloc o)) (hb0 : Below w0.heap.size w0 w) (hps : ∀ x, (encs x).size = ps.size)
    (I : List α → World → Prop) (Ix : Code → List α → World → Prop) (hI : AbT w.heap.size T I) (hIx : ∀ c, AbT w.heap.size T (Ix c)) (h0 : I [] w) (oA : α → Obj) (a₁ : α → Nat → Act)
    (hassign : ∀ (l : Nat) (x : α) (W : World) (K : Act → World → Prop), K (a₁ x W.heap.size) (W.alloc (oA x)) →
      assign.wpIn (F.inRound l) (n - 1 - 1) P (Exit.then K (fun _ _ _ => False)) { tmps := (ps.zip (encs x)).foldl (fun t (p, v) => t.setIfInBounds p v) a.tmps, defers := [] } W)
    (hbody : ∀ (l : Nat) (pre : List α) (x : α) (W : World) (A : Nat), w.heap.size + 2 ≤ A → W.heap[A]? = some (oA x) → I pre W → pre ++ [x] <+: full → body.wpIn (F.inRound l) (n - 1 - 1) P (postT w.heap.size Kp I Ix (pre ++ [x]) W) (a₁ x A) W)
    (hdone : ∀ (D : Nat) (W : World), w.heap.size ≤ D → I full W → W.heap[D]? = some (.deferred (some [])) → Q .normal { a with defers := { target := .collected D, args := #[] } :: a.defers } W)
    (hstop : ∀ (D : Nat) (c : Code) (pre : List α) (W : World), w.heap.size ≤ D → pre <+: full → Ix c pre W → W.heap[D]? = some (.deferred (some [])) → c.wpIn F n P Q { a with defers := { target := .collected D, args := #[] } :: a.defers } W) :
    (Code.rangeFunc g ps assign body).wpIn F n P Q a w := by
  refine wpIn_rangeFunc ?_
  intro fn hfn
  rw [hro]
  obtain ⟨rec, hrec⟩ : ∃ rec : LoopState → Option Code → Loop, rec = fun st pe => { state := st, pending := pe, fn, tmps := a.tmps, params := ps, assign, body, defers := w.heap.size } := ⟨_, rfl⟩
  obtain ⟨W1, hW1⟩ : ∃ W1, (w.alloc (.deferred (some []))).alloc (.loop (rec .ready none)) = W1 := ⟨_, rfl⟩
  have hsz : W1.heap.size = w.heap.size + 2 := by rw [← hW1]; simp
  have hL1 : W1.heap[w.heap.size + 1]? = some (.loop (rec .ready none)) := by
    rw [← hW1]; have := World.alloc_heap_new (w.alloc (.deferred (some []))) (.loop (rec .ready none)); rwa [World.size_alloc] at this
  have hK1 : W1.heap[w.heap.size]? = some (.deferred (some [])) := by
    rw [← hW1]; exact (Below.heap_alloc _ _ _ (by simp)).trans (World.alloc_heap_new w _)
  have hI1 : I [] W1 := by rw [← hW1]; exact hI.alloc _ (hI.alloc _ h0)
  have hb1 : Below w0.heap.size w0 W1 := by
    rw [← hW1]; exact hb0.trans ((((Below.refl _ w).alloc (Nat.le_refl _) _).alloc (by simp) _).mono hb0.size)
  refine ⟨w.heap.size + 1, [{ target := .collected w.heap.size, args := #[] }], W1, { target := .fn (.func gf) lb, args := #[.func (.yield (w.heap.size + 1)) #[] #[]] }, W1, gf,
    #[.func (.yield (w.heap.size + 1)) #[] #[]] ++ lb, W1, ?_, ?_, ?_, ?_, fun _ => h1, ?_⟩
  · rw [← hW1, hrec]; exact run_enterLoop_outer _ _ _ _ _
  · simp only [resolve, hg]
    simp [go_sem]
  · intro f' hf'; simp [Target.leads] at hf'; subst hf'; exact hFg
  · simp [invoke, go_sem, eg]
  · have hnw : ∀ {A B : World} {row : Option Nat}, (∀ r, row = some r → W1.heap.size ≤ r ∧ ((∃ o : Obj, A.heap[r]? = some o ∧ o.isCells = false) ∨ ∃ cs, Bk A r T cs)) →
        (∀ r, row = some r → w.heap.size ≤ r ∧ ((∃ o : Obj, A.heap[r]? = some o ∧ o.isCells = false) ∨ ∃ cs, Bk A r T cs)) :=
      fun {A B row} hr r e => by obtain ⟨hB, ho⟩ := hr r e; rw [hsz] at hB; exact ⟨by omega, ho⟩
    have hkp : ∀ {A B : World} {row : Option Nat} {j : Nat} {o : Obj}, A.grownBy B row → (∀ r, row = some r → W1.heap.size ≤ r) → j < w.heap.size + 2 → A.heap[j]? = some o → B.heap[j]? = some o :=
      fun {A B row j o} hg' hr hj ho => (hg'.block j (Array.getElem?_eq_some_iff.1 ho).1 (fun e => by have := hr j e.symm; rw [hsz] at this; omega)).trans ho
    refine (hseq (w.heap.size + 1)
      (fun pre W => I pre W ∧ W.heap[w.heap.size + 1]? = some (.loop (rec .ready none)) ∧ W.heap[w.heap.size]? = some (.deferred (some [])))
      (fun pre W => ∃ c, Ix c pre W ∧ W.heap[w.heap.size + 1]? = some (.loop (rec .done (some c))) ∧ W.heap[w.heap.size]? = some (.deferred (some [])))
      W1 hb1
      ⟨fun s A B row hs hg' hr => ⟨hI.turn s A B row hs.1 hg' (hnw (B := B) hr), hkp hg' (fun r e => (hr r e).1) (by omega) hs.2.1, hkp hg' (fun r e => (hr r e).1) (by omega) hs.2.2⟩,
        fun s A hs => ⟨hI.drew s A hs.1, hs.2⟩⟩
      ⟨fun s A B row hs hg' hr => by
        obtain ⟨c, hc, hl, hk⟩ := hs
        exact ⟨c, (hIx c).turn s A B row hc hg' (hnw (B := B) hr), hkp hg' (fun r e => (hr r e).1) (by omega) hl, hkp hg' (fun r e => (hr r e).1) (by omega) hk⟩,
        fun s A hs => by obtain ⟨c, hc, hr⟩ := hs; exact ⟨c, (hIx c).drew s A hc, hr⟩⟩
      ?_ ⟨hI1, hL1, hK1⟩).mono ?_
    · rintro pre x W ⟨hi, hl, hk⟩ hroom hlen
      have hlt : w.heap.size + 1 < W.heap.size := (Array.getElem?_eq_some_iff.1 hl).1
      have hy := run_yield (P := P) (args := encs x) hl (by rw [hrec]; exact hps x)
      rw [hrec] at hy
      have hroom' : w.heap.size + 2 ≤ W.heap.size := by rw [hsz] at hroom; exact hroom
      have hla : (W.alloc (oA x)).heap[w.heap.size + 1]? = some (.loop (rec .ready none)) := (Below.heap_alloc _ _ _ hlt).trans hl
      have hka : (W.alloc (oA x)).heap[w.heap.size]? = some (.deferred (some [])) := (Below.heap_alloc _ _ _ (by omega)).trans hk
      have hlta : w.heap.size + 1 < (W.alloc (oA x)).heap.size := by simp; omega
      have hia : I pre (W.alloc (oA x)) := hI.alloc _ hi
      have hA : (W.alloc (oA x)).heap[W.heap.size]? = some (oA x) := World.alloc_heap_new W _
      have hKA : Kp W (W.alloc (oA x)) := hKa _ _ (by omega)
      have hKOA : KeepsFrom (w.heap.size + 2) W (W.alloc (oA x)) := (KeepsOthers.alloc W _).from _
      refine ⟨fn, _, assign, body, hy, roundIn_of_wpIn hfn (hassign _ x W _ ⟨_, run_beginRound hla (by rw [hrec]), ?_⟩)⟩
      generalize hAe : W.heap.size = A at *
      generalize W.alloc (oA x) = Wa at *
      have hl2 : (Wa.putObj (w.heap.size + 1) (.loop { rec .ready none with state := .busy })).heap[w.heap.size + 1]? = some (.loop { rec .ready none with state := .busy }) := World.putObj_heap_same hlta
      have hk2 : (Wa.putObj (w.heap.size + 1) (.loop { rec .ready none with state := .busy })).heap[w.heap.size]? = some (.deferred (some [])) := (World.putObj_heap_other (by omega)).trans hka
      have hw2 : Kp W (Wa.putObj (w.heap.size + 1) (.loop { rec .ready none with state := .busy })) := hKt hKA (hKb _ _ _ _ (by omega) hla rfl rfl)
      have ho2 : ∀ (X : World) (o : Obj), KeepsFrom (w.heap.size + 2) X (X.putObj (w.heap.size + 1) o) := fun X o => KeepsFrom.of_grownBy (grownBy_putObj' X _ o) (fun r e => by cases e; omega)
      have ho3' : KeepsFrom (w.heap.size + 2) W (Wa.putObj (w.heap.size + 1) (.loop { rec .ready none with state := .busy })) := hKOA.trans (ho2 Wa _)
      refine wpIn_mono (hbody _ pre x _ A hroom' ((World.putObj_heap_other (by omega)).trans hA) (hI.putObj _ hia (by omega) hla rfl) hlen) ?_
      have fin : ∀ (jump : Option Code) (W3 : World), KeepsFrom w.heap.size (Wa.putObj (w.heap.size + 1) (.loop { rec .ready none with state := .busy })) W3 →
          (Instr.endRound (w.heap.size + 1) jump).run P W3 = .ok (.bool jump.isNone) (W3.putObj (w.heap.size + 1) (.loop (rec (if jump.isNone then .ready else .done) jump))) ∧
          W3.heap[w.heap.size + 1]? = some (.loop { rec .ready none with state := .busy }) ∧
          (W3.putObj (w.heap.size + 1) (.loop (rec (if jump.isNone then .ready else .done) jump))).heap[w.heap.size + 1]? = some (.loop (rec (if jump.isNone then .ready else .done) jump)) ∧
          (W3.putObj (w.heap.size + 1) (.loop (rec (if jump.isNone then .ready else .done) jump))).heap[w.heap.size]? = some (.deferred (some [])) := fun jump W3 hk3 => by
        have hl3 := hk3.same _ _ (by omega) hl2 rfl
        have := run_endRound (P := P) jump hl3
        rw [hrec] at this ⊢
        exact ⟨this, by rw [hrec] at hl3; exact hl3, World.putObj_heap_same (Array.getElem?_eq_some_iff.1 hl3).1, (World.putObj_heap_other (by omega)).trans (hk3.same _ _ (Nat.le_refl _) hk2 rfl)⟩
      rw [hsz]
      rintro e a3 W3 hp
      cases e with
      | normal =>
        obtain ⟨hk3, hkp3, hi3⟩ := hp
        obtain ⟨hr, hl3, hl4, hk4⟩ := fin none W3 hk3
        exact ⟨_, _, hr, .inl ⟨rfl, ⟨hI.putObj _ hi3 (by omega) hl3 rfl, hl4, hk4⟩, (ho3'.trans (kf_up hk3 (by omega))).trans (ho2 W3 _), hKt (hKt hw2 hkp3) (hKb _ _ _ _ (by omega) hl3 rfl rfl)⟩⟩
      | ret =>
        obtain ⟨hk3, hkp3, hi3⟩ := hp
        obtain ⟨hr, hl3, hl4, hk4⟩ := fin (some .ret) W3 hk3
        exact ⟨_, _, hr, .inr ⟨rfl, ⟨.ret, (hIx _).putObj _ hi3 (by omega) hl3 rfl, hl4, hk4⟩, (ho3'.trans (kf_up hk3 (by omega))).trans (ho2 W3 _), hKt (hKt hw2 hkp3) (hKb _ _ _ _ (by omega) hl3 rfl rfl)⟩⟩
      | exit id =>
        obtain ⟨hk3, hkp3, hi3⟩ := hp
        obtain ⟨hr, hl3, hl4, hk4⟩ := fin (some (.exit id)) W3 hk3
        exact ⟨_, _, hr, .inr ⟨rfl, ⟨.exit id, (hIx _).putObj _ hi3 (by omega) hl3 rfl, hl4, hk4⟩, (ho3'.trans (kf_up hk3 (by omega))).trans (ho2 W3 _), hKt (hKt hw2 hkp3) (hKb _ _ _ _ (by omega) hl3 rfl rfl)⟩⟩
      | goto t =>
        obtain ⟨hk3, hkp3, hi3⟩ := hp
        obtain ⟨hr, hl3, hl4, hk4⟩ := fin (some (.goto t)) W3 hk3
        exact ⟨_, _, hr, .inr ⟨rfl, ⟨.goto t, (hIx _).putObj _ hi3 (by omega) hl3 rfl, hl4, hk4⟩, (ho3'.trans (kf_up hk3 (by omega))).trans (ho2 W3 _), hKt (hKt hw2 hkp3) (hKb _ _ _ _ (by omega) hl3 rfl rfl)⟩⟩
      | panic ch => exact hp.elim
      | outgrown => exact hp.elim
    · rintro e W2 ⟨⟨v, rfl⟩, (⟨hi, hl, hk⟩ | ⟨pre, hSp, c, hi, hl, hk⟩)⟩
      · exact ⟨none, _, by have := run_endLoop (P := P) hl (by rw [hrec]; simp); rw [hrec] at this; exact this, hdone _ _ (Nat.le_refl _) (hI.putObj _ hi (by omega) hl rfl) ((World.putObj_heap_other (by omega)).trans hk)⟩
      · exact ⟨some c, _, by have := run_endLoop (P := P) hl (by rw [hrec]; simp); rw [hrec] at this; exact this, hstop _ c pre _ (Nat.le_refl _) hSp ((hIx c).putObj _ hi (by omega) hl rfl) ((World.putObj_heap_other (by omega)).trans hk)⟩

end Go.Proofs.Ytkiebejidpebdaa
namespace Go.Proofs.Ytkiebejidpebdaa
open Go Go.RowKit Go.Shelf
attribute [local go_sem] Oper.semAt_some
set_option linter.unusedVariables false
set_option linter.unusedSimpArgs false

/-- The numbers and pointers of a right type that begins at a bit. -/
def leaM : Nat → ShT → Int → List Mb
  | 0, _, _ => []
  | d + 1, t, fr => if t.sh == 1 then [⟨fr, 8 * sizM t.k, t.k, 0⟩] else if t.sh == 2 then [⟨fr, 64, 8, 0⟩]
      else if t.sh == 3 then (match t.of with | [] => [] | x :: _ => (List.range t.n.toNat).flatMap (fun (i : Nat) => leaM d x (fr + (i : Int) * (8 * (meaM d x).1))))
      else (t.ml (meaM d)).flatMap (fun x => if x.1.bits == 0 then [] else if x.1.bits > 0 then [⟨x.2.bit + fr, x.2.bits, x.2.k, 0⟩] else leaM d x.1.t (x.2.bit + fr))
def mbL (d : Nat) (fr : Int) (x : FdOf ShT × Mb) : List Mb := if x.1.bits == 0 then [] else if x.1.bits > 0 then [⟨x.2.bit + fr, x.2.bits, x.2.k, 0⟩] else leaM d x.1.t (x.2.bit + fr)
/-- What walk asks of its rounds, and keeps itself. -/
structure YK (N0 B0 : Nat) (A B : World) : Prop where
  be : Below N0 A B
  bk : ∀ j T cs, (T = 77 ∨ T = 25 ∨ T = 2 ∨ T = 113 ∨ T = 4) → Bk A j T cs → Bk B j T cs
  kf : KeepsFrom B0 A B
theorem YK.trans {N0 B0 : Nat} {A B C : World} (h : YK N0 B0 A B) (k : YK N0 B0 B C) : YK N0 B0 A C := ⟨h.be.trans k.be, fun j T cs hT b => k.bk j T cs hT (h.bk j T cs hT b), h.kf.trans k.kf⟩
theorem YK.below {N0 B0 : Nat} {A B : World} (h : Below A.heap.size A B) (hN : N0 ≤ A.heap.size) : YK N0 B0 A B :=
  ⟨h.mono hN, fun j T cs _ b => b.below h, ⟨h.size, fun j o _ hj _ => (h.block j (Array.getElem?_eq_some_iff.1 hj).1).trans hj⟩⟩
/-- Blocks behind A may turn. -/
theorem YK.turn {N0 B0 : Nat} {A W W' : World} {row : Option Nat} (h : YK N0 B0 A W) (hN : N0 ≤ A.heap.size) (hg : W.grownBy W' row) (hr : ∀ r, row = some r → A.heap.size ≤ r) : YK N0 B0 A W' := by
  have hs := h.kf.size
  refine ⟨h.be.grown hg (Nat.le_trans hN hs) (fun r e => Nat.le_trans hN (hr r e)), fun j T cs hT b => (h.bk j T cs hT b).turn hg (fun r e => Nat.lt_of_lt_of_le b.lt (hr r e)), ⟨Nat.le_trans hs hg.size, fun j o hB hj ho => ?_⟩⟩
  have h1 := h.kf.same j o hB hj ho
  have hjl := (Array.getElem?_eq_some_iff.1 hj).1
  exact (hg.block j (by omega) (fun e => by have := hr j e.symm; omega)).trans h1
theorem YK.drew {N0 B0 : Nat} {A W : World} (h : YK N0 B0 A W) : YK N0 B0 A W.drew := ⟨h.be.drew, h.bk, ⟨h.kf.size, h.kf.same⟩⟩
theorem YK.size {N0 B0 : Nat} {A W : World} (h : YK N0 B0 A W) : A.heap.size ≤ W.heap.size := h.kf.size
theorem YK.kp {N0 B0 : Nat} {A W : World} (h : YK N0 B0 A W) : KpM N0 A W := ⟨h.be, fun j cs b => h.bk j _ cs (.inl rfl) b, fun j cs b => h.bk j _ cs (.inr (.inl rfl)) b⟩
/-- What walk tells: all, or stopped. -/
def WkP (J Jx : List Mb → World → Prop) (N0 B0 : Nat) (full : List Mb) (w : World) (out : List Mb) (e : Ending) (W' : World) : Prop :=
  (e = .returned (.bool true) ∧ J out W' ∧ YK N0 B0 w W') ∨ (e = .returned (.bool false) ∧ (∃ p, p <+: full ∧ Jx p W') ∧ YK N0 B0 w W')
def encS (x : Mb) : Array Value := #[.agg #[.int .i64 x.bit, .int .i64 x.bits, .int .i64 x.k]]
/-- What is known of yield. -/
structure Yd (l N0 B0 : Nat) (full : List Mb) (J Jx : List Mb → World → Prop) : Prop where
  aJ : AbT B0 4 J
  aX : AbT B0 4 Jx
  y : ∀ pre x W1, J pre W1 → B0 ≤ W1.heap.size → N0 ≤ W1.heap.size → pre ++ [x] <+: full → ∀ n, YieldAt Fence.wide n Try.prog l (encS x) W1 (WkP J Jx N0 B0 full W1 (pre ++ [x]))
theorem WkP.from {J Jx : List Mb → World → Prop} {N0 B0 : Nat} {full out : List Mb} {w W W' : World} {e : Ending} (h : WkP J Jx N0 B0 full W out e W') (hb : YK N0 B0 w W) : WkP J Jx N0 B0 full w out e W' := by
  rcases h with ⟨h1, h2, h3⟩ | ⟨h1, h2, h3⟩
  · exact .inl ⟨h1, h2, hb.trans h3⟩
  · exact .inr ⟨h1, h2, hb.trans h3⟩
set_option maxRecDepth 100000 in
set_option maxHeartbeats 8000000 in
theorem walkMember_any (d : Nat) (f : FdOf ShT) (m : Mb) (fr : Int) (l N0 B0 : Nat) (full pre : List Mb) (J Jx : List Mb → World → Prop) (w : World) (hy : Yd l N0 B0 full J Jx) (h0 : 0 ≤ fr) (h1 : fr ≤ 268435456) (hm0 : 0 ≤ m.bit) (hm1 : m.bit ≤ 20992320)
    (hJ : J pre w) (hB : B0 ≤ w.heap.size) (hN : N0 ≤ w.heap.size) (hpre : pre ++ mbL d fr (f, m) <+: full)
    (hw : f.bits < 0 → ∀ W, Below w.heap.size w W → J pre W → Calls Try.prog 73 #[f.t.v, .int .i64 (m.bit + fr), .func (.yield l) #[] #[]] W (WkP J Jx N0 B0 full W (pre ++ leaM d f.t (m.bit + fr)))) :
    Calls Try.prog 88 #[mbV f m, .int .i64 fr, .func (.yield l) #[] #[]] w (WkP J Jx N0 B0 full w (pre ++ mbL d fr (f, m))) := by
  have hbe : ∀ W, Below w.heap.size w W → J pre W ∧ YK N0 B0 w W ∧ B0 ≤ W.heap.size ∧ N0 ≤ W.heap.size := fun W h => ⟨hy.aJ.below h hJ, YK.below h hN, Nat.le_trans hB h.size, Nat.le_trans hN h.size⟩
  have HBE := veil hbe
  have HY := veil hy
  have HW := veil hw
  have HP := veil hpre
  obtain ⟨s, hs⟩ : ∃ s, m.bit + fr = s := ⟨_, rfl⟩
  unfold mbL at *
  simp only at *
  rw [hs] at HW HP ⊢
  have HNEW : Hid (Bk ((w.alloc (.cells (mbC f m) 77)).alloc (.cells #[.int .i64 s, .int .i64 m.bits, .int .i64 m.k] 42)) w.heap.size 77 (mbC f m) ∧ Bk ((w.alloc (.cells (mbC f m) 77)).alloc (.cells #[.int .i64 s, .int .i64 m.bits, .int .i64 m.k] 42)) (w.heap.size + 1) 42 #[.int .i64 s, .int .i64 m.bits, .int .i64 m.k] ∧ Below w.heap.size w ((w.alloc (.cells (mbC f m) 77)).alloc (.cells #[.int .i64 s, .int .i64 m.bits, .int .i64 m.k] 42))) := by
    have h2 := Bk.new (w.alloc (.cells (mbC f m) 77)) 42 #[.int .i64 s, .int .i64 m.bits, .int .i64 m.k]
    rw [World.size_alloc] at h2
    exact ⟨(Bk.new w _ _).alloc _, h2, below_new2 w _ _⟩
  have hs1 : s ≤ 289427776 := by omega
  have hs0 : 0 ≤ s := by omega
  clear hbe hw hpre hJ hB hN hy
  unfold mbV at *
  unfold mbC at *
  unfold ShT.v ShT.cs at HW
  rcases Int.lt_trichotomy f.bits 0 with hb | hb | hb
  · have b0 : (f.bits == 0) = false := by simp; omega
    have b1 : ¬ f.bits > 0 := by omega
    have HWW := veil (unveil HW hb)
    simp only [b0, Bool.false_eq_true, if_false, if_neg b1] at HP ⊢
    clear HW hb
    go_enter Try.func88, Try.ntmps88
    go_upto_region 3 with fail
    generalize ((w.alloc (.cells _ 77)).alloc (.cells #[.int .i64 s, .int .i64 m.bits, .int .i64 m.k] 42)) = W0 at HNEW ⊢
    obtain ⟨c0, c1, c2, c3, c4, c5, c6, c7, c8, c9, c10, c11, c12⟩ := (unveil HNEW).1.thirteen
    have s0 := (unveil HNEW).2.1.cell 0
    simp only [List.getElem?_toArray, List.getElem?_cons_zero] at s0
    go_wp2_with (go_at_call 73; refine (unveil HWW _ (unveil HNEW).2.2 (unveil HBE _ (unveil HNEW).2.2).1).mono ?_; rintro e W5 (⟨rfl, hJ5, hk5⟩ | ⟨rfl, hX5, hk5⟩))
    all_goals go_ret
    · exact .inl ⟨rfl, hJ5, (unveil HBE _ (unveil HNEW).2.2).2.1.trans hk5⟩
    · exact .inr ⟨rfl, hX5, (unveil HBE _ (unveil HNEW).2.2).2.1.trans hk5⟩
  · have b0 : (f.bits == 0) = true := by simp; omega
    simp only [b0, if_true, List.append_nil] at HP ⊢
    clear HW hb
    go_enter Try.func88, Try.ntmps88
    go_upto_region 3 with fail
    generalize ((w.alloc (.cells _ 77)).alloc (.cells #[.int .i64 s, .int .i64 m.bits, .int .i64 m.k] 42)) = W0 at HNEW ⊢
    obtain ⟨c0, c1, c2, c3, c4, c5, c6, c7, c8, c9, c10, c11, c12⟩ := (unveil HNEW).1.thirteen
    go_wp2_with fail
    go_ret
    exact .inl ⟨rfl, (unveil HBE _ (unveil HNEW).2.2).1, (unveil HBE _ (unveil HNEW).2.2).2.1⟩
  · have b0 : (f.bits == 0) = false := by simp; omega
    have b1 : f.bits > 0 := by omega
    simp only [b0, Bool.false_eq_true, if_false, if_pos b1] at HP ⊢
    clear HW hb
    go_enter Try.func88, Try.ntmps88
    go_upto_region 3 with fail
    generalize ((w.alloc (.cells _ 77)).alloc (.cells #[.int .i64 s, .int .i64 m.bits, .int .i64 m.k] 42)) = W0 at HNEW ⊢
    obtain ⟨c0, c1, c2, c3, c4, c5, c6, c7, c8, c9, c10, c11, c12⟩ := (unveil HNEW).1.thirteen
    have s0 := (unveil HNEW).2.1.cell 0
    have s1 := (unveil HNEW).2.1.cell 1
    have s2 := (unveil HNEW).2.1.cell 2
    simp only [List.getElem?_toArray, List.getElem?_cons_zero, List.getElem?_cons_succ] at s0 s1 s2
    obtain ⟨j1, j2, j3, j4⟩ := unveil HBE _ (unveil HNEW).2.2
    have HJ2 := veil j2
    obtain ⟨fn, tmps, assign, body, hyy, hRR⟩ := (unveil HY).y pre ⟨s, m.bits, m.k, 0⟩ W0 j1 j3 j4 (unveil HP) 3
    have HR := veil hRR
    clear hRR j1 j2 j3 j4
    unfold encS at hyy
    simp only at hyy
    go_upto_region 6 with fail
    refine (wpIn_wide (n := 4)).1 ?_
    gi_wp2
    refine (unveil HR).mono ?_
    rintro e W5 (⟨rfl, hJ5, hk5⟩ | ⟨rfl, hX5, hk5⟩)
    · gi_wp2
      go_wp2
      go_ret
      exact .inl ⟨rfl, hJ5, (unveil HJ2).trans hk5⟩
    · gi_wp2
      go_wp2
      go_ret
      exact .inr ⟨rfl, hX5, (unveil HJ2).trans hk5⟩
end Go.Proofs.Ytkiebejidpebdaa
namespace Go.Proofs.Ytkiebejidpebdaa
open Go Go.RowKit Go.Shelf
attribute [local go_sem] Oper.semAt_some
set_option linter.unusedVariables false
set_option linter.unusedSimpArgs false

theorem res_w {f : Func} {k : Nat} {tmps : Array Value} {w : World} {R : Nat} {v : Bool} (hr : f.results = #[.cell k 4]) (hp : tmps.getD k undef = .pointer (some ⟨R, 0, none⟩)) (hg : Bk w R 4 #[.bool v]) :
    (results f tmps).run Try.prog w = .ok (.bool v) w := by
  have hp' : tmps[k]?.getD undef = .pointer (some ⟨R, 0, none⟩) := by simpa using hp
  have hc := hg.cell 0
  simp only [List.getElem?_toArray, List.getElem?_cons_zero] at hc
  simp [results, hr, hp', asAddr, loadVar, go_sem, hc, Try.underlying4]
/-- The boxes of walk. -/
structure WaS (N0 B0 l : Nat) (w W : World) (t : ShT) (fr : Int) : Prop where
  t : TyB W w.heap.size t
  f : Bk W (w.heap.size + 1) 2 #[.int .i64 fr]
  y : Bk W (w.heap.size + 1 + 1) 113 #[.func (.yield l) #[] #[]]
  r : Bk W (w.heap.size + 1 + 1 + 1) 4 #[.bool false]
  yk : YK N0 B0 w W
theorem WaS.new (N0 B0 l : Nat) (w : World) (t : ShT) (fr : Int) (hN : N0 ≤ w.heap.size) : WaS N0 B0 l w ((((w.alloc (.cells t.cs 25)).alloc (.cells #[.int .i64 fr] 2)).alloc (.cells #[.func (.yield l) #[] #[]] 113)).alloc (.cells #[.bool false] 4)) t fr := by
  have h1 := Bk.new (w.alloc (.cells t.cs 25)) 2 #[.int .i64 fr]
  have h2 := Bk.new ((w.alloc (.cells t.cs 25)).alloc (.cells #[.int .i64 fr] 2)) 113 #[.func (.yield l) #[] #[]]
  have h3 := Bk.new (((w.alloc (.cells t.cs 25)).alloc (.cells #[.int .i64 fr] 2)).alloc (.cells #[.func (.yield l) #[] #[]] 113)) 4 #[.bool false]
  rw [World.size_alloc] at h1
  rw [World.size_alloc, World.size_alloc] at h2
  rw [World.size_alloc, World.size_alloc, World.size_alloc] at h3
  exact ⟨(((TyB.new w t).alloc _).alloc _).alloc _, (h1.alloc _).alloc _, h2.alloc _, h3, YK.below (((below_new2 w _ _).alloc (by simp; omega) _).alloc (by simp; omega) _) hN⟩
theorem WaS.call {N0 B0 l : Nat} {w W W' : World} {t : ShT} {fr : Int} (h : WaS N0 B0 l w W t fr) (k : YK N0 B0 W W') : WaS N0 B0 l w W' t fr :=
  ⟨k.bk _ _ _ (.inr (.inl rfl)) h.t, k.bk _ _ _ (.inr (.inr (.inl rfl))) h.f, k.bk _ _ _ (.inr (.inr (.inr (.inl rfl)))) h.y, k.bk _ _ _ (.inr (.inr (.inr (.inr rfl)))) h.r, h.yk.trans k⟩
theorem WaS.below {N0 B0 l : Nat} {w W W' : World} {t : ShT} {fr : Int} (h : WaS N0 B0 l w W t fr) (hN : N0 ≤ w.heap.size) (k : Below W.heap.size W W') : WaS N0 B0 l w W' t fr := h.call (YK.below k (Nat.le_trans hN h.yk.size))
theorem WaS.drew {N0 B0 l : Nat} {w W : World} {t : ShT} {fr : Int} (h : WaS N0 B0 l w W t fr) : WaS N0 B0 l w W.drew t fr := ⟨h.t, h.f, h.y, h.r, h.yk.drew⟩
theorem WaS.cells {N0 B0 l : Nat} {w W : World} {t : ShT} {fr : Int} (h : WaS N0 B0 l w W t fr) :
    (W.cell? ⟨w.heap.size, 0, none⟩ = some (.int .i64 t.sh) ∧ W.cell? ⟨w.heap.size, 1, none⟩ = some (.int .i64 t.k) ∧ W.cell? ⟨w.heap.size, 2, none⟩ = some (.int .i64 t.n) ∧ W.cell? ⟨w.heap.size, 3, none⟩ = some (.slice t.op t.of.length t.oc) ∧
      W.cell? ⟨w.heap.size, 4, none⟩ = some (.slice t.fp t.fs.length t.fc) ∧ W.cell? ⟨w.heap.size, 5, none⟩ = some (.bool t.pk) ∧ W.cell? ⟨w.heap.size, 6, none⟩ = some (.int .i64 t.al)) ∧
    W.cell? ⟨w.heap.size + 1, 0, none⟩ = some (.int .i64 fr) ∧ W.cell? ⟨w.heap.size + 1 + 1, 0, none⟩ = some (.func (.yield l) #[] #[]) ∧ W.cell? ⟨w.heap.size + 1 + 1 + 1, 0, none⟩ = some (.bool false) ∧ W.frozen? ⟨w.heap.size + 1 + 1 + 1, 0, none⟩ = false :=
  ⟨h.t.seven, h.f.cell 0, h.y.cell 0, h.r.cell 0, h.r.frozen 0⟩
theorem WaS.fin {N0 B0 l : Nat} {w W : World} {t : ShT} {fr : Int} (h : WaS N0 B0 l w W t fr) (hN : N0 ≤ w.heap.size) (b : Bool) : Bk (W.setCell ⟨w.heap.size + 1 + 1 + 1, 0, none⟩ (.bool b)) (w.heap.size + 1 + 1 + 1) 4 #[.bool b] ∧ YK N0 B0 w (W.setCell ⟨w.heap.size + 1 + 1 + 1, 0, none⟩ (.bool b)) :=
  ⟨h.r.set 0 _, h.yk.turn hN (grownBy_setCell' W _ _) (fun r e => by cases e; omega)⟩
/-- The end: the answer's box is written. -/
theorem WkP.end {J Jx : List Mb → World → Prop} {l N0 B0 : Nat} {full out : List Mb} {w W : World} {t : ShT} {fr : Int} (hy : Yd l N0 B0 full J Jx) (hN : N0 ≤ w.heap.size) (hB : B0 ≤ w.heap.size) (hs : WaS N0 B0 l w W t fr) (b : Bool) (h : if b then J out W else ∃ p, p <+: full ∧ Jx p W) :
    WkP J Jx N0 B0 full w out (.returned (.bool b)) (W.setCell ⟨w.heap.size + 1 + 1 + 1, 0, none⟩ (.bool b)) := by
  cases b
  · obtain ⟨p, hp, hx⟩ := h
    exact .inr ⟨rfl, ⟨p, hp, hy.aX.setCell _ hx (by omega) hs.r⟩, (hs.fin hN _).2⟩
  · exact .inl ⟨rfl, hy.aJ.setCell _ h (by omega) hs.r, (hs.fin hN _).2⟩
theorem hmixL : Try.prog.follows .mixedOrders = true := by kernel_rfl
theorem fldE (a b : Value) (W : World) : (Instr.field 68 (.agg #[a, b]) 0).run Try.prog W = .ok a W := by kernel_rfl
set_option maxRecDepth 100000 in
set_option maxHeartbeats 8000000 in
theorem walk_int (t : ShT) (fr : Int) (l N0 B0 : Nat) (full pre : List Mb) (J Jx : List Mb → World → Prop) (w : World) (hy : Yd l N0 B0 full J Jx) (h1 : (t.sh == 1) = true) (hk : 0 < sizM t.k)
    (hJ : J pre w) (hB : B0 ≤ w.heap.size) (hN : N0 ≤ w.heap.size) (hpre : pre ++ [⟨fr, 8 * sizM t.k, t.k, 0⟩] <+: full) :
    Calls Try.prog 73 #[t.v, .int .i64 fr, .func (.yield l) #[] #[]] w (WkP J Jx N0 B0 full w (pre ++ [⟨fr, 8 * sizM t.k, t.k, 0⟩])) := by
  have HM := veil (fun W => measure_int t W h1 hk)
  have HS0 := veil (WaS.new N0 B0 l w t fr hN)
  have HJ0 := veil (hy.aJ.below (((below_new2 w (.cells t.cs 25) (.cells #[.int .i64 fr] 2)).alloc (by simp; omega) (.cells #[.func (.yield l) #[] #[]] 113)).alloc (by simp; omega) (.cells #[.bool false] 4)) hJ)
  have HY := veil hy
  have HN := veil hN
  have HBB := veil hB
  have HP := veil hpre
  have hc := siz_cases t.k
  clear hy hN hB hpre hJ hk
  unfold ShT.v ShT.cs extV at *
  generalize sizM t.k = z at *
  refine (callsIn_wide (n := 4)).1 ?_
  refine callsIn_of_wp_marks Try.func73 rfl trivial ?_ rfl
  simp only [Try.ntmps73, List.size_toArray, List.length_cons, List.length_nil, Nat.reduceAdd, Nat.reduceSub, Array.replicate_succ, Array.replicate_zero, List.push_toArray, List.append_toArray, List.nil_append, List.cons_append]
  refine wpIn_wide.2 ?_
  go_upto_region 1 with fail
  generalize ((((w.alloc (.cells _ 25)).alloc (.cells #[.int .i64 fr] 2)).alloc (.cells #[.func (.yield l) #[] #[]] 113)).alloc (.cells #[.bool false] 4)) = W0 at HS0 HJ0 ⊢
  obtain ⟨⟨y0, y1, y2, y3, y4, y5, y6⟩, g0, g1, g2, gf⟩ := (unveil HS0).cells
  go_upto_region 3 with fail
  refine wp_region_noPanic (wpIn_wide.1 (wpIn_region_mix (ro := none) (n := 0) (fun w' => Hid (WaS N0 B0 l w w' t fr))
    [(0, true), (1, true), (2, true), (6, true), (7, true), (3, false), (4, true), (5, true), (8, true), (9, false)]
    10 hmixL (by kernel_rfl) (by kernel_rfl) (by kernel_rfl) (by kernel_rfl) (by kernel_rfl) (by kernel_rfl) (fun _ _ _ _ h => h) (unveil HS0).drew ?_))
  iterate 5 (
    refine mix_pure _ rfl _ (.inl ⟨rfl, fun W hS => (by obtain ⟨⟨y0, y1, y2, y3, y4, y5, y6⟩, g0, g1, g2, gf⟩ := (unveil hS).cells; go_simp; rfl)⟩) (fun B hB => ?_)
    simp only [Act.put, List.setIfInBounds_toArray, List.set_cons_zero, List.set_cons_succ] at hB
    subst hB)
  refine mix_sole _ rfl (fun K hK => ?_)
  go_simp
  refine ⟨trivial, rfl, (callsIn_wide.2 (unveil HM _)).mono ?_⟩
  rintro e W5 ⟨rfl, hb5⟩
  have hB5 : Below W0.heap.size W0 W5 := (Below.refl _ W0).drew.trans hb5
  have HS5 := veil ((unveil HS0).below (unveil HN) hB5)
  have HJ5 := veil ((unveil HY).aJ.below hB5 (unveil HJ0))
  refine hK _ _ HS5 ?_
  clear hK K hb5 hB5
  have hf := fun W => fldE (.int .i64 z) (.int .i64 z) W
  refine mix_pure _ rfl (.int .i64 z) (.inl ⟨rfl, fun W hS => (by go_simp)⟩) (fun B hB => ?_)
  simp only [List.getElem_toArray, List.getElem_cons_zero, List.getElem_cons_succ, Act.put, List.setIfInBounds_toArray, List.set_cons_zero, List.set_cons_succ] at hB
  subst hB
  refine mix_pure _ rfl (.int .i64 (8 * z)) (.inl ⟨rfl, fun W hS => (by go_simp; rw [IntKind.wrap_i64]; omega)⟩) (fun B hB => ?_)
  simp only [List.getElem_toArray, List.getElem_cons_zero, List.getElem_cons_succ, Act.put, List.setIfInBounds_toArray, List.set_cons_zero, List.set_cons_succ] at hB
  subst hB
  refine mix_pure _ rfl (.agg #[.int .i64 fr, .int .i64 (8 * z), .int .i64 t.k]) (.inl ⟨rfl, fun W hS => (by go_simp)⟩) (fun B hB => ?_)
  simp only [List.getElem_toArray, List.getElem_cons_zero, List.getElem_cons_succ, Act.put, List.setIfInBounds_toArray, List.set_cons_zero, List.set_cons_succ] at hB
  subst hB
  have hsz := (unveil HS5).yk.size
  obtain ⟨fn, tmps, assign, body, hyy, hRR⟩ := (unveil HY).y pre ⟨fr, 8 * z, t.k, 0⟩ W5 (unveil HJ5) (Nat.le_trans (unveil HBB) hsz) (Nat.le_trans (unveil HN) hsz) (unveil HP) 0
  have HR := veil hRR
  clear hRR hsz
  unfold encS at hyy
  simp only at hyy
  refine mix_sole _ rfl (fun K hK => ?_)
  go_simp
  refine ⟨rfl, (unveil HR).mono ?_⟩
  rintro e W6 (⟨rfl, hJ6, hk6⟩ | ⟨rfl, hX6, hk6⟩)
  · have HS6 := veil ((unveil HS5).call hk6)
    refine hK _ _ HS6 ?_
    clear hK K y0 y1 y2 y3 y4 y5 y6 g0 g1 g2 gf
    refine mix_nil ?_
    obtain ⟨⟨y0, y1, y2, y3, y4, y5, y6⟩, g0, g1, g2, gf⟩ := (unveil HS6).cells
    refine listIn_last rfl (fun K hK => ?_)
    go_simp
    refine hK _ _ ?_
    clear hK K
    go_wp2_with fail
    exact ⟨_, res_w (f := Try.f73) rfl rfl ((unveil HS6).fin (unveil HN) true).1, WkP.end (unveil HY) (unveil HN) (unveil HBB) (unveil HS6) true hJ6⟩
  · have HS6 := veil ((unveil HS5).call hk6)
    refine hK _ _ HS6 ?_
    clear hK K y0 y1 y2 y3 y4 y5 y6 g0 g1 g2 gf
    refine mix_nil ?_
    obtain ⟨⟨y0, y1, y2, y3, y4, y5, y6⟩, g0, g1, g2, gf⟩ := (unveil HS6).cells
    refine listIn_last rfl (fun K hK => ?_)
    go_simp
    refine hK _ _ ?_
    clear hK K
    go_wp2_with fail
    exact ⟨_, res_w (f := Try.f73) rfl rfl ((unveil HS6).fin (unveil HN) false).1, WkP.end (unveil HY) (unveil HN) (unveil HBB) (unveil HS6) false hX6⟩
set_option maxRecDepth 100000 in
set_option maxHeartbeats 8000000 in
theorem walk_ptr (t : ShT) (fr : Int) (l N0 B0 : Nat) (full pre : List Mb) (J Jx : List Mb → World → Prop) (w : World) (hy : Yd l N0 B0 full J Jx) (h1 : (t.sh == 1) = false) (h2 : (t.sh == 2) = true)
    (hJ : J pre w) (hB : B0 ≤ w.heap.size) (hN : N0 ≤ w.heap.size) (hpre : pre ++ [⟨fr, 64, 8, 0⟩] <+: full) :
    Calls Try.prog 73 #[t.v, .int .i64 fr, .func (.yield l) #[] #[]] w (WkP J Jx N0 B0 full w (pre ++ [⟨fr, 64, 8, 0⟩])) := by
  have HS0 := veil (WaS.new N0 B0 l w t fr hN)
  have HJ0 := veil (hy.aJ.below (((below_new2 w (.cells t.cs 25) (.cells #[.int .i64 fr] 2)).alloc (by simp; omega) (.cells #[.func (.yield l) #[] #[]] 113)).alloc (by simp; omega) (.cells #[.bool false] 4)) hJ)
  have HY := veil hy
  have HN := veil hN
  have HBB := veil hB
  have HP := veil hpre
  clear hy hN hB hpre hJ
  unfold ShT.v ShT.cs at *
  refine (callsIn_wide (n := 4)).1 ?_
  refine callsIn_of_wp_marks Try.func73 rfl trivial ?_ rfl
  simp only [Try.ntmps73, List.size_toArray, List.length_cons, List.length_nil, Nat.reduceAdd, Nat.reduceSub, Array.replicate_succ, Array.replicate_zero, List.push_toArray, List.append_toArray, List.nil_append, List.cons_append]
  refine wpIn_wide.2 ?_
  go_upto_region 1 with fail
  generalize ((((w.alloc (.cells _ 25)).alloc (.cells #[.int .i64 fr] 2)).alloc (.cells #[.func (.yield l) #[] #[]] 113)).alloc (.cells #[.bool false] 4)) = W0 at HS0 HJ0 ⊢
  obtain ⟨⟨y0, y1, y2, y3, y4, y5, y6⟩, g0, g1, g2, gf⟩ := (unveil HS0).cells
  have hsz := (unveil HS0).yk.size
  obtain ⟨fn, tmps, assign, body, hyy, hRR⟩ := (unveil HY).y pre ⟨fr, 64, 8, 0⟩ W0 (unveil HJ0) (Nat.le_trans (unveil HBB) hsz) (Nat.le_trans (unveil HN) hsz) (unveil HP) 3
  have HR := veil hRR
  clear hRR hsz
  unfold encS at hyy
  simp only at hyy
  go_upto_region 5 with fail
  refine (wpIn_wide (n := 4)).1 ?_
  gi_wp2
  refine (unveil HR).mono ?_
  rintro e W6 (⟨rfl, hJ6, hk6⟩ | ⟨rfl, hX6, hk6⟩)
  · have HS6 := veil ((unveil HS0).call hk6)
    clear y0 y1 y2 y3 y4 y5 y6 g0 g1 g2 gf
    obtain ⟨⟨y0, y1, y2, y3, y4, y5, y6⟩, g0, g1, g2, gf⟩ := (unveil HS6).cells
    gi_wp2
    go_wp2_with fail
    exact ⟨_, res_w (f := Try.f73) rfl rfl ((unveil HS6).fin (unveil HN) true).1, WkP.end (unveil HY) (unveil HN) (unveil HBB) (unveil HS6) true hJ6⟩
  · have HS6 := veil ((unveil HS0).call hk6)
    clear y0 y1 y2 y3 y4 y5 y6 g0 g1 g2 gf
    obtain ⟨⟨y0, y1, y2, y3, y4, y5, y6⟩, g0, g1, g2, gf⟩ := (unveil HS6).cells
    gi_wp2
    go_wp2_with fail
    exact ⟨_, res_w (f := Try.f73) rfl rfl ((unveil HS6).fin (unveil HN) false).1, WkP.end (unveil HY) (unveil HN) (unveil HBB) (unveil HS6) false hX6⟩
end Go.Proofs.Ytkiebejidpebdaa
namespace Go.Proofs.Ytkiebejidpebdaa
open Go Go.RowKit Go.Shelf
attribute [local go_sem] Oper.semAt_some
set_option linter.unusedVariables false
set_option linter.unusedSimpArgs false

theorem range_pre {full pre : List Mb} {F : Nat → List Mb} {n k : Nat} (h : pre ++ (List.range n).flatMap F <+: full) (hk : k < n) : (pre ++ (List.range k).flatMap F) ++ F k <+: full := by
  refine List.IsPrefix.trans ?_ h
  have hr : (List.range n).flatMap F = (List.range (k + 1)).flatMap F ++ ((List.range (n - (k + 1))).map (fun x => k + 1 + x)).flatMap F := by
    rw [← List.flatMap_append, ← List.range_add]
    congr 2
    omega
  rw [hr, List.range_succ, List.flatMap_append, List.append_assoc, List.append_assoc]
  exact List.prefix_append_right_inj _ |>.2 ((List.prefix_append_right_inj _).2 (by simp))
theorem range_step (pre : List Mb) (F : Nat → List Mb) (k : Nat) : (pre ++ (List.range k).flatMap F) ++ F k = pre ++ (List.range (k + 1)).flatMap F := by
  rw [List.range_succ, List.flatMap_append, List.append_assoc]
  simp
set_option maxRecDepth 100000 in
set_option maxHeartbeats 20000000 in
theorem walk_arr (t x : ShT) (z a fr : Int) (F : Nat → List Mb) (l N0 B0 : Nat) (full pre : List Mb) (J Jx : List Mb → World → Prop) (w : World) (hy : Yd l N0 B0 full J Jx) (h1 : (t.sh == 1) = false) (h2 : (t.sh == 2) = false) (h3 : (t.sh == 3) = true)
    (hof : t.of = [x]) (hn : 1 ≤ t.n) (hn2 : t.n ≤ 65536) (hz : 0 ≤ z) (hz2 : z ≤ 65536) (hnz : ∀ i : Int, 0 ≤ i → i < t.n → i * (8 * z) ≤ 524288) (h0 : 0 ≤ fr) (hf : fr ≤ 268435456) (hin : t.In N0 w)
    (hJ : J pre w) (hB : B0 ≤ w.heap.size) (hN : N0 ≤ w.heap.size) (hpre : pre ++ (List.range t.n.toNat).flatMap F <+: full)
    (hme : ∀ W, x.In W.heap.size W → Calls Try.prog 64 #[x.v] W fun r w' => r = .returned (extV (z, a)) ∧ Below W.heap.size W w')
    (hwk : ∀ (i : Nat) (p : List Mb) (W : World), (i : Int) < t.n → J p W → x.In N0 W → B0 ≤ W.heap.size → N0 ≤ W.heap.size → p ++ F i <+: full → Calls Try.prog 73 #[x.v, .int .i64 (fr + (i : Int) * (8 * z)), .func (.yield l) #[] #[]] W (WkP J Jx N0 B0 full W (p ++ F i))) :
    Calls Try.prog 73 #[t.v, .int .i64 fr, .func (.yield l) #[] #[]] w (WkP J Jx N0 B0 full w (pre ++ (List.range t.n.toNat).flatMap F)) := by
  obtain ⟨g, o, hop, hg, hc, hxin⟩ := hin.of 0 (by rw [hof]; simp)
  have hx0 : t.of[0]'(by rw [hof]; simp) = x := by simp [hof]
  rw [hx0] at hc hxin
  have hol : t.of.length = 1 := by rw [hof]; rfl
  simp only [Nat.zero_mul, Nat.add_zero] at hc
  have HC : Hid (∀ W, WaS N0 B0 l w W t fr → (∀ j, j < 7 → W.cell? ⟨g, o + j, none⟩ = x.cs[j]?) ∧ g < W.heap.size) := fun W h => ⟨fun j hj => (h.yk.be.cell (p := ⟨g, o + j, none⟩) hg).trans (hc j hj), by have := h.yk.size; omega⟩
  have HME : Hid (∀ W, WaS N0 B0 l w W t fr → Calls Try.prog 64 #[x.v] W fun r w' => r = .returned (extV (z, a)) ∧ Below W.heap.size W w') := fun W h => hme W ((hxin.below h.yk.be).mono (Nat.le_trans hN h.yk.size))
  have HWK : Hid (∀ (k : Nat) (W : World), k < t.n.toNat → WaS N0 B0 l w W t fr → J (pre ++ (List.range k).flatMap F) W → Calls Try.prog 73 #[x.v, .int .i64 (fr + (k : Int) * (8 * z)), .func (.yield l) #[] #[]] W (WkP J Jx N0 B0 full W (pre ++ (List.range (k + 1)).flatMap F))) := fun k W hk hS hj => by
    have hp := range_pre hpre hk
    have := hwk k _ W (by omega) hj (hxin.below hS.yk.be) (Nat.le_trans hB hS.yk.size) (Nat.le_trans hN hS.yk.size) hp
    rw [range_step] at this
    exact this
  have HS0 := veil (WaS.new N0 B0 l w t fr hN)
  have HJ0 := veil (hy.aJ.below (((below_new2 w (.cells t.cs 25) (.cells #[.int .i64 fr] 2)).alloc (by simp; omega) (.cells #[.func (.yield l) #[] #[]] 113)).alloc (by simp; omega) (.cells #[.bool false] 4)) hJ)
  have HY := veil hy
  have HN := veil hN
  have HBB := veil hB
  have HNZ := veil hnz
  clear hy hN hB hpre hJ hme hwk hnz hc hx0 hxin hof hin hg
  unfold ShT.v ShT.cs extV at *
  rw [hol, hop] at HS0 HJ0 ⊢
  refine (callsIn_wide (n := 4)).1 ?_
  refine callsIn_of_wp_marks Try.func73 rfl trivial ?_ rfl
  simp only [Try.ntmps73, List.size_toArray, List.length_cons, List.length_nil, Nat.reduceAdd, Nat.reduceSub, Array.replicate_succ, Array.replicate_zero, List.push_toArray, List.append_toArray, List.nil_append, List.cons_append]
  refine wpIn_wide.2 ?_
  go_upto_region 1 with fail
  generalize ((((w.alloc (.cells _ 25)).alloc (.cells #[.int .i64 fr] 2)).alloc (.cells #[.func (.yield l) #[] #[]] 113)).alloc (.cells #[.bool false] 4)) = W0 at HS0 HJ0 ⊢
  obtain ⟨⟨y0, y1, y2, y3, y4, y5, y6⟩, g0, g1, g2, gf⟩ := (unveil HS0).cells
  rw [hop, hol] at y3
  obtain ⟨hcc, hgl⟩ := unveil HC _ (unveil HS0)
  have q0 := hcc 0 (by decide)
  have q1 := hcc 1 (by decide)
  have q2 := hcc 2 (by decide)
  have q3 := hcc 3 (by decide)
  have q4 := hcc 4 (by decide)
  have q5 := hcc 5 (by decide)
  have q6 := hcc 6 (by decide)
  simp only [List.getElem?_toArray, List.getElem?_cons_succ, List.getElem?_cons_zero, Nat.add_zero] at q0 q1 q2 q3 q4 q5 q6
  clear hcc
  have hf := fun W => fldE (.int .i64 z) (.int .i64 a) W
  go_wp2_with (go_at_call 64; refine (unveil HME _ (unveil HS0)).mono ?_; rintro e W1 ⟨rfl, hb1⟩; have HS1 := veil ((unveil HS0).below (unveil HN) hb1); have HJ1 := veil ((unveil HY).aJ.below hb1 (unveil HJ0)); obtain ⟨⟨x0, x1, x2, x3, x4, x5, x6⟩, k0, k1, k2, kf⟩ := (unveil HS1).cells)
  clear y0 y1 y2 y3 y4 y5 y6 g0 g1 g2 gf q0 q1 q2 q3 q4 q5 q6 hgl x0 x1 x2 x3 x4 x5 x6 k0 k1 k2 kf hb1
  go_loopw [41] (fun i wr => ∃ k : Nat, i = .int .i64 k ∧ (k : Int) ≤ t.n ∧ Hid (J (pre ++ (List.range k).flatMap F) wr) ∧ Hid (WaS N0 B0 l w wr t fr)) (fun i wr => t.n.toNat - (intOf i).toNat)
  case atStart => exact ⟨0, rfl, by omega, by rw [List.range_zero, List.flatMap_nil, List.append_nil]; exact HJ1, HS1⟩
  case round =>
    obtain ⟨k, rfl, hk, hJk, hSk⟩ := hrel
    by_cases hlt : (k : Int) < t.n
    · have hki := unveil HNZ k (by omega) hlt
      have hk0 : 0 ≤ (k : Int) * (8 * z) := Int.mul_nonneg (by omega) (by omega)
      have HCK : Hid (∀ W, Hid (WaS N0 B0 l w W t fr) → ((W.cell? ⟨w.heap.size, 3, none⟩ = some (.slice (some ⟨g, o, none⟩) 1 t.oc) ∧ W.cell? ⟨w.heap.size + 1, 0, none⟩ = some (.int .i64 fr) ∧ W.cell? ⟨w.heap.size + 1 + 1, 0, none⟩ = some (.func (.yield l) #[] #[]))) ∧ (W.cell? ⟨g, o, none⟩ = some (.int .i64 x.sh) ∧ W.cell? ⟨g, o + 1, none⟩ = some (.int .i64 x.k) ∧ W.cell? ⟨g, o + 2, none⟩ = some (.int .i64 x.n) ∧ W.cell? ⟨g, o + 3, none⟩ = some (.slice x.op x.of.length x.oc) ∧ W.cell? ⟨g, o + 4, none⟩ = some (.slice x.fp x.fs.length x.fc) ∧ W.cell? ⟨g, o + 5, none⟩ = some (.bool x.pk) ∧ W.cell? ⟨g, o + 6, none⟩ = some (.int .i64 x.al))) := fun W h => by
        obtain ⟨hcc, _⟩ := unveil HC _ (unveil h)
        obtain ⟨⟨y0, y1, y2, y3, y4, y5, y6⟩, g0, g1, g2, gf⟩ := (unveil h).cells
        rw [hop, hol] at y3
        exact ⟨⟨y3, g0, g1⟩, hcc 0 (by decide), hcc 1 (by decide), hcc 2 (by decide), hcc 3 (by decide), hcc 4 (by decide), hcc 5 (by decide), hcc 6 (by decide)⟩
      have HW2 := veil (unveil HWK k wr.drew (by omega) (unveil hSk).drew ((unveil HY).aJ.drew _ _ (unveil hJk)))
      have hkz : ∃ KZ, (k : Int) * (8 * z) = KZ := ⟨_, rfl⟩
      obtain ⟨KZ, hKZ⟩ := hkz
      rw [hKZ] at hki hk0 HW2
      go_upto_region 11 with fail
      refine wp_region_noPanic (wpIn_wide.1 (wpIn_region_mix (ro := none) (n := 0) (fun w' => Hid (WaS N0 B0 l w w' t fr))
        [(0, true), (1, true), (2, true), (3, true), (4, true), (5, true), (6, true), (7, true), (8, true), (9, true), (10, false)]
        11 hmixL (by kernel_rfl) (by kernel_rfl) (by kernel_rfl) (by kernel_rfl) (by kernel_rfl) (by kernel_rfl) (fun _ _ _ _ h => h) (unveil hSk).drew ?_))
      iterate 7 (
        refine mix_pure _ rfl _ (.inl ⟨rfl, fun W hS => (by obtain ⟨⟨y3, g0, g1⟩, q0, q1, q2, q3, q4, q5, q6⟩ := unveil HCK W hS; go_simp; rfl)⟩) (fun B hB => ?_)
        simp only [Act.put, List.setIfInBounds_toArray, List.set_cons_zero, List.set_cons_succ] at hB
        subst hB)
      refine mix_pure _ rfl (.int .i64 KZ) (.inl ⟨rfl, fun W hS => (by go_simp; rw [IntKind.wrap_i64]; omega)⟩) (fun B hB => ?_)
      simp only [List.getElem_toArray, List.getElem_cons_zero, List.getElem_cons_succ, Act.put, List.setIfInBounds_toArray, List.set_cons_zero, List.set_cons_succ] at hB
      subst hB
      refine mix_pure _ rfl (.int .i64 (fr + KZ)) (.inl ⟨rfl, fun W hS => (by go_simp; rw [IntKind.wrap_i64]; omega)⟩) (fun B hB => ?_)
      simp only [List.getElem_toArray, List.getElem_cons_zero, List.getElem_cons_succ, Act.put, List.setIfInBounds_toArray, List.set_cons_zero, List.set_cons_succ] at hB
      subst hB
      refine mix_pure _ rfl _ (.inl ⟨rfl, fun W hS => (by obtain ⟨⟨y3, g0, g1⟩, q0, q1, q2, q3, q4, q5, q6⟩ := unveil HCK W hS; go_simp; rfl)⟩) (fun B hB => ?_)
      simp only [Act.put, List.setIfInBounds_toArray, List.set_cons_zero, List.set_cons_succ] at hB
      subst hB
      refine mix_sole _ rfl (fun K hK => ?_)
      go_simp
      refine ⟨trivial, rfl, (callsIn_wide.2 (unveil HW2)).mono ?_⟩
      rintro e W6 (⟨rfl, hJ6, hk6⟩ | ⟨rfl, hX6, hk6⟩)
      · have HS6 := veil ((unveil hSk).drew.call hk6)
        refine hK _ _ HS6 ?_
        clear hK K
        refine mix_nil ?_
        refine listIn_last rfl (fun K hK => ?_)
        go_simp
        refine hK _ _ ?_
        clear hK K
        go_wp2_with fail
        go_roundw
        case rel => exact ⟨k + 1, by go_num, by omega, hJ6, HS6⟩
        case measure => simp [intOf]; omega
      · have HS6 := veil ((unveil hSk).drew.call hk6)
        refine hK _ _ HS6 ?_
        clear hK K
        refine mix_nil ?_
        refine listIn_last rfl (fun K hK => ?_)
        go_simp
        refine hK _ _ ?_
        clear hK K
        obtain ⟨⟨y0, y1, y2, y3, y4, y5, y6⟩, g0, g1, g2, gf⟩ := (unveil HS6).cells
        go_wp2_with fail
        exact ⟨_, res_w (f := Try.f73) rfl rfl ((unveil HS6).fin (unveil HN) false).1, WkP.end (unveil HY) (unveil HN) (unveil HBB) (unveil HS6) false hX6⟩
    · obtain ⟨⟨y0, y1, y2, y3, y4, y5, y6⟩, g0, g1, g2, gf⟩ := (unveil hSk).cells
      have hkn : t.n.toNat = k := by omega
      have HJK : Hid (J (pre ++ (List.range t.n.toNat).flatMap F) wr) := by rw [hkn]; exact hJk
      clear hkn
      go_wp2_with fail
      exact ⟨_, res_w (f := Try.f73) rfl rfl ((unveil hSk).fin (unveil HN) true).1, WkP.end (unveil HY) (unveil HN) (unveil HBB) (unveil hSk) true (unveil HJK)⟩
end Go.Proofs.Ytkiebejidpebdaa
namespace Go.Proofs.Ytkiebejidpebdaa
open Go Go.RowKit Go.Shelf
attribute [local go_sem] Oper.semAt_some
set_option linter.unusedVariables false
set_option linter.unusedSimpArgs false

theorem WaS.turn {N0 B0 l : Nat} {w W W' : World} {t : ShT} {fr : Int} {row : Option Nat} (h : WaS N0 B0 l w W t fr) (hN : N0 ≤ w.heap.size) (hg : W.grownBy W' row) (hr : ∀ r, row = some r → w.heap.size + 4 ≤ r) : WaS N0 B0 l w W' t fr :=
  ⟨Bk.turn h.t hg (fun r e => by have := hr r e; omega), h.f.turn hg (fun r e => by have := hr r e; omega), h.y.turn hg (fun r e => by have := hr r e; omega), h.r.turn hg (fun r e => by have := hr r e; omega), h.yk.turn hN hg (fun r e => by have := hr r e; omega)⟩
/-- What a round of walk hands on; what it leaves when it ends. -/
def WmI (J : List Mb → World → Prop) (N0 B0 l : Nat) (w : World) (t : ShT) (fr : Int) (d : Nat) (pre : List Mb) (p : List (FdOf ShT × Mb)) (W : World) : Prop := J (pre ++ p.flatMap (mbL d fr)) W ∧ WaS N0 B0 l w W t fr
def WmX (Jx : List Mb → World → Prop) (N0 B0 l : Nat) (full : List Mb) (w : World) (t : ShT) (fr : Int) (c : Code) (W : World) : Prop := c = .ret ∧ (∃ p, p <+: full ∧ Jx p W) ∧ WaS N0 B0 l w W t fr
theorem WmI.abides {J Jx : List Mb → World → Prop} {N0 B0 l : Nat} {full : List Mb} (hy : Yd l N0 B0 full J Jx) (w : World) (t : ShT) (fr : Int) (d : Nat) (pre : List Mb) {B C : Nat} (hN : N0 ≤ w.heap.size) (hB : B0 ≤ B) (h2 : w.heap.size + 4 ≤ B) : AbidesO B C 0 (WmI J N0 B0 l w t fr d pre) := by
  have ha := hy.aJ.abides (B' := B) (C := C) hB
  exact ⟨fun p X Y row hs hg hr => ⟨ha.turn _ _ _ _ hs.1 hg hr, hs.2.turn hN hg (fun r e => by have := (hr r e).1; omega)⟩, fun p X hs => ⟨ha.drew _ _ hs.1, hs.2.drew⟩⟩
theorem WmX.abides {J Jx : List Mb → World → Prop} {N0 B0 l : Nat} {full : List Mb} (hy : Yd l N0 B0 full J Jx) (w : World) (t : ShT) (fr : Int) (c : Code) {B C : Nat} (hN : N0 ≤ w.heap.size) (hB : B0 ≤ B) (h2 : w.heap.size + 4 ≤ B) : AbidesO B C 0 (fun (_ : List (FdOf ShT × Mb)) W => WmX Jx N0 B0 l full w t fr c W) := by
  have ha := hy.aX.abides (B' := B) (C := C) hB
  exact ⟨fun p X Y row hs hg hr => by
    obtain ⟨rfl, ⟨q, hq, hx⟩, hw⟩ := hs
    exact ⟨rfl, ⟨q, hq, ha.turn _ _ _ _ hx hg hr⟩, hw.turn hN hg (fun r e => by have := (hr r e).1; omega)⟩, fun p X hs => by
    obtain ⟨rfl, ⟨q, hq, hx⟩, hw⟩ := hs
    exact ⟨rfl, ⟨q, hq, ha.drew _ _ hx⟩, hw.drew⟩⟩
theorem ko_of {B0 B : Nat} {W W' : World} (h : KeepsFrom B0 W W') (hB : B0 ≤ B) : KeepsO B 0 W W' := ⟨h.size, fun j o hj h0 ho => h.same j o (Nat.le_trans hB hj) h0 (ho.resolve_right (by omega))⟩
theorem WaS.setF {N0 B0 l : Nat} {w W : World} {t : ShT} {fr : Int} (h : WaS N0 B0 l w W t fr) (hN : N0 ≤ w.heap.size) : WaS N0 B0 l w (W.setCell ⟨w.heap.size + 1 + 1 + 1, 0, none⟩ (.bool false)) t fr :=
  ⟨Bk.other h.t _ _ (by omega), h.f.other _ _ (by omega), h.y.other _ _ (by omega), (h.fin hN false).1, (h.fin hN false).2⟩
set_option maxRecDepth 100000 in
set_option maxHeartbeats 20000000 in
theorem walk_mem (d : Nat) (t : ShT) (fr : Int) (l N0 B0 : Nat) (full pre : List Mb) (J Jx : List Mb → World → Prop) (w : World) (hy : Yd l N0 B0 full J Jx) (h1 : (t.sh == 1) = false) (h2 : (t.sh == 2) = false) (h3 : (t.sh == 3) = false)
    (hfl : t.fs.length ≤ 40) (hok : ∀ f ∈ t.fs, FOk f (meaM d f.t)) (hin : t.In N0 w)
    (hJ : J pre w) (hB : B0 ≤ w.heap.size) (hN : N0 ≤ w.heap.size) (hpre : pre ++ (t.ml (meaM d)).flatMap (mbL d fr) <+: full)
    (hme : ∀ f ∈ t.fs, ∀ W, f.t.In W.heap.size W → Calls Try.prog 64 #[f.t.v] W fun r w' => r = .returned (extV (meaM d f.t)) ∧ Below W.heap.size W w')
    (hwm : ∀ x ∈ t.ml (meaM d), ∀ (p : List Mb) (W : World), J p W → Below N0 w W → B0 ≤ W.heap.size → N0 ≤ W.heap.size → p ++ mbL d fr x <+: full → Calls Try.prog 88 #[mbV x.1 x.2, .int .i64 fr, .func (.yield l) #[] #[]] W (WkP J Jx N0 B0 full W (p ++ mbL d fr x))) :
    Calls Try.prog 73 #[t.v, .int .i64 fr, .func (.yield l) #[] #[]] w (WkP J Jx N0 B0 full w (pre ++ (t.ml (meaM d)).flatMap (mbL d fr))) := by
  have HIN := veil hin
  have HMS := veil (fun Bd N1 => members_stops 3 (by decide) Bd N1 t (meaM d) hfl hok hme)
  have HWI := veil (members_any t)
  have HS0 := veil (WaS.new N0 B0 l w t fr hN)
  have HJ0 := veil (hy.aJ.below (((below_new2 w (.cells t.cs 25) (.cells #[.int .i64 fr] 2)).alloc (by simp; omega) (.cells #[.func (.yield l) #[] #[]] 113)).alloc (by simp; omega) (.cells #[.bool false] 4)) hJ)
  have HY := veil hy
  have HN := veil hN
  have HBB := veil hB
  have HP := veil hpre
  have HWM := veil hwm
  clear hy hN hB hpre hJ hme hwm hok hin hfl
  generalize t.ml (meaM d) = ML at *
  unfold ShT.v ShT.cs at *
  refine (callsIn_wide (n := 4)).1 ?_
  refine callsIn_of_wp_marks Try.func73 rfl trivial ?_ rfl
  simp only [Try.ntmps73, List.size_toArray, List.length_cons, List.length_nil, Nat.reduceAdd, Nat.reduceSub, Array.replicate_succ, Array.replicate_zero, List.push_toArray, List.append_toArray, List.nil_append, List.cons_append]
  refine wpIn_wide.2 ?_
  go_upto_region 1 with fail
  generalize ((((w.alloc (.cells _ 25)).alloc (.cells #[.int .i64 fr] 2)).alloc (.cells #[.func (.yield l) #[] #[]] 113)).alloc (.cells #[.bool false] 4)) = W0 at HS0 HJ0 ⊢
  obtain ⟨⟨y0, y1, y2, y3, y4, y5, y6⟩, g0, g1, g2, gf⟩ := (unveil HS0).cells
  go_wp2_with (go_at_call 43; refine (unveil HWI _).mono ?_; rintro e w' ⟨rfl, rfl⟩)
  have HTB : Hid (TyB (W0.alloc (.cells #[.int .i64 t.sh, .int .i64 t.k, .int .i64 t.n, .slice t.op t.of.length t.oc, .slice t.fp t.fs.length t.fc, .bool t.pk, .int .i64 t.al] 25)) W0.heap.size t) := TyB.new W0 t
  have HS1 : Hid (WaS N0 B0 l w (W0.alloc (.cells #[.int .i64 t.sh, .int .i64 t.k, .int .i64 t.n, .slice t.op t.of.length t.oc, .slice t.fp t.fs.length t.fc, .bool t.pk, .int .i64 t.al] 25)) t fr) := (unveil HS0).below (unveil HN) ((Below.refl _ W0).alloc (Nat.le_refl _) _)
  have HJ1 : Hid (J pre (W0.alloc (.cells #[.int .i64 t.sh, .int .i64 t.k, .int .i64 t.n, .slice t.op t.of.length t.oc, .slice t.fp t.fs.length t.fc, .bool t.pk, .int .i64 t.al] 25))) := (unveil HY).aJ.alloc _ (unveil HJ0)
  have hz : (W0.alloc (.cells #[.int .i64 t.sh, .int .i64 t.k, .int .i64 t.n, .slice t.op t.of.length t.oc, .slice t.fp t.fs.length t.fc, .bool t.pk, .int .i64 t.al] 25)).heap.size = W0.heap.size + 1 := by simp
  have hlw := (unveil HS0).r.lt
  generalize (W0.alloc (.cells #[.int .i64 t.sh, .int .i64 t.k, .int .i64 t.n, .slice t.op t.of.length t.oc, .slice t.fp t.fs.length t.fc, .bool t.pk, .int .i64 t.al] 25)) = W1 at *
  clear y0 y1 y2 y3 y4 y5 y6 g0 g1 g2 gf HS0 HJ0 HWI
  have hNw := unveil HN
  have hBw := unveil HBB
  have HKB := (unveil HS1).yk.be
  refine (wpIn_wide (n := 4)).1 ?_
  refine wpIn_rangeFunc_ownA (k := 0) rfl (by decide) (gf := 70) (lb := #[.pointer (some ⟨W0.heap.size, 0, none⟩)]) rfl trivial (enters_of Try.func70 (by kernel_rfl) rfl)
    (unveil HMS W0.heap.size N0 W1 (by omega) (unveil HTB) ((unveil HIN).below HKB)) KpM.trans (fun W lb o o' hlb hlo ho _ => KpM.put hlo ho (by omega) o') (fun W o hW => KpM.below ((Below.refl _ W).alloc (Nat.le_refl _) o) (by omega)) (Below.refl _ _) (fun _ => rfl)
    (WmI J N0 B0 l w t fr d pre) (fun c _ W => WmX Jx N0 B0 l full w t fr c W) (WmI.abides (unveil HY) w t fr d pre hNw (by omega) (by omega)) (fun c => WmX.abides (unveil HY) w t fr c hNw (by omega) (by omega))
    ⟨by rw [List.flatMap_nil, List.append_nil]; exact unveil HJ1, unveil HS1⟩ (fun x => .cells (mbC x.1 x.2) 77)
    (fun x A => { tmps := #[.agg #[.int .i64 t.sh, .int .i64 t.k, .int .i64 t.n, .slice t.op t.of.length t.oc, .slice t.fp t.fs.length t.fc, .bool t.pk, .int .i64 t.al], .int .i64 fr, .func (.yield l) #[] #[], .pointer (some ⟨w.heap.size, 0, none⟩), .pointer (some ⟨w.heap.size + 1, 0, none⟩), .pointer (some ⟨w.heap.size + 1 + 1, 0, none⟩), .pointer (some ⟨w.heap.size + 1 + 1 + 1, 0, none⟩), undef, undef, .pointer (some ⟨A, 0, none⟩), .pointer (some ⟨w.heap.size, 0, none⟩), .int .i64 t.sh, .bool false, .bool false, undef, undef, undef, undef, undef, undef, undef, undef, undef, undef, .bool false, .bool false, undef, undef, undef, undef, .bool false, .bool false, undef, undef, undef, undef, undef, undef, undef, undef, undef, undef, undef, undef, undef, undef, undef, undef, undef, undef, undef, undef, undef, undef, undef, undef, undef, .agg #[.int .i64 t.sh, .int .i64 t.k, .int .i64 t.n, .slice t.op t.of.length t.oc, .slice t.fp t.fs.length t.fc, .bool t.pk, .int .i64 t.al], .func (.func 70) #[] #[.pointer (some ⟨W0.heap.size, 0, none⟩)], .agg (mbC x.1 x.2), undef, undef, undef, undef, undef], defers := [] })
    ?assign ?body ?done ?stop
  case assign =>
    intro l' x W' K hK
    simp only [encM, mbV, mbC] at hK ⊢
    gi_wp2
    simpa using hK
  case body =>
    rintro l' p x W2 A hA hxA hno ⟨oJ, oS⟩ hp
    have hx : Bk W2 A 77 (mbC x.1 x.2) := hxA
    have hsz := oS.yk.size
    have hmem : x ∈ ML := hp.subset (by simp)
    have hpf : (pre ++ p.flatMap (mbL d fr)) ++ mbL d fr x <+: full := by
      refine List.IsPrefix.trans ?_ (unveil HP)
      obtain ⟨r, hr⟩ := hp
      rw [← hr, List.append_assoc, List.flatMap_append, List.flatMap_append]
      refine (List.prefix_append_right_inj _).2 ?_
      rw [List.append_assoc]
      refine (List.prefix_append_right_inj _).2 ?_
      simp
    have HC := veil (unveil HWM x hmem _ W2 oJ oS.yk.be (by omega) (by omega) hpf)
    obtain ⟨⟨y0, y1, y2, y3, y4, y5, y6⟩, g0, g1, g2, gf⟩ := oS.cells
    have HOS := veil oS
    obtain ⟨c0, c1, c2, c3, c4, c5, c6, c7, c8, c9, c10, c11, c12⟩ := hx.thirteen
    have HFL : Hid ((pre ++ p.flatMap (mbL d fr)) ++ mbL d fr x = pre ++ (p ++ [x]).flatMap (mbL d fr)) := by
      unfold Hid
      rw [List.flatMap_append, List.append_assoc]
      simp
    rw [unveil HFL] at HC
    clear oS hx hxA hno oJ hmem hpf hp HFL
    have HC2 : Hid (Calls Try.prog 88 #[.agg (mbC x.1 x.2), .int .i64 fr, .func (.yield l) #[] #[]] W2 (WkP J Jx N0 B0 full W2 (pre ++ (p ++ [x]).flatMap (mbL d fr)))) := HC
    clear HC
    unfold mbC at HC2 ⊢
    gi_wp2_with (refine ⟨trivial, ?_⟩; gi_at_call 88; refine (callsIn_wide.2 (unveil HC2)).mono ?_; rintro e W6 hw6; have hk6 : Hid (YK N0 B0 W2 W6) := (by rcases hw6 with h | h <;> exact h.2.2); have HS6 := veil ((unveil HOS).call (unveil hk6)); have HW6 := veil hw6; clear hw6; obtain ⟨⟨z0, z1, z2, z3, z4, z5, z6⟩, k0, k1, k2, kf⟩ := (unveil HS6).cells; rcases unveil HW6 with ⟨rfl, hJ6, _⟩ | ⟨rfl, hX6, _⟩)
    · exact ⟨kf_up (unveil hk6).kf (by omega), ko_of (unveil hk6).kf (by omega), (unveil hk6).kp, hJ6, unveil HS6⟩
    · obtain ⟨q, hq, hx⟩ := hX6
      exact ⟨(kf_up (unveil hk6).kf (by omega)).trans ((KeepsOthers.setCell _ _ _).from _), (ko_of (unveil hk6).kf (by omega)).trans (KeepsO.setCell (.inl (by omega))), rfl, ⟨q, hq, (unveil HY).aX.setCell _ hx (by omega) (unveil HS6).r⟩, (unveil HS6).setF hNw⟩
  case done =>
    rintro D' W' hD' ⟨cJ, cS⟩ hK
    have HCS := veil cS
    have HCJ := veil cJ
    have HKK := veil hK
    obtain ⟨⟨z0, z1, z2, z3, z4, z5, z6⟩, k0, k1, k2, kf⟩ := cS.cells
    have hDn : D' ≠ w.heap.size + 1 + 1 + 1 := by omega
    clear cS cJ hK
    go_wp2_with fail
    have hKs : (W'.setCell ⟨w.heap.size + 1 + 1 + 1, 0, none⟩ (.bool true)).heap[D']? = some (.deferred (some [])) := (Below.heap_setCell _ _ _ _ hDn).trans (unveil HKK)
    refine ⟨by simp, .inl ⟨_, _, rfl, run_takeDeferred hKs, ?_⟩⟩
    have hf := (unveil HCS).fin hNw true
    refine ⟨_, res_w (f := Try.f73) rfl rfl (hf.1.turn (grownBy_putObj' _ D' _) (fun r e => by cases e; omega)), .inl ⟨rfl, ?_, hf.2.turn hNw (grownBy_putObj' _ D' _) (fun r e => by cases e; omega)⟩⟩
    exact (unveil HY).aJ.putObj _ ((unveil HY).aJ.setCell _ (unveil HCJ) (by omega) (unveil HCS).r) (by omega) hKs rfl
  case stop =>
    rintro D' c p W' hD' _ ⟨rfl, ⟨q, hq, hx⟩, cS⟩ hK
    have HCS := veil cS
    have HCX := veil hx
    have HKK := veil hK
    clear cS hx hK
    gi_wp2
    refine ⟨by simp, .inl ⟨_, _, rfl, run_takeDeferred (unveil HKK), ?_⟩⟩
    refine ⟨_, res_w (f := Try.f73) rfl rfl ((unveil HCS).r.turn (grownBy_putObj' _ D' _) (fun r e => by cases e; omega)), .inr ⟨rfl, ⟨q, hq, ?_⟩, (unveil HCS).yk.turn hNw (grownBy_putObj' _ D' _) (fun r e => by cases e; omega)⟩⟩
    exact (unveil HY).aX.putObj _ (unveil HCX) (by omega) (unveil HKK) rfl
end Go.Proofs.Ytkiebejidpebdaa
namespace Go.Proofs.Ytkiebejidpebdaa
open Go Go.RowKit Go.Shelf
attribute [local go_sem] Oper.semAt_some
set_option linter.unusedVariables false
set_option linter.unusedSimpArgs false

/-- Numbers of an array that is not too big. -/
theorem arr_small {n z : Int} (hn : 1 ≤ n) (hz : 1 ≤ z) (h : min (min n 65537 * z) 65537 ≤ 65536) : n ≤ 65536 ∧ z ≤ 65536 ∧ ∀ i : Int, 0 ≤ i → i < n → i * (8 * z) ≤ 524288 := by
  have h1 : n ≤ 65536 := by
    apply Classical.byContradiction
    intro hc
    have hm : min n 65537 = 65537 := by omega
    rw [hm] at h
    omega
  have hm : min n 65537 = n := by omega
  rw [hm] at h
  have h2 : n * z ≤ 65536 := by omega
  have h3 : 1 * z ≤ n * z := Int.mul_le_mul_of_nonneg_right hn (by omega)
  refine ⟨h1, by omega, fun i hi hin => ?_⟩
  have h4 : i * z ≤ n * z := Int.mul_le_mul_of_nonneg_right (by omega) (by omega)
  have h5 : i * (8 * z) = 8 * (i * z) := by rw [Int.mul_left_comm]
  omega
theorem walk_any : ∀ (d : Nat), d ≤ 6 → ∀ (t : ShT) (fr : Int) (l N0 B0 : Nat) (full pre : List Mb) (J Jx : List Mb → World → Prop) (w : World), Yd l N0 B0 full J Jx → rigM d t = true → (meaM d t).1 ≤ 65536 → 0 ≤ fr → fr ≤ 33554432 * (6 - d) → t.In N0 w →
    J pre w → B0 ≤ w.heap.size → N0 ≤ w.heap.size → pre ++ leaM d t fr <+: full → Calls Try.prog 73 #[t.v, .int .i64 fr, .func (.yield l) #[] #[]] w (WkP J Jx N0 B0 full w (pre ++ leaM d t fr))
  | 0, _, t, fr, l, N0, B0, full, pre, J, Jx, w, hy, h, hsm, h0, hf, hin, hJ, hB, hN, hp => by cases h
  | d + 1, hd, t, fr, l, N0, B0, full, pre, J, Jx, w, hy, h, hsm, h0, hf, hin, hJ, hB, hN, hp => by
    obtain ⟨hfo, hpt⟩ := rig_form h
    rw [meaM] at hsm
    rw [leaM] at hp ⊢
    have hf2 : fr ≤ 268435456 := by omega
    cases h1 : t.sh == 1
    · cases h2 : t.sh == 2
      · cases h3 : t.sh == 3
        · simp only [h1, h2, h3, Bool.false_eq_true, if_false] at hp hsm ⊢
          obtain ⟨_, _, _, _, ha, hs⟩ := form_struct hfo h1 h2 h3
          obtain ⟨f1, f2, f3, _⟩ := ffs_all hs
          have hok : ∀ f ∈ t.fs, FOk f (meaM d f.t) := fun f hfm => fok_of (mea_ok d) (f3 f hfm) (hpt _ (fs_part hfm))
          refine walk_mem d t fr l N0 B0 full pre J Jx w hy h1 h2 h3 f1 hok hin hJ hB hN hp (fun f hfm W hW => measure_any d f.t W (hpt _ (fs_part hfm)) hW) (fun x hx p W hj hbe hb hn hpf => ?_)
          have hxm : x.1 ∈ t.fs := by
            have := ml_fst (meaM d) t.pk (t.sh == 4) t.fs 0
            rw [← this]
            exact List.mem_map.2 ⟨x, hx, rfl⟩
          obtain ⟨m1, m2, m3, _, _⟩ := ml_ok (meaM d) t.pk (t.sh == 4) t.fs 0 0 hok (by omega) (by omega) (by omega) x hx
          refine walkMember_any d x.1 x.2 fr l N0 B0 full p J Jx W hy h0 hf2 m1 (by omega) hj hb hn hpf (fun hb0 W' hW' hj' => ?_)
          have hpf2 : p ++ leaM d x.1.t (x.2.bit + fr) <+: full := by
            unfold mbL at hpf
            rw [if_neg (by simp; omega), if_neg (by omega)] at hpf
            exact hpf
          have hsx : (meaM d x.1.t).1 ≤ 65536 := by
            apply Classical.byContradiction
            intro hc
            have := big_mem hok f1 (ali_le ha).2 hxm (by omega)
            omega
          exact walk_any d (by omega) x.1.t (x.2.bit + fr) l N0 B0 full p J Jx W' hy (hpt _ (fs_part hxm)) hsx (by omega) (by push_cast at hf; omega) ((parts_in (hin.below hbe) (fs_part hxm)).below (hW'.mono hn)) hj' (Nat.le_trans hb hW'.size) (Nat.le_trans hn hW'.size) hpf2
        · simp only [h1, h2, h3, Bool.false_eq_true, if_false, if_true] at hp hsm ⊢
          obtain ⟨_, q1, q2, _⟩ := form_arr hfo h3
          obtain ⟨x, hof⟩ := List.length_eq_one_iff.1 q2
          rw [hof] at hp hsm ⊢
          simp only at hp hsm ⊢
          have hx : rigM d x = true := hpt x (by unfold ShT.parts; rw [hof]; simp)
          obtain ⟨a1, a2, a3⟩ := arr_small q1 (mea_pos d x hx) hsm
          have hz := mea_pos d x hx
          refine walk_arr t x (meaM d x).1 (meaM d x).2 fr (fun i => leaM d x (fr + (i : Int) * (8 * (meaM d x).1))) l N0 B0 full pre J Jx w hy h1 h2 h3 hof q1 a1 (by omega) a2 a3 h0 hf2 hin hJ hB hN hp (fun W hW => measure_any d x W hx hW) (fun i p W hi hj hxin hb hn hpf => ?_)
          have hi2 := a3 i (by omega) hi
          have hi3 : 0 ≤ (i : Int) * (8 * (meaM d x).1) := Int.mul_nonneg (by omega) (by omega)
          exact walk_any d (by omega) x _ l N0 B0 full p J Jx W hy hx a2 (by omega) (by push_cast at hf; omega) hxin hj hb hn hpf
      · simp only [h1, h2, Bool.false_eq_true, if_false, if_true] at hp ⊢
        exact walk_ptr t fr l N0 B0 full pre J Jx w hy h1 h2 hJ hB hN hp
    · simp only [h1, if_true] at hp ⊢
      exact walk_int t fr l N0 B0 full pre J Jx w hy h1 (form_int hfo h1).1 hJ hB hN hp
end Go.Proofs.Ytkiebejidpebdaa
namespace Go.Proofs.Ytkiebejidpebdaa
open Go Go.RowKit Go.Shelf
attribute [local go_sem] Oper.semAt_some
set_option linter.unusedVariables false
set_option linter.unusedSimpArgs false

/-- What leaves asks of its rounds. -/
structure Kp0 (N0 : Nat) (A B : World) : Prop where
  be : Below N0 A B
  bk : ∀ j T cs, (T = 77 ∨ T = 25 ∨ T = 2 ∨ T = 113 ∨ T = 4) → Bk A j T cs → Bk B j T cs
theorem Kp0.trans {N0 : Nat} {A B C : World} (h : Kp0 N0 A B) (k : Kp0 N0 B C) : Kp0 N0 A C := ⟨h.be.trans k.be, fun j T cs hT b => k.bk j T cs hT (h.bk j T cs hT b)⟩
theorem Kp0.below {N0 : Nat} {A B : World} (h : Below A.heap.size A B) (hN : N0 ≤ A.heap.size) : Kp0 N0 A B := ⟨h.mono hN, fun j T cs _ b => b.below h⟩
theorem Kp0.set {N0 : Nat} {A : World} {b i : Nat} {T : TypeId} {cs : Array Value} (hb : Bk A b T cs) (hT : T = 30 ∨ T = 27) (hN : N0 ≤ b) (v : Value) : Kp0 N0 A (A.setCell ⟨b, i, none⟩ v) := by
  refine ⟨(Below.refl _ A).setCell (p := ⟨b, i, none⟩) hN v, fun j T' cs' hT' h => h.other _ _ (fun e => ?_)⟩
  subst e
  unfold Bk at h hb
  rw [hb] at h
  simp at h
  have h2 := h.2
  rcases hT with rfl | rfl <;> rcases hT' with rfl | rfl | rfl | rfl | rfl <;> revert h2 <;> decide
theorem Kp0.put {N0 : Nat} {A : World} {l : Nat} {o : Obj} (hl : A.heap[l]? = some o) (ho : o.isCells = false) (hN : N0 ≤ l) (o' : Obj) : Kp0 N0 A (A.putObj l o') := by
  refine ⟨(Below.refl _ A).grown (grownBy_putObj' A l o') (by have := (Array.getElem?_eq_some_iff.1 hl).1; omega) (fun r e => by cases e; omega), fun j T cs' _ h => (World.putObj_heap_other (fun e => ?_)).trans h⟩
  subst e
  unfold Bk at h
  rw [hl] at h
  cases h
  cases ho
theorem Kp0.rowG {W W' : World} {base n N0 : Nat} {v : Value} {xs : List Value} (hr : W.ownsRow base 42 3 v n xs) (hg : W.grownBy W' v.ownBlock) (hN : N0 ≤ base) (hW : N0 ≤ W.heap.size) : Kp0 N0 W W' :=
  ⟨(Below.refl _ W).grown hg hW (fun r e' => Nat.le_trans hN (row_turnS hr r e').1), fun j T cs hT h => h.rowG hr hg (by rcases hT with rfl | rfl | rfl | rfl | rfl <;> decide)⟩
theorem yield_any {n m l : Nat} {P : Program} {args : Array Value} {W : World} {R R' : Ending → World → Prop} (h : YieldAt Fence.wide n P l args W R) (hr : ∀ e w', R e w' → R' e w') : YieldAt Fence.wide m P l args W R' := by
  obtain ⟨fn, tmps, assign, body, h1, h2⟩ := h
  exact ⟨fn, tmps, assign, body, h1, (RoundIn.mono ⟨h2.1, fun c cs _ => h2.2 c cs (room_wide _)⟩ hr)⟩
theorem leaves_any (t : ShT) (w : World) :
    Calls Try.prog 44 #[t.v] w fun e w' => e = .returned (.func (.func 72) #[] #[.pointer (some ⟨w.heap.size, 0, none⟩)]) ∧ w' = w.alloc (.cells t.cs 25) := by
  unfold ShT.v ShT.cs
  go_enter Try.func44, Try.ntmps44
  go_wp2
  go_ret
  exact ⟨rfl, rfl⟩
set_option maxRecDepth 100000 in
set_option maxHeartbeats 8000000 in
theorem leaves1_in (n : Nat) (lp Bd : Nat) (t : ShT) (full : List Mb) (J Jx : List Mb → World → Prop) (W : World)
    (hw : Calls Try.prog 73 #[t.v, .int .i64 0, .func (.yield lp) #[] #[]] W fun e W' => (∃ v, e = .returned v) ∧ (J full W' ∨ ∃ p, p <+: full ∧ Jx p W'))
    (hb : Bk W Bd 25 t.cs) :
    CallsIn Fence.wide n Try.prog 72 #[.func (.yield lp) #[] #[], .pointer (some ⟨Bd, 0, none⟩)] W fun e W' => (∃ v, e = .returned v) ∧ (J full W' ∨ ∃ p, p <+: full ∧ Jx p W') := by
  obtain ⟨c0, c1, c2, c3, c4, c5, c6⟩ := TyB.seven (t := t) hb
  have HW := veil hw
  clear hw hb
  unfold ShT.v ShT.cs at HW
  refine callsIn_of_wp Try.func72 rfl trivial ?_ rfl
  simp only [Try.ntmps72, List.size_toArray, List.length_cons, List.length_nil, Nat.reduceAdd, Nat.reduceSub, Array.replicate_succ, Array.replicate_zero, List.push_toArray, List.append_toArray, List.nil_append, List.cons_append]
  gi_wp2
  refine ⟨trivial, (fun h => by cases h), (callsIn_wide.2 (unveil HW)).mono ?_⟩
  rintro e W6 ⟨⟨v, rfl⟩, h6⟩
  gi_wp2
  refine bodyPost_end (results_none (fn := Try.f72) rfl _ _ _) rfl ?_
  exact ⟨⟨_, rfl⟩, h6⟩
theorem leaves_stops (n Bd N0 : Nat) (t : ShT) (hr : rigM 6 t = true) (hs : (meaM 6 t).1 ≤ 65536) (w : World) (hN : N0 ≤ w.heap.size) (hb : Bk w Bd 25 t.cs) (hin : t.In N0 w) :
    SeqStopsT 4 Fence.wide n Try.prog 72 #[.pointer (some ⟨Bd, 0, none⟩)] encS (Kp0 N0) (leaM 6 t 0) w := by
  intro lp J Jx W hW hJ hJx hY h0
  have hy : Yd lp N0 W.heap.size (leaM 6 t 0) J Jx := ⟨hJ, hJx, fun pre x W1 h1 h2 _ h4 m => yield_any (hY pre x W1 h1 h2 h4) (fun e w' h => by
    rcases h with ⟨q1, q2, q3, q4⟩ | ⟨q1, q2, q3, q4⟩
    · exact .inl ⟨q1, q2, q4.be, q4.bk, q3⟩
    · exact .inr ⟨q1, ⟨_, h4, q2⟩, q4.be, q4.bk, q3⟩)⟩
  have hwk := walk_any 6 (Nat.le_refl _) t 0 lp N0 W.heap.size (leaM 6 t 0) [] J Jx W hy hr hs (Int.le_refl _) (by omega) (hin.below (hW.mono hN)) h0 (Nat.le_refl _) (Nat.le_trans hN hW.size) (by rw [List.nil_append]; exact List.prefix_refl _)
  rw [List.nil_append] at hwk
  refine leaves1_in n lp Bd t _ J Jx W (hwk.mono fun e W' h => ?_) (hb.below hW)
  rcases h with ⟨q1, q2, _⟩ | ⟨q1, q2, _⟩
  · exact ⟨⟨_, q1⟩, .inl q2⟩
  · exact ⟨⟨_, q1⟩, .inr q2⟩
end Go.Proofs.Ytkiebejidpebdaa
namespace Go.Proofs.Ytkiebejidpebdaa
open Go Go.RowKit Go.Shelf
attribute [local go_sem] Oper.semAt_some
set_option linter.unusedVariables false
set_option linter.unusedSimpArgs false

/-- What Leaves tells. -/
def leaL (t : ShT) : List Mb × Int := if (chkM t).2 == 0 then (if (leaM 6 t 0).length ≤ 2000 then (leaM 6 t 0, 0) else ([], 101)) else ([], (chkM t).2)
theorem chk_small {t : ShT} (h : ((chkM t).2 == 0) = true) : (meaM 6 t).1 ≤ 65536 := by
  unfold chkM at h
  split at h
  · split at h
    · simp at h
    · omega
  · simp at h
theorem res_ss {f : Func} {k j : Nat} {tmps : Array Value} {w : World} {R S : Nat} {v u : Value} (hr : f.results = #[.cell k 30, .cell j 27]) (hp : tmps.getD k undef = .pointer (some ⟨R, 0, none⟩)) (hq : tmps.getD j undef = .pointer (some ⟨S, 0, none⟩)) (hg : Bk w R 30 #[v]) (hs : Bk w S 27 #[u]) :
    (results f tmps).run Try.prog w = .ok (.tuple #[v, u]) w := by
  have hp' : tmps[k]?.getD undef = .pointer (some ⟨R, 0, none⟩) := by simpa using hp
  have hq' : tmps[j]?.getD undef = .pointer (some ⟨S, 0, none⟩) := by simpa using hq
  have hc := hg.cell 0
  have hd := hs.cell 0
  simp only [List.getElem?_toArray, List.getElem?_cons_zero] at hc hd
  simp [results, hr, hp', hq', asAddr, loadVar, go_sem, hc, hd, Try.underlying30, Try.underlying27]
/-- The boxes of Leaves: the type's, both answers'. -/
structure LeS (w W : World) (t : ShT) : Prop where
  t : TyB W w.heap.size t
  a : Bk W (w.heap.size + 1) 30 #[.slice none 0 0]
  e : Bk W (w.heap.size + 1 + 1) 27 #[.int .i64 0]
  be : Below w.heap.size w W
theorem LeS.new (w : World) (t : ShT) : LeS w (((w.alloc (.cells t.cs 25)).alloc (.cells #[.slice none 0 0] 30)).alloc (.cells #[.int .i64 0] 27)) t := by
  have h1 := Bk.new (w.alloc (.cells t.cs 25)) 30 #[.slice none 0 0]
  have h2 := Bk.new ((w.alloc (.cells t.cs 25)).alloc (.cells #[.slice none 0 0] 30)) 27 #[.int .i64 0]
  rw [World.size_alloc] at h1
  rw [World.size_alloc, World.size_alloc] at h2
  exact ⟨((TyB.new w t).alloc _).alloc _, h1.alloc _, h2, (below_new2 w _ _).alloc (by simp; omega) _⟩
theorem LeS.call {w W W' : World} {t : ShT} (h : LeS w W t) (hb : Below W.heap.size W W') : LeS w W' t := ⟨h.t.below hb, h.a.below hb, h.e.below hb, h.be.trans (hb.mono h.be.size)⟩
theorem LeS.cells {w W : World} {t : ShT} (h : LeS w W t) :
    (W.cell? ⟨w.heap.size, 0, none⟩ = some (.int .i64 t.sh) ∧ W.cell? ⟨w.heap.size, 1, none⟩ = some (.int .i64 t.k) ∧ W.cell? ⟨w.heap.size, 2, none⟩ = some (.int .i64 t.n) ∧ W.cell? ⟨w.heap.size, 3, none⟩ = some (.slice t.op t.of.length t.oc) ∧
      W.cell? ⟨w.heap.size, 4, none⟩ = some (.slice t.fp t.fs.length t.fc) ∧ W.cell? ⟨w.heap.size, 5, none⟩ = some (.bool t.pk) ∧ W.cell? ⟨w.heap.size, 6, none⟩ = some (.int .i64 t.al)) ∧
    W.cell? ⟨w.heap.size + 1, 0, none⟩ = some (.slice none 0 0) ∧ W.cell? ⟨w.heap.size + 1 + 1, 0, none⟩ = some (.int .i64 0) ∧ W.frozen? ⟨w.heap.size + 1, 0, none⟩ = false ∧ W.frozen? ⟨w.heap.size + 1 + 1, 0, none⟩ = false :=
  ⟨h.t.seven, h.a.cell 0, h.e.cell 0, h.a.frozen 0, h.e.frozen 0⟩
/-- Both answers are written. -/
theorem LeS.fin {w W : World} {t : ShT} (h : LeS w W t) (v u : Value) : Bk ((W.setCell ⟨w.heap.size + 1, 0, none⟩ v).setCell ⟨w.heap.size + 1 + 1, 0, none⟩ u) (w.heap.size + 1) 30 #[v] ∧ Bk ((W.setCell ⟨w.heap.size + 1, 0, none⟩ v).setCell ⟨w.heap.size + 1 + 1, 0, none⟩ u) (w.heap.size + 1 + 1) 27 #[u] ∧ Below w.heap.size w ((W.setCell ⟨w.heap.size + 1, 0, none⟩ v).setCell ⟨w.heap.size + 1 + 1, 0, none⟩ u) :=
  ⟨(h.a.set 0 v).other _ _ (by omega), (h.e.other _ _ (by omega)).set 0 u, (h.be.setCell (p := ⟨w.heap.size + 1, 0, none⟩) (by show w.heap.size ≤ w.heap.size + 1; omega) _).setCell (p := ⟨w.heap.size + 1 + 1, 0, none⟩) (by show w.heap.size ≤ w.heap.size + 1 + 1; omega) _⟩
def LvI (w : World) (t : ShT) (L : Nat) (pre : List Mb) (W : World) : Prop :=
  (∃ v, Bk W L 30 #[v] ∧ W.ownsRow w.heap.size 42 3 v pre.length (spCs pre)) ∧ LeS w W t ∧ pre.length ≤ 2000
def LvX (w : World) (full : List Mb) (c : Code) (W : World) : Prop :=
  c = .ret ∧ Bk W (w.heap.size + 1) 30 #[.slice none 0 0] ∧ Bk W (w.heap.size + 1 + 1) 27 #[.int .i64 101] ∧ Below w.heap.size w W ∧ ¬ full.length ≤ 2000
theorem LeS.turn {w W W' : World} {t : ShT} {row : Option Nat} (h : LeS w W t) (hg : W.grownBy W' row) (hr : ∀ r, row = some r → w.heap.size + 3 ≤ r) : LeS w W' t :=
  ⟨Bk.turn h.t hg (fun r e => by have := hr r e; omega), h.a.turn hg (fun r e => by have := hr r e; omega), h.e.turn hg (fun r e => by have := hr r e; omega), h.be.grown hg h.be.size (fun r e => by have := hr r e; omega)⟩
theorem LvI.abides (w : World) (t : ShT) (L B : Nat) (h1 : L < B) (h2 : w.heap.size + 3 ≤ B) : AbT B 4 (LvI w t L) := by
  refine ⟨fun pre X Y row hs hg hr => ?_, fun pre X hs => ?_⟩
  · obtain ⟨⟨v, a, b⟩, c, hl⟩ := hs
    have hr' : ∀ r, row = some r → B ≤ r := fun r e => (hr r e).1
    refine ⟨⟨v, a.turn hg (fun r e => by have := hr' r e; omega), ownsRow_turnS b hg (fun r e cur hc => ?_)⟩, c.turn hg (fun r e => by have := hr' r e; omega), hl⟩
    rcases (hr r e).2 with ⟨o, ho, hcs⟩ | ⟨cs, hcs⟩
    · rw [hc] at ho; cases ho; cases hcs
    · unfold Bk at hcs
      rw [hc] at hcs
      simp at hcs
  · obtain ⟨⟨v, a, b⟩, c, hl⟩ := hs
    exact ⟨⟨v, a, b⟩, ⟨c.t, c.a, c.e, c.be.drew⟩, hl⟩
theorem LvX.abides (w : World) (full : List Mb) (B : Nat) (c : Code) (h2 : w.heap.size + 3 ≤ B) : AbT B 4 (fun (_ : List Mb) W => LvX w full c W) := by
  refine ⟨fun pre X Y row hs hg hr => ?_, fun pre X hs => ?_⟩
  · obtain ⟨rfl, a, e, b, hl⟩ := hs
    have hr' : ∀ r, row = some r → B ≤ r := fun r e => (hr r e).1
    exact ⟨rfl, a.turn hg (fun r e => by have := hr' r e; omega), e.turn hg (fun r e => by have := hr' r e; omega), b.grown hg b.size (fun r e => by have := hr' r e; omega), hl⟩
  · obtain ⟨rfl, a, e, b, hl⟩ := hs
    exact ⟨rfl, a, e, b.drew, hl⟩
set_option maxRecDepth 100000 in
set_option maxHeartbeats 20000000 in
theorem Leaves_main (t : ShT) (w : World) (hin : t.In w.heap.size w) (hrg : rigM 6 t = true) (hsm : (meaM 6 t).1 ≤ 65536)
    (HC : Hid (∀ W, LeS w W t → Calls Try.prog 20 #[t.v] W fun r w' => r = .returned (.int .i64 0) ∧ Below W.heap.size W w')) :
    Calls Try.prog 24 #[t.v] w fun e w' => MbP w (if (leaM 6 t 0).length ≤ 2000 then (leaM 6 t 0) else []) (if (leaM 6 t 0).length ≤ 2000 then 0 else 101) e w' := by
  have HIN := veil hin
  have HLS := veil (fun Bd => leaves_stops 3 Bd w.heap.size t hrg hsm)
  have HLA := veil (leaves_any t)
  have HS0 := veil (LeS.new w t)
  clear hin hrg hsm
  generalize leaM 6 t 0 = full at *
  unfold ShT.v ShT.cs at *
  obtain ⟨RL, hRL⟩ : ∃ RL, (if full.length ≤ 2000 then full else []) = RL := ⟨_, rfl⟩
  obtain ⟨RE, hRE⟩ : ∃ RE, (if full.length ≤ 2000 then (0 : Int) else 101) = RE := ⟨_, rfl⟩
  rw [hRL, hRE]
  have HRL := veil hRL
  have HRE := veil hRE
  clear hRL hRE
  refine (callsIn_wide (n := 4)).1 ?_
  refine callsIn_of_wp_marks Try.func24 rfl trivial ?_ rfl
  simp only [Try.ntmps24, List.size_toArray, List.length_cons, List.length_nil, Nat.reduceAdd, Nat.reduceSub, Array.replicate_succ, Array.replicate_zero, List.push_toArray, List.append_toArray, List.nil_append, List.cons_append]
  refine wpIn_wide.2 ?_
  go_upto_region 1 with fail
  generalize (((w.alloc (.cells _ 25)).alloc (.cells #[.slice none 0 0] 30)).alloc (.cells #[.int .i64 0] 27)) = W0 at HS0 ⊢
  obtain ⟨⟨y0, y1, y2, y3, y4, y5, y6⟩, g0, g1, gf0, gf1⟩ := (unveil HS0).cells
  go_wp2_with (first
    | (go_at_call 20; refine (unveil HC _ (unveil HS0)).mono ?_; rintro e W1 ⟨rfl, hb1⟩; have HS1 := veil ((unveil HS0).call hb1); clear hb1; obtain ⟨⟨z0, z1, z2, z3, z4, z5, z6⟩, k0, k1, kf0, kf1⟩ := (unveil HS1).cells; have ltz := (unveil HS1).t.lt)
    | (go_at_call 44; refine (unveil HLA _).mono ?_; rintro e w' ⟨rfl, rfl⟩))
  have HB : Hid (Bk ((W1.alloc (.cells #[.slice none 0 0] 30)).alloc (.cells #[.int .i64 t.sh, .int .i64 t.k, .int .i64 t.n, .slice t.op t.of.length t.oc, .slice t.fp t.fs.length t.fc, .bool t.pk, .int .i64 t.al] 25)) (W1.heap.size + 1) 25 t.cs) := by
    have := Bk.new (W1.alloc (.cells #[.slice none 0 0] 30)) 25 t.cs
    rw [World.size_alloc] at this
    exact this
  have HI0 : Hid (LvI w t W1.heap.size [] ((W1.alloc (.cells #[.slice none 0 0] 30)).alloc (.cells #[.int .i64 t.sh, .int .i64 t.k, .int .i64 t.n, .slice t.op t.of.length t.oc, .slice t.fp t.fs.length t.fc, .bool t.pk, .int .i64 t.al] 25))) :=
    ⟨⟨_, (Bk.new W1 _ _).alloc _, World.ownsRow_nil _ _ _ _⟩, (unveil HS1).call (below_new2 W1 _ _), Nat.zero_le _⟩
  have hz : ((W1.alloc (.cells #[.slice none 0 0] 30)).alloc (.cells #[.int .i64 t.sh, .int .i64 t.k, .int .i64 t.n, .slice t.op t.of.length t.oc, .slice t.fp t.fs.length t.fc, .bool t.pk, .int .i64 t.al] 25)).heap.size = W1.heap.size + 2 := by simp
  have hlw := (unveil HS1).e.lt
  generalize ((W1.alloc (.cells #[.slice none 0 0] 30)).alloc (.cells #[.int .i64 t.sh, .int .i64 t.k, .int .i64 t.n, .slice t.op t.of.length t.oc, .slice t.fp t.fs.length t.fc, .bool t.pk, .int .i64 t.al] 25)) = W2 at *
  have HBE : Hid (Below w.heap.size w W2) := (unveil HI0).2.1.be
  clear HC HLA HS0 HS1 y0 y1 y2 y3 y4 y5 y6 g0 g1 gf0 gf1 z0 z1 z2 z3 z4 z5 z6 k0 k1 kf0 kf1
  refine (wpIn_wide (n := 4)).1 ?_
  refine wpIn_rangeFunc_ownT (T := 4) rfl (by decide) (gf := 72) (lb := #[.pointer (some ⟨W1.heap.size + 1, 0, none⟩)]) rfl trivial (enters_of Try.func72 (by kernel_rfl) rfl)
    (unveil HLS (W1.heap.size + 1) W2 (by omega) (unveil HB) ((unveil HIN).below (unveil HBE))) Kp0.trans (fun W lb o o' hlb hlo ho _ => Kp0.put hlo ho (by omega) o') (fun W o hW => Kp0.below ((Below.refl _ W).alloc (Nat.le_refl _) o) (by omega)) (Below.refl _ _) (fun _ => rfl)
    (LvI w t W1.heap.size) (fun c _ W => LvX w full c W) (LvI.abides w t _ _ (by omega) (by omega)) (fun c => LvX.abides w full _ c (by omega))
    (unveil HI0) (fun x => .cells #[.int .i64 x.bit, .int .i64 x.bits, .int .i64 x.k] 42)
    (fun x B => { tmps := #[.agg #[.int .i64 t.sh, .int .i64 t.k, .int .i64 t.n, .slice t.op t.of.length t.oc, .slice t.fp t.fs.length t.fc, .bool t.pk, .int .i64 t.al], .pointer (some ⟨w.heap.size, 0, none⟩), .pointer (some ⟨w.heap.size + 1, 0, none⟩), .pointer (some ⟨w.heap.size + 1 + 1, 0, none⟩), .int .i64 0, .pointer (some ⟨W1.heap.size, 0, none⟩), .pointer (some ⟨B, 0, none⟩), .agg #[.int .i64 t.sh, .int .i64 t.k, .int .i64 t.n, .slice t.op t.of.length t.oc, .slice t.fp t.fs.length t.fc, .bool t.pk, .int .i64 t.al], .int .i64 0, .int .i64 0, .bool false, undef, .agg #[.int .i64 t.sh, .int .i64 t.k, .int .i64 t.n, .slice t.op t.of.length t.oc, .slice t.fp t.fs.length t.fc, .bool t.pk, .int .i64 t.al], .func (.func 72) #[] #[.pointer (some ⟨W1.heap.size + 1, 0, none⟩)], .agg #[.int .i64 x.bit, .int .i64 x.bits, .int .i64 x.k], undef, undef, undef, undef, undef, undef, undef, undef], defers := [] })
    ?assign ?body ?done ?stop
  case assign =>
    intro l' x W' K hK
    simp only [encS] at hK ⊢
    gi_wp2
    simpa using hK
  case body =>
    rintro l' pre x W3 B hB hxB ⟨⟨v, c0, hrow⟩, oS, hlen⟩ hpre
    have hx : Bk W3 B 42 #[.int .i64 x.bit, .int .i64 x.bits, .int .i64 x.k] := hxB
    obtain ⟨q, cp, rfl⟩ := row_slice hrow
    obtain ⟨m1, m2, m3, m4⟩ := x
    simp only at *
    have x0 := hx.cell 0
    have x1 := hx.cell 1
    have x2 := hx.cell 2
    simp only [List.getElem?_toArray, List.getElem?_cons_zero, List.getElem?_cons_succ] at x0 x1 x2
    have k0 := c0.cell 0
    simp only [List.getElem?_toArray, List.getElem?_cons_zero] at k0
    have hLl := c0.lt
    have HPL := veil hpre.length_le
    have hzW : w.heap.size ≤ W3.heap.size := oS.be.size
    have hBlt := hx.lt
    obtain ⟨⟨y0, y1, y2, y3, y4, y5, y6⟩, g0, g1, gf0, gf1⟩ := oS.cells
    have HOS := veil oS
    have HC0 := veil c0
    have HRW := veil hrow
    have HLN := veil hlen
    have lt1 := oS.a.lt
    have lt2 := oS.e.lt
    clear oS c0 hrow hx hxB hpre hlen
    by_cases h2k : pre.length = 2000
    · have e1 : (((pre.length : Nat) : Int) == 2000) = true := by rw [h2k]; rfl
      have HBG : Hid (¬ full.length ≤ 2000) := by
        have := unveil HPL
        rw [List.length_append] at this
        simp only [List.length_cons, List.length_nil] at this
        show ¬ full.length ≤ 2000
        omega
      clear h2k
      gi_wp2
      have hf := (unveil HOS).fin (.slice none 0 0) (.int .i64 101)
      refine ⟨((KeepsOthers.setCell _ _ _).from _).trans ((KeepsOthers.setCell _ _ _).from _), (Kp0.set (unveil HOS).a (.inl rfl) (by omega) _).trans (Kp0.set ((unveil HOS).e.other _ _ (by omega)) (.inr rfl) (by omega) _), rfl, hf.1, hf.2.1, hf.2.2, unveil HBG⟩
    · have e1 : (((pre.length : Nat) : Int) == 2000) = false := by simp; omega
      have hle2 : pre.length + 1 ≤ 2000 := by have := unveil HLN; omega
      clear h2k
      have hrowa : (W3.alloc (.cells (spC ⟨m1, m2, m3, m4⟩).toArray 42)).ownsRow w.heap.size 42 3 (.slice q pre.length cp) pre.length (spCs pre) := (unveil HRW).alloc _
      obtain ⟨i0, hi, hz0, hz1, hz2'⟩ := info_parts infoSp
      gi_wp2_with (gi_at_builtin; refine wpListIn_append_own _ rfl _ _ 30 rfl w.heap.size 42 i0 _ 3 24 Try.underlying30 hi hz0 hz1 hz2' rfl (by decide) _ _ _ rfl hrowa ⟨W3.heap.size, 0, none⟩ 1 1 (spC ⟨m1, m2, m3, m4⟩) rfl rfl (sp_cells W3 ⟨m1, m2, m3, m4⟩ 42) ?c2 ?c3 ?c4 ?c5 ?_)
      case c2 => intro u hu; simp [spC] at hu; rcases hu with rfl | rfl | rfl <;> rfl
      case c3 => unfold maxLen; omega
      case c4 => omega
      case c5 => simp; omega
      intro v' W5 hown' hgrow _
      obtain ⟨g', cap', rfl⟩ := ownsRow_succS hown'
      have p0 : Bk W5 W1.heap.size 30 #[.slice q pre.length cp] := ((unveil HC0).alloc _).rowG hrowa hgrow (by decide)
      have pS : LeS w W5 t := by
        have h5 := (unveil HOS).call ((Below.refl _ W3).alloc (Nat.le_refl _) (.cells (spC ⟨m1, m2, m3, m4⟩).toArray 42))
        exact ⟨Bk.rowG h5.t hrowa hgrow (by decide), h5.a.rowG hrowa hgrow (by decide), h5.e.rowG hrowa hgrow (by decide), h5.be.grown hgrow (by simp; omega) (fun r e => (row_turnS hrowa r e).1)⟩
      have pkf : KeepsFrom W2.heap.size W3 W5 := ((KeepsOthers.alloc W3 _).from _).trans (KeepsFrom.rowS hrowa hgrow)
      have pk : Kp0 w.heap.size W3 W5 := (Kp0.below ((Below.refl _ W3).alloc (Nat.le_refl _) _) hzW).trans (Kp0.rowG hrowa hgrow (Nat.le_refl _) (by simp; omega))
      have p0c := p0.cell 0
      simp only [List.getElem?_toArray, List.getElem?_cons_zero] at p0c
      have p0f := p0.frozen 0
      clear hi hz0 hz1 hz2' k0 x0 x1 x2
      gi_wp2
      refine ⟨pkf.trans ((KeepsOthers.setCell _ _ _).from _), pk.trans (Kp0.set p0 (.inl rfl) (by omega) _), ⟨_, p0.set 0 _, ?_⟩, ⟨Bk.other pS.t _ _ (by omega), pS.a.other _ _ (by omega), pS.e.other _ _ (by omega), pS.be.setCell (p := ⟨W1.heap.size, 0, none⟩) (by show w.heap.size ≤ W1.heap.size; omega) _⟩, by rw [List.length_append]; exact hle2⟩
      have := ownsRow_setS (i := 0) hown' p0 (by decide) (.slice (some ⟨g', 0, none⟩) (pre.length + 1) cap')
      rw [spCs_snoc, List.length_append]
      exact this
  case done =>
    rintro D' W' hD' ⟨⟨v, c0, hrow⟩, cS, hlen⟩ hK
    obtain ⟨q, cp, rfl⟩ := row_slice hrow
    have d0 := c0.cell 0
    simp only [List.getElem?_toArray, List.getElem?_cons_zero] at d0
    obtain ⟨⟨y0, y1, y2, y3, y4, y5, y6⟩, g0, g1, gf0, gf1⟩ := cS.cells
    have HR := veil hrow
    have HCS := veil cS
    have HKK := veil hK
    obtain ⟨hl1, hl2⟩ : RL = full ∧ RE = 0 := ⟨by rw [← unveil HRL, if_pos hlen], by rw [← unveil HRE, if_pos hlen]⟩
    have lt1 := cS.a.lt
    have lt2 := cS.e.lt
    have HLL := veil hl1
    have HLE := veil hl2
    clear c0 hrow cS hK hlen hl1 hl2 HRL HRE
    go_wp2_with fail
    have hDn1 : D' ≠ w.heap.size + 1 := by omega
    have hDn2 : D' ≠ w.heap.size + 1 + 1 := by omega
    have hKs : ((W'.setCell ⟨w.heap.size + 1, 0, none⟩ (.slice q full.length cp)).setCell ⟨w.heap.size + 1 + 1, 0, none⟩ (.int .i64 0)).heap[D']? = some (.deferred (some [])) := (Below.heap_setCell _ _ _ _ hDn2).trans ((Below.heap_setCell _ _ _ _ hDn1).trans (unveil HKK))
    refine ⟨by simp, .inl ⟨_, _, rfl, run_takeDeferred hKs, ?_⟩⟩
    have hf := (unveil HCS).fin (.slice q full.length cp) (.int .i64 0)
    refine ⟨_, res_ss (f := Try.f24) rfl rfl rfl (hf.1.turn (grownBy_putObj' _ D' _) (fun r e => by cases e; omega)) (hf.2.1.turn (grownBy_putObj' _ D' _) (fun r e => by cases e; omega)), .slice q full.length cp, by rw [unveil HLE], ?_, hf.2.2.grown (grownBy_putObj' _ D' _) hf.2.2.size (fun r e => by cases e; omega)⟩
    rw [unveil HLL]
    exact ownsRow_turnS (ownsRow_setS (ownsRow_setS (unveil HR) (unveil HCS).a (by decide) _) ((unveil HCS).e.other _ _ (by omega)) (by decide) _) (grownBy_putObj' _ D' _) (fun r e cur hc => by cases e; rw [hKs] at hc; cases hc)
  case stop =>
    rintro D' c pre W' hD' _ ⟨rfl, ha, he, hb, hg⟩ hK
    obtain ⟨hl1, hl2⟩ : RL = [] ∧ RE = 101 := ⟨by rw [← unveil HRL, if_neg hg], by rw [← unveil HRE, if_neg hg]⟩
    subst hl1 hl2
    have HKK := veil hK
    clear hK
    gi_wp2
    refine ⟨by simp, .inl ⟨_, _, rfl, run_takeDeferred (unveil HKK), ?_⟩⟩
    exact ⟨_, res_ss (f := Try.f24) rfl rfl rfl (ha.turn (grownBy_putObj' _ D' _) (fun r e => by cases e; omega)) (he.turn (grownBy_putObj' _ D' _) (fun r e => by cases e; omega)), _, rfl, World.ownsRow_nil _ _ _ _, hb.grown (grownBy_putObj' _ D' _) hb.size (fun r e => by cases e; omega)⟩
set_option maxRecDepth 100000 in
set_option maxHeartbeats 8000000 in
theorem Leaves_any (t : ShT) (w : World) (hin : t.In w.heap.size w) :
    Calls Try.prog 24 #[t.v] w fun e w' => MbP w (leaL t).1 (leaL t).2 e w' := by
  have HC : Hid (∀ W, LeS w W t → Calls Try.prog 20 #[t.v] W fun r w' => r = .returned (.int .i64 (chkM t).2) ∧ Below W.heap.size W w') := fun W h => Right_any t W ((hin.below h.be).mono h.be.size)
  unfold leaL
  cases hc : (chkM t).2 == 0
  · simp only [Bool.false_eq_true, if_false]
    have hc' : ((chkM t).2 != 0) = true := by simp only [bne, hc]; rfl
    have HS0 := veil (LeS.new w t)
    clear hin
    generalize (chkM t).2 = C at *
    unfold ShT.v ShT.cs at *
    refine (callsIn_wide (n := 4)).1 ?_
    refine callsIn_of_wp_marks Try.func24 rfl trivial ?_ rfl
    simp only [Try.ntmps24, List.size_toArray, List.length_cons, List.length_nil, Nat.reduceAdd, Nat.reduceSub, Array.replicate_succ, Array.replicate_zero, List.push_toArray, List.append_toArray, List.nil_append, List.cons_append]
    refine wpIn_wide.2 ?_
    go_upto_region 1 with fail
    generalize (((w.alloc (.cells _ 25)).alloc (.cells #[.slice none 0 0] 30)).alloc (.cells #[.int .i64 0] 27)) = W0 at HS0 ⊢
    obtain ⟨⟨y0, y1, y2, y3, y4, y5, y6⟩, g0, g1, gf0, gf1⟩ := (unveil HS0).cells
    go_wp2_with (go_at_call 20; refine (unveil HC _ (unveil HS0)).mono ?_; rintro e W1 ⟨rfl, hb1⟩; have HS1 := veil ((unveil HS0).call hb1); clear hb1; obtain ⟨⟨z0, z1, z2, z3, z4, z5, z6⟩, k0, k1, kf0, kf1⟩ := (unveil HS1).cells; have lt1 := (unveil HS1).a.lt; have lt2 := (unveil HS1).e.lt)
    have hf := (unveil HS1).fin (.slice none 0 0) (.int .i64 C)
    exact ⟨_, res_ss (f := Try.f24) rfl rfl rfl hf.1 hf.2.1, _, rfl, World.ownsRow_nil _ _ _ _, hf.2.2⟩
  · have h0 : (chkM t).2 = 0 := by simpa using hc
    rw [h0] at HC
    have := Leaves_main t w hin (chk_ok hc) (chk_small hc) HC
    simp only [if_true]
    split
    · rename_i h
      rw [if_pos h, if_pos h] at this
      exact this
    · rename_i h
      rw [if_neg h, if_neg h] at this
      exact this
end Go.Proofs.Ytkiebejidpebdaa
