/-
  Walking the still operations of a region one by one, with the goal kept as an open continuation.
  A law of the walk: a range over an iterator that keeps state of its own in cells and holds a range over another iterator: what the caller owes is an invariant and one walk of its body.
  A law of the walk: a range over an iterator that keeps state of its own in cells, whose loop variable is laid in a block of its own each round.
  A law of the walk: a range over an iterator that keeps state of its own in cells, whose loop variables are laid in blocks of their own each round.
  A law of the walk: a region that draws its order, whose operations but the last ones only read, is walked in the order of its text, also in a round.
  Steps of a region that draws its order, loads first: for a walk without a fence.
  A region that draws its order, loads and calls mixed: what yields in every world that meets S is taken first, wherever it stands; calls come one behind the other, S behind each.
-/
import Derived.Still
import Derived.RangeFuncNested
import Derived.StillTail
import Derived.StillTactics
import Derived.TacticsIn
import Derived.OrdersIn
import Derived.ControlIn
import Derived.WalkMore
import Derived.OrdersHeld
import Derived.OwnWalkIn
import Derived.Deep.RegionHeld3
namespace Go.Proofs.YtmpkgjonbjpohaaGreatDoor
open Go
variable {P : Program} {ops : Array Oper} {w : World}
theorem still_first {Q : Act → Prop} {l : List Oper} {a : Act} (h : ∀ K : Act → Prop, (∀ a, wpStill P ops w Q l a → K a) → K a) : wpStill P ops w Q l a := h _ (fun _ h => h)
theorem still_next {Q : Act → Prop} {a : Act} {o : Oper} {rest : List Oper} {K : Act → Prop} (hK : ∀ a, wpStill P ops w Q (o :: rest) a → K a)
    (h : ∀ K' : Act → Prop, (∀ a, wpStill P ops w Q rest a → K' a) → if Region.wanted o (yielded ops a.tmps) then o.still P a w K' else K' (a.put o.dst undef)) : K a := hK a (wpStill_step h)
theorem still_last {Q : Act → Prop} {a : Act} {K : Act → Prop} (hK : ∀ a, wpStill P ops w Q [] a → K a) (h : Q a) : K a := hK a (wpStill_nil h)
end Go.Proofs.YtmpkgjonbjpohaaGreatDoor
namespace Go.Proofs.YtmpkgjonbjpohaaGreatDoor
open Go Go.RowKit

/-- From block B on, what is no cells lies as it lay, and so do the k blocks at B. -/
structure KeepsO (B k : Nat) (W W' : World) : Prop where
  size : W.heap.size ≤ W'.heap.size
  same : ∀ (j : Nat) (o : Obj), B ≤ j → W.heap[j]? = some o → (o.isCells = false ∨ j < B + k) → W'.heap[j]? = some o

theorem KeepsO.refl (B k : Nat) (W : World) : KeepsO B k W W := ⟨Nat.le_refl _, fun _ _ _ h _ => h⟩
theorem KeepsO.trans {B k : Nat} {X Y Z : World} (h : KeepsO B k X Y) (g : KeepsO B k Y Z) : KeepsO B k X Z :=
  ⟨Nat.le_trans h.size g.size, fun j o hB hj ho => g.same j o hB (h.same j o hB hj ho) ho⟩
theorem KeepsO.grown {B k : Nat} {W W' : World} {row : Option Nat} (hg : W.grownBy W' row)
    (hr : ∀ r, row = some r → r < B ∨ (B + k ≤ r ∧ ∃ o : Obj, W.heap[r]? = some o ∧ o.isCells = true)) : KeepsO B k W W' :=
  ⟨hg.size, fun j o hB hj ho => (hg.block j (Array.getElem?_eq_some_iff.1 hj).1 (fun e => by
    rcases hr j e.symm with h | ⟨h, o', ho', hc⟩
    · omega
    · rw [hj] at ho'; cases ho'
      rcases ho with ho | ho
      · rw [hc] at ho; cases ho
      · omega)).trans hj⟩
theorem KeepsO.setCell {B k : Nat} {W : World} {b : Nat} {v : Value} (h : b < B ∨ B + k ≤ b) : KeepsO B k W (W.setCell ⟨b, 0, none⟩ v) :=
  ⟨(KeepsWalks.setCell W _ v).size, fun j o hB hj ho => by
    rcases ho with ho | ho
    · exact (KeepsOthers.setCell W ⟨b, 0, none⟩ v).same j o hj ho
    · exact (Below.heap_setCell W ⟨b, 0, none⟩ v j (fun e => by simp at e; omega)).trans hj⟩
theorem KeepsO.alloc {B k : Nat} (W : World) (o : Obj) : KeepsO B k W (W.alloc o) := KeepsO.grown (World.grownBy_alloc W o none) (fun r e => by cases e)
theorem KeepsO.drew {B k : Nat} (W : World) : KeepsO B k W W.drew := ⟨Nat.le_refl _, fun _ _ _ h _ => h⟩
theorem KeepsO.from {B k : Nat} {W W' : World} (h : KeepsO B k W W') {B' : Nat} (hB : B ≤ B') : KeepsFrom B' W W' :=
  ⟨h.size, fun j o hj h0 ho => h.same j o (Nat.le_trans hB hj) h0 (.inl ho)⟩
theorem KeepsO.mono {B k B' k' : Nat} {W W' : World} (h : KeepsO B k W W') (hB : B ≤ B') (hk : B' + k' ≤ B + k) : KeepsO B' k' W W' :=
  ⟨h.size, fun j o hj h0 ho => h.same j o (Nat.le_trans hB hj) h0 (ho.imp id (fun h => by omega))⟩

theorem KeepsO.zero {B k B' : Nat} {W W' : World} (h : KeepsO B k W W') (hB : B ≤ B') : KeepsO B' 0 W W' :=
  ⟨h.size, fun j o hj h0 ho => h.same j o (Nat.le_trans hB hj) h0 (ho.imp id (fun h => by omega))⟩
theorem KeepsO.block {B k j : Nat} {W W' : World} (h : KeepsO B k W W') (h1 : B ≤ j) (h2 : j < B + k) (h3 : j < W.heap.size) : W'.heap[j]? = W.heap[j]? := by
  rw [Array.getElem?_eq_getElem h3]
  exact h.same j _ h1 (Array.getElem?_eq_getElem h3) (.inr h2)

/-- What abides draws, new blocks, turns of what is no cells from B on, and turns of the k blocks at C. -/
structure AbidesO {β : Type} (B C k : Nat) (J : β → World → Prop) : Prop where
  turn : ∀ s W W' row, J s W → W.grownBy W' row → (∀ r, row = some r → B ≤ r ∧ ((C ≤ r ∧ r < C + k) ∨ ∃ o : Obj, W.heap[r]? = some o ∧ o.isCells = false)) → J s W'
  drew : ∀ s W, J s W → J s W.drew

theorem AbidesO.alloc {β : Type} {B C k : Nat} {J : β → World → Prop} (h : AbidesO B C k J) {s : β} {W : World} (o : Obj) (hs : J s W) : J s (W.alloc o) :=
  h.turn s W _ none hs (World.grownBy_alloc W o none) (fun r e => by cases e)
theorem AbidesO.putObj {β : Type} {B C k : Nat} {J : β → World → Prop} (h : AbidesO B C k J) {s : β} {W : World} {l : Nat} {o : Obj} (o' : Obj) (hs : J s W) (hB : B ≤ l) (hl : W.heap[l]? = some o) (ho : o.isCells = false) : J s (W.putObj l o') :=
  h.turn s W _ (some l) hs (grownBy_putObj' W l o') (fun r e => by cases e; exact ⟨hB, .inr ⟨o, hl, ho⟩⟩)
theorem AbidesO.setCell {β : Type} {B C k : Nat} {J : β → World → Prop} (h : AbidesO B C k J) {s : β} {W : World} {b : Nat} (v : Value) (hs : J s W) (hB : B ≤ b) (hC : C ≤ b) (hk : b < C + k) : J s (W.setCell ⟨b, 0, none⟩ v) :=
  h.turn s W _ (some b) hs (grownBy_setCell' W b v) (fun r e => by cases e; exact ⟨hB, .inl ⟨hC, hk⟩⟩)
theorem AbidesO.ownFrom {β : Type} {B C k B' : Nat} {J : β → World → Prop} (h : AbidesO B C k J) (hB : B ≤ B') : OwnFrom B' J :=
  fun s W W' row hs hg hr => h.turn s W W' row hs hg (fun r e => ⟨Nat.le_trans hB (hr r e).1, .inr (hr r e).2⟩)
theorem AbidesO.and {β : Type} {B C k : Nat} {J J' : β → World → Prop} (h : AbidesO B C k J) (h' : AbidesO B C k J') : AbidesO B C k (fun s W => J s W ∧ J' s W) :=
  ⟨fun s W W' row hs hg hr => ⟨h.turn s W W' row hs.1 hg hr, h'.turn s W W' row hs.2 hg hr⟩, fun s W hs => ⟨h.drew s W hs.1, h'.drew s W hs.2⟩⟩

/-- None of the k blocks at B is a row of e's. -/
def noRow (e : TypeId) (B k : Nat) (W : World) : Prop := ∀ (j : Nat) (c : Array Value) (fz : Nat × Nat), B ≤ j → j < B + k → W.heap[j]? ≠ some (.cells c e fz)
theorem noRow.putObj {e : TypeId} {B k l : Nat} {W : World} (h : noRow e B k W) (hl : l < B) (o : Obj) : noRow e B k (W.putObj l o) :=
  fun j c fz h1 h2 h3 => h j c fz h1 h2 ((World.putObj_heap_other (by omega)).symm.trans h3)

theorem noRow.setCell {e : TypeId} {B k b : Nat} {W : World} (h : noRow e B k W) (hb : b < B) (v : Value) : noRow e B k (W.setCell ⟨b, 0, none⟩ v) :=
  fun j c fz h1 h2 h3 => h j c fz h1 h2 ((Below.heap_setCell _ _ _ _ (fun e => by simp at e; omega)).symm.trans h3)

/-- The contract of an iterator that tells the elements of 'full', one by one, and lays k blocks of cells of its own at once when it begins. -/
def SeqStopsO {α : Type} (F : Fence) (n k : Nat) (P : Program) (g : Nat) (lb : Array Value) (encs : α → Array Value) (Kp : World → World → Prop) (full : List α) (w : World) : Prop :=
  ∀ (l : Nat) (J Jx : List α → World → Prop) (W : World), Below w.heap.size w W → AbidesO W.heap.size W.heap.size k J → AbidesO W.heap.size W.heap.size k Jx →
    (∀ pre x W1, J pre W1 → W.heap.size + k ≤ W1.heap.size → noRow 5 W.heap.size k W1 → pre ++ [x] <+: full → YieldAt F (n - 1) P l (encs x) W1 fun e W' =>
      (e = .returned (.bool true) ∧ J (pre ++ [x]) W' ∧ KeepsO W.heap.size k W1 W' ∧ Kp W1 W') ∨ (e = .returned (.bool false) ∧ Jx (pre ++ [x]) W' ∧ KeepsO W.heap.size k W1 W')) →
    J [] W →
    CallsIn F n P g (#[.func (.yield l) #[] #[]] ++ lb) W fun e W' => (∃ v, e = .returned v) ∧ (J full W' ∨ (∃ pre, pre <+: full ∧ Jx pre W'))

/-- How the body of a round may be left. -/
def postO {α : Type} (B k : Nat) (Kp : World → World → Prop) (I : List α → World → Prop) (Ix : Code → List α → World → Prop) (xs : List α) (W : World) : Exit → Act → World → Prop
  | .normal, _, W' => KeepsFrom B W W' ∧ KeepsO (B + 2) k W W' ∧ Kp W W' ∧ I xs W'
  | .ret, _, W' => KeepsFrom B W W' ∧ KeepsO (B + 2) k W W' ∧ Ix .ret xs W'
  | .exit id, _, W' => KeepsFrom B W W' ∧ KeepsO (B + 2) k W W' ∧ Ix (.exit id) xs W'
  | .goto t, _, W' => KeepsFrom B W W' ∧ KeepsO (B + 2) k W W' ∧ Ix (.goto t) xs W'
  | .panic _, _, _ => False
  | .outgrown, _, _ => False

variable {F : Fence} {n : Nat} {P : Program}

theorem wpIn_rangeFunc_ownO {α : Type} {g : Operand} {ps : Array Tmp} {assign body : Code} {Q : Exit → Act → World → Prop} {a : Act} {w : World} {k : Nat}
    (hro : F.round = none) (h1 : 1 ≤ n) {gf : Nat} {lb : Array Value} (hg : a.eval g = .func (.func gf) #[] lb) (hFg : F.fn gf) (eg : ∀ args w, (callFunc gf args).run P w = .ok (.enter gf args) w)
    {encs : α → Array Value} {Kp : World → World → Prop} {full : List α} {w0 : World} (hseq : SeqStopsO F (n - 1) k P gf lb encs Kp full w0)
    (hKt : ∀ {A B C : World}, Kp A B → Kp B C → Kp A C) (hKb : ∀ (W : World) (l : Nat) (o o' : Obj), w.heap.size ≤ l → W.heap[l]? = some o → o.isCells = false → o.isWalk = false → Kp W (W.putObj l o')) (hb0 : Below w0.heap.size w0 w) (hps : ∀ x, (encs x).size = ps.size)
    (I : List α → World → Prop) (Ix : Code → List α → World → Prop) (hI : AbidesO w.heap.size (w.heap.size + 2) k I) (hIx : ∀ c, AbidesO w.heap.size (w.heap.size + 2) k (Ix c)) (h0 : I [] w) (a₁ : α → Act)
    (hassign : ∀ (l : Nat) (x : α) (W : World) (K : Act → World → Prop), K (a₁ x) W →
      assign.wpIn (F.inRound l) (n - 1 - 1) P (Exit.then K (fun _ _ _ => False)) { tmps := (ps.zip (encs x)).foldl (fun t (p, v) => t.setIfInBounds p v) a.tmps, defers := [] } W)
    (hbody : ∀ (l : Nat) (pre : List α) (x : α) (W : World), w.heap.size + 2 + k ≤ W.heap.size → noRow 5 (w.heap.size + 2) k W → I pre W → pre ++ [x] <+: full → body.wpIn (F.inRound l) (n - 1 - 1) P (postO w.heap.size k Kp I Ix (pre ++ [x]) W) (a₁ x) W)
    (hdone : ∀ (D : Nat) (W : World), w.heap.size ≤ D → I full W → W.heap[D]? = some (.deferred (some [])) → Q .normal { a with defers := { target := .collected D, args := #[] } :: a.defers } W)
    (hstop : ∀ (D : Nat) (c : Code) (pre : List α) (W : World), w.heap.size ≤ D → pre <+: full → Ix c pre W → W.heap[D]? = some (.deferred (some [])) → c.wpIn F n P Q { a with defers := { target := .collected D, args := #[] } :: a.defers } W) :
    (Code.rangeFunc g ps assign body).wpIn F n P Q a w := by
  refine wpIn_rangeFunc ?_
  intro fn hfn
  rw [hro]
  obtain ⟨rec, hrec⟩ : ∃ rec : LoopState → Option Code → Loop, rec = fun st pe => { state := st, pending := pe, fn, tmps := a.tmps, params := ps, assign, body, defers := w.heap.size } := ⟨_, rfl⟩
  obtain ⟨W1, hW1⟩ : ∃ W1, (w.alloc (.deferred (some []))).alloc (.loop (rec .ready none)) = W1 := ⟨_, rfl⟩
  have hsz : W1.heap.size = w.heap.size + 2 := by rw [← hW1]; simp
  have hL1 : W1.heap[w.heap.size + 1]? = some (.loop (rec .ready none)) := by
    rw [← hW1]; have := World.alloc_heap_new (w.alloc (.deferred (some []))) (.loop (rec .ready none)); rwa [World.size_alloc] at this
  have hK1 : W1.heap[w.heap.size]? = some (.deferred (some [])) := by
    rw [← hW1]; exact (Below.heap_alloc _ _ _ (by simp)).trans (World.alloc_heap_new w _)
  have hI1 : I [] W1 := by rw [← hW1]; exact hI.alloc _ (hI.alloc _ h0)
  have hb1 : Below w0.heap.size w0 W1 := by
    rw [← hW1]; exact hb0.trans ((((Below.refl _ w).alloc (Nat.le_refl _) _).alloc (by simp) _).mono hb0.size)
  refine ⟨w.heap.size + 1, [{ target := .collected w.heap.size, args := #[] }], W1, { target := .fn (.func gf) lb, args := #[.func (.yield (w.heap.size + 1)) #[] #[]] }, W1, gf,
    #[.func (.yield (w.heap.size + 1)) #[] #[]] ++ lb, W1, ?_, ?_, ?_, ?_, fun _ => h1, ?_⟩
  · rw [← hW1, hrec]; exact run_enterLoop_outer _ _ _ _ _
  · simp only [resolve, hg]
    simp [go_sem]
  · intro f' hf'; simp [Target.leads] at hf'; subst hf'; exact hFg
  · simp [invoke, go_sem, eg]
  · have hnw : ∀ {A B : World} {row : Option Nat}, (∀ r, row = some r → W1.heap.size ≤ r ∧ ((W1.heap.size ≤ r ∧ r < W1.heap.size + k) ∨ ∃ o : Obj, A.heap[r]? = some o ∧ o.isCells = false)) →
        (∀ r, row = some r → w.heap.size ≤ r ∧ ((w.heap.size + 2 ≤ r ∧ r < w.heap.size + 2 + k) ∨ ∃ o : Obj, A.heap[r]? = some o ∧ o.isCells = false)) :=
      fun {A B row} hr r e => by obtain ⟨hB, ho⟩ := hr r e; rw [hsz] at hB ho; exact ⟨by omega, ho⟩
    have hkp : ∀ {A B : World} {row : Option Nat} {j : Nat} {o : Obj}, A.grownBy B row → (∀ r, row = some r → W1.heap.size ≤ r) → j < w.heap.size + 2 → A.heap[j]? = some o → B.heap[j]? = some o :=
      fun {A B row j o} hg' hr hj ho => (hg'.block j (Array.getElem?_eq_some_iff.1 ho).1 (fun e => by have := hr j e.symm; rw [hsz] at this; omega)).trans ho
    refine (hseq (w.heap.size + 1)
      (fun pre W => I pre W ∧ W.heap[w.heap.size + 1]? = some (.loop (rec .ready none)) ∧ W.heap[w.heap.size]? = some (.deferred (some [])))
      (fun pre W => ∃ c, Ix c pre W ∧ W.heap[w.heap.size + 1]? = some (.loop (rec .done (some c))) ∧ W.heap[w.heap.size]? = some (.deferred (some [])))
      W1 hb1
      ⟨fun s A B row hs hg' hr => ⟨hI.turn s A B row hs.1 hg' (hnw (B := B) hr), hkp hg' (fun r e => (hr r e).1) (by omega) hs.2.1, hkp hg' (fun r e => (hr r e).1) (by omega) hs.2.2⟩,
        fun s A hs => ⟨hI.drew s A hs.1, hs.2⟩⟩
      ⟨fun s A B row hs hg' hr => by
        obtain ⟨c, hc, hl, hk⟩ := hs
        exact ⟨c, (hIx c).turn s A B row hc hg' (hnw (B := B) hr), hkp hg' (fun r e => (hr r e).1) (by omega) hl, hkp hg' (fun r e => (hr r e).1) (by omega) hk⟩,
        fun s A hs => by obtain ⟨c, hc, hr⟩ := hs; exact ⟨c, (hIx c).drew s A hc, hr⟩⟩
      ?_ ⟨hI1, hL1, hK1⟩).mono ?_
    · rintro pre x W ⟨hi, hl, hk⟩ hroom hno hlen
      have hlt : w.heap.size + 1 < W.heap.size := (Array.getElem?_eq_some_iff.1 hl).1
      have hy := run_yield (P := P) (args := encs x) hl (by rw [hrec]; exact hps x)
      rw [hrec] at hy
      refine ⟨fn, _, assign, body, hy, roundIn_of_wpIn hfn (hassign _ x W _ ⟨_, run_beginRound hl (by rw [hrec]), ?_⟩)⟩
      have hl2 : (W.putObj (w.heap.size + 1) (.loop { rec .ready none with state := .busy })).heap[w.heap.size + 1]? = some (.loop { rec .ready none with state := .busy }) := World.putObj_heap_same hlt
      have hk2 : (W.putObj (w.heap.size + 1) (.loop { rec .ready none with state := .busy })).heap[w.heap.size]? = some (.deferred (some [])) := (World.putObj_heap_other (by omega)).trans hk
      have hw2 : Kp W (W.putObj (w.heap.size + 1) (.loop { rec .ready none with state := .busy })) := hKb _ _ _ _ (by omega) hl rfl rfl
      have ho2 : ∀ (X : World) (o : Obj), KeepsO (w.heap.size + 2) k X (X.putObj (w.heap.size + 1) o) := fun X o => KeepsO.grown (grownBy_putObj' X _ o) (fun r e => by cases e; exact .inl (by omega))
      refine wpIn_mono (hbody _ pre x _ (by rw [hsz] at hroom; simpa using hroom) (by rw [hsz] at hno; exact hno.putObj (by omega) _) (hI.putObj _ hi (by omega) hl rfl) hlen) ?_
      have fin : ∀ (jump : Option Code) (W3 : World), KeepsFrom w.heap.size (W.putObj (w.heap.size + 1) (.loop { rec .ready none with state := .busy })) W3 →
          (Instr.endRound (w.heap.size + 1) jump).run P W3 = .ok (.bool jump.isNone) (W3.putObj (w.heap.size + 1) (.loop (rec (if jump.isNone then .ready else .done) jump))) ∧
          W3.heap[w.heap.size + 1]? = some (.loop { rec .ready none with state := .busy }) ∧
          (W3.putObj (w.heap.size + 1) (.loop (rec (if jump.isNone then .ready else .done) jump))).heap[w.heap.size + 1]? = some (.loop (rec (if jump.isNone then .ready else .done) jump)) ∧
          (W3.putObj (w.heap.size + 1) (.loop (rec (if jump.isNone then .ready else .done) jump))).heap[w.heap.size]? = some (.deferred (some [])) := fun jump W3 hk3 => by
        have hl3 := hk3.same _ _ (by omega) hl2 rfl
        have := run_endRound (P := P) jump hl3
        rw [hrec] at this ⊢
        exact ⟨this, by rw [hrec] at hl3; exact hl3, World.putObj_heap_same (Array.getElem?_eq_some_iff.1 hl3).1, (World.putObj_heap_other (by omega)).trans (hk3.same _ _ (Nat.le_refl _) hk2 rfl)⟩
      rw [hsz]
      rintro e a3 W3 hp
      cases e with
      | normal =>
        obtain ⟨hk3, ho3, hkp3, hi3⟩ := hp
        obtain ⟨hr, hl3, hl4, hk4⟩ := fin none W3 hk3
        exact ⟨_, _, hr, .inl ⟨rfl, ⟨hI.putObj _ hi3 (by omega) hl3 rfl, hl4, hk4⟩, ((ho2 W _).trans ho3).trans (ho2 W3 _), hKt (hKt hw2 hkp3) (hKb _ _ _ _ (by omega) hl3 rfl rfl)⟩⟩
      | ret =>
        obtain ⟨hk3, ho3, hi3⟩ := hp
        obtain ⟨hr, hl3, hl4, hk4⟩ := fin (some .ret) W3 hk3
        exact ⟨_, _, hr, .inr ⟨rfl, ⟨.ret, (hIx _).putObj _ hi3 (by omega) hl3 rfl, hl4, hk4⟩, ((ho2 W _).trans ho3).trans (ho2 W3 _)⟩⟩
      | exit id =>
        obtain ⟨hk3, ho3, hi3⟩ := hp
        obtain ⟨hr, hl3, hl4, hk4⟩ := fin (some (.exit id)) W3 hk3
        exact ⟨_, _, hr, .inr ⟨rfl, ⟨.exit id, (hIx _).putObj _ hi3 (by omega) hl3 rfl, hl4, hk4⟩, ((ho2 W _).trans ho3).trans (ho2 W3 _)⟩⟩
      | goto t =>
        obtain ⟨hk3, ho3, hi3⟩ := hp
        obtain ⟨hr, hl3, hl4, hk4⟩ := fin (some (.goto t)) W3 hk3
        exact ⟨_, _, hr, .inr ⟨rfl, ⟨.goto t, (hIx _).putObj _ hi3 (by omega) hl3 rfl, hl4, hk4⟩, ((ho2 W _).trans ho3).trans (ho2 W3 _)⟩⟩
      | panic ch => exact hp.elim
      | outgrown => exact hp.elim
    · rintro e W2 ⟨⟨v, rfl⟩, (⟨hi, hl, hk⟩ | ⟨pre, hSp, c, hi, hl, hk⟩)⟩
      · exact ⟨none, _, by have := run_endLoop (P := P) hl (by rw [hrec]; simp); rw [hrec] at this; exact this, hdone _ _ (Nat.le_refl _) (hI.putObj _ hi (by omega) hl rfl) ((World.putObj_heap_other (by omega)).trans hk)⟩
      · exact ⟨some c, _, by have := run_endLoop (P := P) hl (by rw [hrec]; simp); rw [hrec] at this; exact this, hstop _ c pre _ (Nat.le_refl _) hSp ((hIx c).putObj _ hi (by omega) hl rfl) ((World.putObj_heap_other (by omega)).trans hk)⟩

end Go.Proofs.YtmpkgjonbjpohaaGreatDoor
namespace Go.Proofs.YtmpkgjonbjpohaaGreatDoor
open Go Go.RowKit
variable {F : Fence} {n : Nat} {P : Program}

theorem wpIn_rangeFunc_ownA {α : Type} {g : Operand} {ps : Array Tmp} {assign body : Code} {Q : Exit → Act → World → Prop} {a : Act} {w : World} {k : Nat}
    (hro : F.round = none) (h1 : 1 ≤ n) {gf : Nat} {lb : Array Value} (hg : a.eval g = .func (.func gf) #[] lb) (hFg : F.fn gf) (eg : ∀ args w, (callFunc gf args).run P w = .ok (.enter gf args) w)
    {encs : α → Array Value} {Kp : World → World → Prop} {full : List α} {w0 : World} (hseq : SeqStopsO F (n - 1) k P gf lb encs Kp full w0)
    (hKt : ∀ {A B C : World}, Kp A B → Kp B C → Kp A C) (hKb : ∀ (W : World) (l : Nat) (o o' : Obj), w.heap.size ≤ l → W.heap[l]? = some o → o.isCells = false → o.isWalk = false → Kp W (W.putObj l o')) (hKa : ∀ (W : World) (o : Obj), w.heap.size ≤ W.heap.size → Kp W (W.alloc o)) (hb0 : Below w0.heap.size w0 w) (hps : ∀ x, (encs x).size = ps.size)
    (I : List α → World → Prop) (Ix : Code → List α → World → Prop) (hI : AbidesO w.heap.size (w.heap.size + 2) k I) (hIx : ∀ c, AbidesO w.heap.size (w.heap.size + 2) k (Ix c)) (h0 : I [] w) (oA : α → Obj) (a₁ : α → Nat → Act)
    (hassign : ∀ (l : Nat) (x : α) (W : World) (K : Act → World → Prop), K (a₁ x W.heap.size) (W.alloc (oA x)) →
      assign.wpIn (F.inRound l) (n - 1 - 1) P (Exit.then K (fun _ _ _ => False)) { tmps := (ps.zip (encs x)).foldl (fun t (p, v) => t.setIfInBounds p v) a.tmps, defers := [] } W)
    (hbody : ∀ (l : Nat) (pre : List α) (x : α) (W : World) (A : Nat), w.heap.size + 2 + k ≤ A → W.heap[A]? = some (oA x) → noRow 5 (w.heap.size + 2) k W → I pre W → pre ++ [x] <+: full → body.wpIn (F.inRound l) (n - 1 - 1) P (postO w.heap.size k Kp I Ix (pre ++ [x]) W) (a₁ x A) W)
    (hdone : ∀ (D : Nat) (W : World), w.heap.size ≤ D → I full W → W.heap[D]? = some (.deferred (some [])) → Q .normal { a with defers := { target := .collected D, args := #[] } :: a.defers } W)
    (hstop : ∀ (D : Nat) (c : Code) (pre : List α) (W : World), w.heap.size ≤ D → pre <+: full → Ix c pre W → W.heap[D]? = some (.deferred (some [])) → c.wpIn F n P Q { a with defers := { target := .collected D, args := #[] } :: a.defers } W) :
    (Code.rangeFunc g ps assign body).wpIn F n P Q a w := by
  refine wpIn_rangeFunc ?_
  intro fn hfn
  rw [hro]
  obtain ⟨rec, hrec⟩ : ∃ rec : LoopState → Option Code → Loop, rec = fun st pe => { state := st, pending := pe, fn, tmps := a.tmps, params := ps, assign, body, defers := w.heap.size } := ⟨_, rfl⟩
  obtain ⟨W1, hW1⟩ : ∃ W1, (w.alloc (.deferred (some []))).alloc (.loop (rec .ready none)) = W1 := ⟨_, rfl⟩
  have hsz : W1.heap.size = w.heap.size + 2 := by rw [← hW1]; simp
  have hL1 : W1.heap[w.heap.size + 1]? = some (.loop (rec .ready none)) := by
    rw [← hW1]; have := World.alloc_heap_new (w.alloc (.deferred (some []))) (.loop (rec .ready none)); rwa [World.size_alloc] at this
  have hK1 : W1.heap[w.heap.size]? = some (.deferred (some [])) := by
    rw [← hW1]; exact (Below.heap_alloc _ _ _ (by simp)).trans (World.alloc_heap_new w _)
  have hI1 : I [] W1 := by rw [← hW1]; exact hI.alloc _ (hI.alloc _ h0)
  have hb1 : Below w0.heap.size w0 W1 := by
    rw [← hW1]; exact hb0.trans ((((Below.refl _ w).alloc (Nat.le_refl _) _).alloc (by simp) _).mono hb0.size)
  refine ⟨w.heap.size + 1, [{ target := .collected w.heap.size, args := #[] }], W1, { target := .fn (.func gf) lb, args := #[.func (.yield (w.heap.size + 1)) #[] #[]] }, W1, gf,
    #[.func (.yield (w.heap.size + 1)) #[] #[]] ++ lb, W1, ?_, ?_, ?_, ?_, fun _ => h1, ?_⟩
  · rw [← hW1, hrec]; exact run_enterLoop_outer _ _ _ _ _
  · simp only [resolve, hg]
    simp [go_sem]
  · intro f' hf'; simp [Target.leads] at hf'; subst hf'; exact hFg
  · simp [invoke, go_sem, eg]
  · have hnw : ∀ {A B : World} {row : Option Nat}, (∀ r, row = some r → W1.heap.size ≤ r ∧ ((W1.heap.size ≤ r ∧ r < W1.heap.size + k) ∨ ∃ o : Obj, A.heap[r]? = some o ∧ o.isCells = false)) →
        (∀ r, row = some r → w.heap.size ≤ r ∧ ((w.heap.size + 2 ≤ r ∧ r < w.heap.size + 2 + k) ∨ ∃ o : Obj, A.heap[r]? = some o ∧ o.isCells = false)) :=
      fun {A B row} hr r e => by obtain ⟨hB, ho⟩ := hr r e; rw [hsz] at hB ho; exact ⟨by omega, ho⟩
    have hkp : ∀ {A B : World} {row : Option Nat} {j : Nat} {o : Obj}, A.grownBy B row → (∀ r, row = some r → W1.heap.size ≤ r) → j < w.heap.size + 2 → A.heap[j]? = some o → B.heap[j]? = some o :=
      fun {A B row j o} hg' hr hj ho => (hg'.block j (Array.getElem?_eq_some_iff.1 ho).1 (fun e => by have := hr j e.symm; rw [hsz] at this; omega)).trans ho
    refine (hseq (w.heap.size + 1)
      (fun pre W => I pre W ∧ W.heap[w.heap.size + 1]? = some (.loop (rec .ready none)) ∧ W.heap[w.heap.size]? = some (.deferred (some [])))
      (fun pre W => ∃ c, Ix c pre W ∧ W.heap[w.heap.size + 1]? = some (.loop (rec .done (some c))) ∧ W.heap[w.heap.size]? = some (.deferred (some [])))
      W1 hb1
      ⟨fun s A B row hs hg' hr => ⟨hI.turn s A B row hs.1 hg' (hnw (B := B) hr), hkp hg' (fun r e => (hr r e).1) (by omega) hs.2.1, hkp hg' (fun r e => (hr r e).1) (by omega) hs.2.2⟩,
        fun s A hs => ⟨hI.drew s A hs.1, hs.2⟩⟩
      ⟨fun s A B row hs hg' hr => by
        obtain ⟨c, hc, hl, hk⟩ := hs
        exact ⟨c, (hIx c).turn s A B row hc hg' (hnw (B := B) hr), hkp hg' (fun r e => (hr r e).1) (by omega) hl, hkp hg' (fun r e => (hr r e).1) (by omega) hk⟩,
        fun s A hs => by obtain ⟨c, hc, hr⟩ := hs; exact ⟨c, (hIx c).drew s A hc, hr⟩⟩
      ?_ ⟨hI1, hL1, hK1⟩).mono ?_
    · rintro pre x W ⟨hi, hl, hk⟩ hroom hno hlen
      have hlt : w.heap.size + 1 < W.heap.size := (Array.getElem?_eq_some_iff.1 hl).1
      have hy := run_yield (P := P) (args := encs x) hl (by rw [hrec]; exact hps x)
      rw [hrec] at hy
      have hroom' : w.heap.size + 2 + k ≤ W.heap.size := by rw [hsz] at hroom; exact hroom
      have hno0 : noRow 5 (w.heap.size + 2) k W := by rw [hsz] at hno; exact hno
      have hla : (W.alloc (oA x)).heap[w.heap.size + 1]? = some (.loop (rec .ready none)) := (Below.heap_alloc _ _ _ hlt).trans hl
      have hka : (W.alloc (oA x)).heap[w.heap.size]? = some (.deferred (some [])) := (Below.heap_alloc _ _ _ (by omega)).trans hk
      have hlta : w.heap.size + 1 < (W.alloc (oA x)).heap.size := by simp; omega
      have hia : I pre (W.alloc (oA x)) := hI.alloc _ hi
      have hnoa : noRow 5 (w.heap.size + 2) k (W.alloc (oA x)) := fun j c fz h1 h2 h3 => hno0 j c fz h1 h2 ((Below.heap_alloc _ _ _ (by omega)).symm.trans h3)
      have hA : (W.alloc (oA x)).heap[W.heap.size]? = some (oA x) := World.alloc_heap_new W _
      have hKA : Kp W (W.alloc (oA x)) := hKa _ _ (by omega)
      have hKOA : KeepsO (w.heap.size + 2) k W (W.alloc (oA x)) := KeepsO.alloc W _
      refine ⟨fn, _, assign, body, hy, roundIn_of_wpIn hfn (hassign _ x W _ ⟨_, run_beginRound hla (by rw [hrec]), ?_⟩)⟩
      generalize hAe : W.heap.size = A at *
      generalize W.alloc (oA x) = Wa at *
      have hl2 : (Wa.putObj (w.heap.size + 1) (.loop { rec .ready none with state := .busy })).heap[w.heap.size + 1]? = some (.loop { rec .ready none with state := .busy }) := World.putObj_heap_same hlta
      have hk2 : (Wa.putObj (w.heap.size + 1) (.loop { rec .ready none with state := .busy })).heap[w.heap.size]? = some (.deferred (some [])) := (World.putObj_heap_other (by omega)).trans hka
      have hw2 : Kp W (Wa.putObj (w.heap.size + 1) (.loop { rec .ready none with state := .busy })) := hKt hKA (hKb _ _ _ _ (by omega) hla rfl rfl)
      have ho2 : ∀ (X : World) (o : Obj), KeepsO (w.heap.size + 2) k X (X.putObj (w.heap.size + 1) o) := fun X o => KeepsO.grown (grownBy_putObj' X _ o) (fun r e => by cases e; exact .inl (by omega))
      have ho3' : KeepsO (w.heap.size + 2) k W (Wa.putObj (w.heap.size + 1) (.loop { rec .ready none with state := .busy })) := hKOA.trans (ho2 Wa _)
      refine wpIn_mono (hbody _ pre x _ A hroom' ((World.putObj_heap_other (by omega)).trans hA) (hnoa.putObj (by omega) _) (hI.putObj _ hia (by omega) hla rfl) hlen) ?_
      have fin : ∀ (jump : Option Code) (W3 : World), KeepsFrom w.heap.size (Wa.putObj (w.heap.size + 1) (.loop { rec .ready none with state := .busy })) W3 →
          (Instr.endRound (w.heap.size + 1) jump).run P W3 = .ok (.bool jump.isNone) (W3.putObj (w.heap.size + 1) (.loop (rec (if jump.isNone then .ready else .done) jump))) ∧
          W3.heap[w.heap.size + 1]? = some (.loop { rec .ready none with state := .busy }) ∧
          (W3.putObj (w.heap.size + 1) (.loop (rec (if jump.isNone then .ready else .done) jump))).heap[w.heap.size + 1]? = some (.loop (rec (if jump.isNone then .ready else .done) jump)) ∧
          (W3.putObj (w.heap.size + 1) (.loop (rec (if jump.isNone then .ready else .done) jump))).heap[w.heap.size]? = some (.deferred (some [])) := fun jump W3 hk3 => by
        have hl3 := hk3.same _ _ (by omega) hl2 rfl
        have := run_endRound (P := P) jump hl3
        rw [hrec] at this ⊢
        exact ⟨this, by rw [hrec] at hl3; exact hl3, World.putObj_heap_same (Array.getElem?_eq_some_iff.1 hl3).1, (World.putObj_heap_other (by omega)).trans (hk3.same _ _ (Nat.le_refl _) hk2 rfl)⟩
      rw [hsz]
      rintro e a3 W3 hp
      cases e with
      | normal =>
        obtain ⟨hk3, ho3, hkp3, hi3⟩ := hp
        obtain ⟨hr, hl3, hl4, hk4⟩ := fin none W3 hk3
        exact ⟨_, _, hr, .inl ⟨rfl, ⟨hI.putObj _ hi3 (by omega) hl3 rfl, hl4, hk4⟩, (ho3'.trans ho3).trans (ho2 W3 _), hKt (hKt hw2 hkp3) (hKb _ _ _ _ (by omega) hl3 rfl rfl)⟩⟩
      | ret =>
        obtain ⟨hk3, ho3, hi3⟩ := hp
        obtain ⟨hr, hl3, hl4, hk4⟩ := fin (some .ret) W3 hk3
        exact ⟨_, _, hr, .inr ⟨rfl, ⟨.ret, (hIx _).putObj _ hi3 (by omega) hl3 rfl, hl4, hk4⟩, (ho3'.trans ho3).trans (ho2 W3 _)⟩⟩
      | exit id =>
        obtain ⟨hk3, ho3, hi3⟩ := hp
        obtain ⟨hr, hl3, hl4, hk4⟩ := fin (some (.exit id)) W3 hk3
        exact ⟨_, _, hr, .inr ⟨rfl, ⟨.exit id, (hIx _).putObj _ hi3 (by omega) hl3 rfl, hl4, hk4⟩, (ho3'.trans ho3).trans (ho2 W3 _)⟩⟩
      | goto t =>
        obtain ⟨hk3, ho3, hi3⟩ := hp
        obtain ⟨hr, hl3, hl4, hk4⟩ := fin (some (.goto t)) W3 hk3
        exact ⟨_, _, hr, .inr ⟨rfl, ⟨.goto t, (hIx _).putObj _ hi3 (by omega) hl3 rfl, hl4, hk4⟩, (ho3'.trans ho3).trans (ho2 W3 _)⟩⟩
      | panic ch => exact hp.elim
      | outgrown => exact hp.elim
    · rintro e W2 ⟨⟨v, rfl⟩, (⟨hi, hl, hk⟩ | ⟨pre, hSp, c, hi, hl, hk⟩)⟩
      · exact ⟨none, _, by have := run_endLoop (P := P) hl (by rw [hrec]; simp); rw [hrec] at this; exact this, hdone _ _ (Nat.le_refl _) (hI.putObj _ hi (by omega) hl rfl) ((World.putObj_heap_other (by omega)).trans hk)⟩
      · exact ⟨some c, _, by have := run_endLoop (P := P) hl (by rw [hrec]; simp); rw [hrec] at this; exact this, hstop _ c pre _ (Nat.le_refl _) hSp ((hIx c).putObj _ hi (by omega) hl rfl) ((World.putObj_heap_other (by omega)).trans hk)⟩

end Go.Proofs.YtmpkgjonbjpohaaGreatDoor
namespace Go.Proofs.YtmpkgjonbjpohaaGreatDoor
open Go Go.RowKit
variable {F : Fence} {n : Nat} {P : Program}

def allocs (W : World) : List Obj → World
  | [] => W
  | o :: os => allocs (W.alloc o) os
theorem allocs_size : ∀ (os : List Obj) (W : World), (allocs W os).heap.size = W.heap.size + os.length
  | [], _ => rfl
  | o :: os, W => by rw [allocs, allocs_size os, World.size_alloc, List.length_cons]; omega
theorem allocs_old : ∀ (os : List Obj) (W : World) (j : Nat), j < W.heap.size → (allocs W os).heap[j]? = W.heap[j]?
  | [], _, _, _ => rfl
  | o :: os, W, j, h => by rw [allocs, allocs_old os _ j (by simp; omega)]; exact Below.heap_alloc _ _ _ h
theorem allocs_new : ∀ (os : List Obj) (W : World) (i : Nat) (o : Obj), os[i]? = some o → (allocs W os).heap[W.heap.size + i]? = some o
  | [], _, _, _, h => by simp at h
  | o :: os, W, 0, o', h => by
    simp at h; subst h
    rw [allocs, Nat.add_zero, allocs_old os _ _ (by simp)]
    exact World.alloc_heap_new W o
  | o :: os, W, i + 1, o', h => by
    have := allocs_new os (W.alloc o) i o' (by simpa using h)
    rw [World.size_alloc] at this
    rw [allocs, show W.heap.size + (i + 1) = W.heap.size + 1 + i by omega]
    exact this
theorem AbidesO.allocs {β : Type} {B C k : Nat} {J : β → World → Prop} (h : AbidesO B C k J) {s : β} : ∀ (os : List Obj) {W : World}, J s W → J s (allocs W os)
  | [], _, hs => hs
  | o :: os, _, hs => AbidesO.allocs h os (h.alloc o hs)
theorem KeepsO.allocs {B k : Nat} : ∀ (os : List Obj) (W : World), KeepsO B k W (allocs W os)
  | [], W => KeepsO.refl _ _ W
  | o :: os, W => (KeepsO.alloc W o).trans (KeepsO.allocs os _)
theorem Kp_allocs {Kp : World → World → Prop} {N : Nat} (hKr : ∀ W, Kp W W) (hKt : ∀ {A B C : World}, Kp A B → Kp B C → Kp A C) (hKa : ∀ (W : World) (o : Obj), N ≤ W.heap.size → Kp W (W.alloc o)) : ∀ (os : List Obj) (W : World), N ≤ W.heap.size → Kp W (allocs W os)
  | [], W, _ => hKr W
  | o :: os, W, h => hKt (hKa W o h) (Kp_allocs hKr hKt hKa os _ (by simp; omega))

theorem wpIn_rangeFunc_ownL {α : Type} {g : Operand} {ps : Array Tmp} {assign body : Code} {Q : Exit → Act → World → Prop} {a : Act} {w : World} {k : Nat}
    (hro : F.round = none) (h1 : 1 ≤ n) {gf : Nat} {lb : Array Value} (hg : a.eval g = .func (.func gf) #[] lb) (hFg : F.fn gf) (eg : ∀ args w, (callFunc gf args).run P w = .ok (.enter gf args) w)
    {encs : α → Array Value} {Kp : World → World → Prop} {full : List α} {w0 : World} (hseq : SeqStopsO F (n - 1) k P gf lb encs Kp full w0)
    (hKt : ∀ {A B C : World}, Kp A B → Kp B C → Kp A C) (hKb : ∀ (W : World) (l : Nat) (o o' : Obj), w.heap.size ≤ l → W.heap[l]? = some o → o.isCells = false → o.isWalk = false → Kp W (W.putObj l o')) (hKr : ∀ W, Kp W W) (hKa : ∀ (W : World) (o : Obj), w.heap.size ≤ W.heap.size → Kp W (W.alloc o)) (hb0 : Below w0.heap.size w0 w) (hps : ∀ x, (encs x).size = ps.size)
    (I : List α → World → Prop) (Ix : Code → List α → World → Prop) (hI : AbidesO w.heap.size (w.heap.size + 2) k I) (hIx : ∀ c, AbidesO w.heap.size (w.heap.size + 2) k (Ix c)) (h0 : I [] w) (oA : α → List Obj) (a₁ : α → Nat → Act)
    (hassign : ∀ (l : Nat) (x : α) (W : World) (K : Act → World → Prop), K (a₁ x W.heap.size) (allocs W (oA x)) →
      assign.wpIn (F.inRound l) (n - 1 - 1) P (Exit.then K (fun _ _ _ => False)) { tmps := (ps.zip (encs x)).foldl (fun t (p, v) => t.setIfInBounds p v) a.tmps, defers := [] } W)
    (hbody : ∀ (l : Nat) (pre : List α) (x : α) (W : World) (A : Nat), w.heap.size + 2 + k ≤ A → (∀ (i : Nat) (o : Obj), (oA x)[i]? = some o → W.heap[A + i]? = some o) → noRow 5 (w.heap.size + 2) k W → I pre W → pre ++ [x] <+: full → body.wpIn (F.inRound l) (n - 1 - 1) P (postO w.heap.size k Kp I Ix (pre ++ [x]) W) (a₁ x A) W)
    (hdone : ∀ (D : Nat) (W : World), w.heap.size ≤ D → I full W → W.heap[D]? = some (.deferred (some [])) → Q .normal { a with defers := { target := .collected D, args := #[] } :: a.defers } W)
    (hstop : ∀ (D : Nat) (c : Code) (pre : List α) (W : World), w.heap.size ≤ D → pre <+: full → Ix c pre W → W.heap[D]? = some (.deferred (some [])) → c.wpIn F n P Q { a with defers := { target := .collected D, args := #[] } :: a.defers } W) :
    (Code.rangeFunc g ps assign body).wpIn F n P Q a w := by
  refine wpIn_rangeFunc ?_
  intro fn hfn
  rw [hro]
  obtain ⟨rec, hrec⟩ : ∃ rec : LoopState → Option Code → Loop, rec = fun st pe => { state := st, pending := pe, fn, tmps := a.tmps, params := ps, assign, body, defers := w.heap.size } := ⟨_, rfl⟩
  obtain ⟨W1, hW1⟩ : ∃ W1, (w.alloc (.deferred (some []))).alloc (.loop (rec .ready none)) = W1 := ⟨_, rfl⟩
  have hsz : W1.heap.size = w.heap.size + 2 := by rw [← hW1]; simp
  have hL1 : W1.heap[w.heap.size + 1]? = some (.loop (rec .ready none)) := by
    rw [← hW1]; have := World.alloc_heap_new (w.alloc (.deferred (some []))) (.loop (rec .ready none)); rwa [World.size_alloc] at this
  have hK1 : W1.heap[w.heap.size]? = some (.deferred (some [])) := by
    rw [← hW1]; exact (Below.heap_alloc _ _ _ (by simp)).trans (World.alloc_heap_new w _)
  have hI1 : I [] W1 := by rw [← hW1]; exact hI.alloc _ (hI.alloc _ h0)
  have hb1 : Below w0.heap.size w0 W1 := by
    rw [← hW1]; exact hb0.trans ((((Below.refl _ w).alloc (Nat.le_refl _) _).alloc (by simp) _).mono hb0.size)
  refine ⟨w.heap.size + 1, [{ target := .collected w.heap.size, args := #[] }], W1, { target := .fn (.func gf) lb, args := #[.func (.yield (w.heap.size + 1)) #[] #[]] }, W1, gf,
    #[.func (.yield (w.heap.size + 1)) #[] #[]] ++ lb, W1, ?_, ?_, ?_, ?_, fun _ => h1, ?_⟩
  · rw [← hW1, hrec]; exact run_enterLoop_outer _ _ _ _ _
  · simp only [resolve, hg]
    simp [go_sem]
  · intro f' hf'; simp [Target.leads] at hf'; subst hf'; exact hFg
  · simp [invoke, go_sem, eg]
  · have hnw : ∀ {A B : World} {row : Option Nat}, (∀ r, row = some r → W1.heap.size ≤ r ∧ ((W1.heap.size ≤ r ∧ r < W1.heap.size + k) ∨ ∃ o : Obj, A.heap[r]? = some o ∧ o.isCells = false)) →
        (∀ r, row = some r → w.heap.size ≤ r ∧ ((w.heap.size + 2 ≤ r ∧ r < w.heap.size + 2 + k) ∨ ∃ o : Obj, A.heap[r]? = some o ∧ o.isCells = false)) :=
      fun {A B row} hr r e => by obtain ⟨hB, ho⟩ := hr r e; rw [hsz] at hB ho; exact ⟨by omega, ho⟩
    have hkp : ∀ {A B : World} {row : Option Nat} {j : Nat} {o : Obj}, A.grownBy B row → (∀ r, row = some r → W1.heap.size ≤ r) → j < w.heap.size + 2 → A.heap[j]? = some o → B.heap[j]? = some o :=
      fun {A B row j o} hg' hr hj ho => (hg'.block j (Array.getElem?_eq_some_iff.1 ho).1 (fun e => by have := hr j e.symm; rw [hsz] at this; omega)).trans ho
    refine (hseq (w.heap.size + 1)
      (fun pre W => I pre W ∧ W.heap[w.heap.size + 1]? = some (.loop (rec .ready none)) ∧ W.heap[w.heap.size]? = some (.deferred (some [])))
      (fun pre W => ∃ c, Ix c pre W ∧ W.heap[w.heap.size + 1]? = some (.loop (rec .done (some c))) ∧ W.heap[w.heap.size]? = some (.deferred (some [])))
      W1 hb1
      ⟨fun s A B row hs hg' hr => ⟨hI.turn s A B row hs.1 hg' (hnw (B := B) hr), hkp hg' (fun r e => (hr r e).1) (by omega) hs.2.1, hkp hg' (fun r e => (hr r e).1) (by omega) hs.2.2⟩,
        fun s A hs => ⟨hI.drew s A hs.1, hs.2⟩⟩
      ⟨fun s A B row hs hg' hr => by
        obtain ⟨c, hc, hl, hk⟩ := hs
        exact ⟨c, (hIx c).turn s A B row hc hg' (hnw (B := B) hr), hkp hg' (fun r e => (hr r e).1) (by omega) hl, hkp hg' (fun r e => (hr r e).1) (by omega) hk⟩,
        fun s A hs => by obtain ⟨c, hc, hr⟩ := hs; exact ⟨c, (hIx c).drew s A hc, hr⟩⟩
      ?_ ⟨hI1, hL1, hK1⟩).mono ?_
    · rintro pre x W ⟨hi, hl, hk⟩ hroom hno hlen
      have hlt : w.heap.size + 1 < W.heap.size := (Array.getElem?_eq_some_iff.1 hl).1
      have hy := run_yield (P := P) (args := encs x) hl (by rw [hrec]; exact hps x)
      rw [hrec] at hy
      have hroom' : w.heap.size + 2 + k ≤ W.heap.size := by rw [hsz] at hroom; exact hroom
      have hno0 : noRow 5 (w.heap.size + 2) k W := by rw [hsz] at hno; exact hno
      have hla : (allocs W (oA x)).heap[w.heap.size + 1]? = some (.loop (rec .ready none)) := (allocs_old _ _ _ hlt).trans hl
      have hka : (allocs W (oA x)).heap[w.heap.size]? = some (.deferred (some [])) := (allocs_old _ _ _ (by omega)).trans hk
      have hlta : w.heap.size + 1 < (allocs W (oA x)).heap.size := by rw [allocs_size]; omega
      have hia : I pre (allocs W (oA x)) := hI.allocs _ hi
      have hnoa : noRow 5 (w.heap.size + 2) k (allocs W (oA x)) := fun j c fz h1 h2 h3 => hno0 j c fz h1 h2 ((allocs_old _ _ _ (by omega)).symm.trans h3)
      have hA : ∀ (i : Nat) (o : Obj), (oA x)[i]? = some o → (allocs W (oA x)).heap[W.heap.size + i]? = some o := fun i o => allocs_new (oA x) W i o
      have hKA : Kp W (allocs W (oA x)) := Kp_allocs hKr hKt hKa _ _ (by omega)
      have hKOA : KeepsO (w.heap.size + 2) k W (allocs W (oA x)) := KeepsO.allocs _ W
      refine ⟨fn, _, assign, body, hy, roundIn_of_wpIn hfn (hassign _ x W _ ⟨_, run_beginRound hla (by rw [hrec]), ?_⟩)⟩
      generalize hAe : W.heap.size = A at *
      generalize allocs W (oA x) = Wa at *
      have hl2 : (Wa.putObj (w.heap.size + 1) (.loop { rec .ready none with state := .busy })).heap[w.heap.size + 1]? = some (.loop { rec .ready none with state := .busy }) := World.putObj_heap_same hlta
      have hk2 : (Wa.putObj (w.heap.size + 1) (.loop { rec .ready none with state := .busy })).heap[w.heap.size]? = some (.deferred (some [])) := (World.putObj_heap_other (by omega)).trans hka
      have hw2 : Kp W (Wa.putObj (w.heap.size + 1) (.loop { rec .ready none with state := .busy })) := hKt hKA (hKb _ _ _ _ (by omega) hla rfl rfl)
      have ho2 : ∀ (X : World) (o : Obj), KeepsO (w.heap.size + 2) k X (X.putObj (w.heap.size + 1) o) := fun X o => KeepsO.grown (grownBy_putObj' X _ o) (fun r e => by cases e; exact .inl (by omega))
      have ho3' : KeepsO (w.heap.size + 2) k W (Wa.putObj (w.heap.size + 1) (.loop { rec .ready none with state := .busy })) := hKOA.trans (ho2 Wa _)
      refine wpIn_mono (hbody _ pre x _ A hroom' (fun i o ho => (World.putObj_heap_other (by omega)).trans (hA i o ho)) (hnoa.putObj (by omega) _) (hI.putObj _ hia (by omega) hla rfl) hlen) ?_
      have fin : ∀ (jump : Option Code) (W3 : World), KeepsFrom w.heap.size (Wa.putObj (w.heap.size + 1) (.loop { rec .ready none with state := .busy })) W3 →
          (Instr.endRound (w.heap.size + 1) jump).run P W3 = .ok (.bool jump.isNone) (W3.putObj (w.heap.size + 1) (.loop (rec (if jump.isNone then .ready else .done) jump))) ∧
          W3.heap[w.heap.size + 1]? = some (.loop { rec .ready none with state := .busy }) ∧
          (W3.putObj (w.heap.size + 1) (.loop (rec (if jump.isNone then .ready else .done) jump))).heap[w.heap.size + 1]? = some (.loop (rec (if jump.isNone then .ready else .done) jump)) ∧
          (W3.putObj (w.heap.size + 1) (.loop (rec (if jump.isNone then .ready else .done) jump))).heap[w.heap.size]? = some (.deferred (some [])) := fun jump W3 hk3 => by
        have hl3 := hk3.same _ _ (by omega) hl2 rfl
        have := run_endRound (P := P) jump hl3
        rw [hrec] at this ⊢
        exact ⟨this, by rw [hrec] at hl3; exact hl3, World.putObj_heap_same (Array.getElem?_eq_some_iff.1 hl3).1, (World.putObj_heap_other (by omega)).trans (hk3.same _ _ (Nat.le_refl _) hk2 rfl)⟩
      rw [hsz]
      rintro e a3 W3 hp
      cases e with
      | normal =>
        obtain ⟨hk3, ho3, hkp3, hi3⟩ := hp
        obtain ⟨hr, hl3, hl4, hk4⟩ := fin none W3 hk3
        exact ⟨_, _, hr, .inl ⟨rfl, ⟨hI.putObj _ hi3 (by omega) hl3 rfl, hl4, hk4⟩, (ho3'.trans ho3).trans (ho2 W3 _), hKt (hKt hw2 hkp3) (hKb _ _ _ _ (by omega) hl3 rfl rfl)⟩⟩
      | ret =>
        obtain ⟨hk3, ho3, hi3⟩ := hp
        obtain ⟨hr, hl3, hl4, hk4⟩ := fin (some .ret) W3 hk3
        exact ⟨_, _, hr, .inr ⟨rfl, ⟨.ret, (hIx _).putObj _ hi3 (by omega) hl3 rfl, hl4, hk4⟩, (ho3'.trans ho3).trans (ho2 W3 _)⟩⟩
      | exit id =>
        obtain ⟨hk3, ho3, hi3⟩ := hp
        obtain ⟨hr, hl3, hl4, hk4⟩ := fin (some (.exit id)) W3 hk3
        exact ⟨_, _, hr, .inr ⟨rfl, ⟨.exit id, (hIx _).putObj _ hi3 (by omega) hl3 rfl, hl4, hk4⟩, (ho3'.trans ho3).trans (ho2 W3 _)⟩⟩
      | goto t =>
        obtain ⟨hk3, ho3, hi3⟩ := hp
        obtain ⟨hr, hl3, hl4, hk4⟩ := fin (some (.goto t)) W3 hk3
        exact ⟨_, _, hr, .inr ⟨rfl, ⟨.goto t, (hIx _).putObj _ hi3 (by omega) hl3 rfl, hl4, hk4⟩, (ho3'.trans ho3).trans (ho2 W3 _)⟩⟩
      | panic ch => exact hp.elim
      | outgrown => exact hp.elim
    · rintro e W2 ⟨⟨v, rfl⟩, (⟨hi, hl, hk⟩ | ⟨pre, hSp, c, hi, hl, hk⟩)⟩
      · exact ⟨none, _, by have := run_endLoop (P := P) hl (by rw [hrec]; simp); rw [hrec] at this; exact this, hdone _ _ (Nat.le_refl _) (hI.putObj _ hi (by omega) hl rfl) ((World.putObj_heap_other (by omega)).trans hk)⟩
      · exact ⟨some c, _, by have := run_endLoop (P := P) hl (by rw [hrec]; simp); rw [hrec] at this; exact this, hstop _ c pre _ (Nat.le_refl _) hSp ((hIx c).putObj _ hi (by omega) hl rfl) ((World.putObj_heap_other (by omega)).trans hk)⟩

end Go.Proofs.YtmpkgjonbjpohaaGreatDoor
namespace Go.Proofs.YtmpkgjonbjpohaaGreatDoor
open Go

abbrev wideAt (ro : Option Nat) : Fence := { Fence.wide with round := ro }
def noDefer (l : List Oper) : Bool := l.all fun o => match o.op with | .defer _ => false | _ => true
theorem noDefer_at {l : List Oper} (h : noDefer l = true) {i : Nat} {o : Oper} (ho : l.toArray[i]? = some o) : ∀ c, o.op ≠ .defer c := by
  intro c hc
  have hm : o ∈ l := by
    have : l[i]? = some o := by simpa using ho
    exact List.mem_of_getElem? this
  have := List.all_eq_true.1 h o hm
  rw [hc] at this
  cases this

variable {P : Program} {n : Nat} {md : Region.Mode} {w : World} {ro : Option Nat}

theorem wpIn_of_still {o : Oper} {a : Act} {K : Act → Prop} {K' : Act → World → Prop} {Q' : Exit → Act → World → Prop} (hd : ∀ c, o.op ≠ .defer c) (h : ∀ a, K a → K' a w) (hh : o.still P a w K) :
    o.wpIn (wideAt ro) n P a w K' Q' := by
  unfold Oper.still at hh
  refine ⟨fun _ _ => trivial, ?_⟩
  rw [Oper.semAt_eq _ _ _ hd]
  generalize (execOp a.eval o).run P w = r at *
  cases r with
  | ok x w' =>
    cases x <;> simp only [Oper.stillUpon] at hh <;> simp only [Oper.uponIn]
    case enter f args =>
      obtain ⟨rfl, v, hc, hn⟩ := hh
      refine ⟨fun h => (by cases h), ?_⟩
      have hc' : CallsIn Fence.wide (n - 1) P f args w' (fun e w'' => e = .returned v ∧ w'' = w') := callsIn_wide.2 hc
      exact CallsIn.mono (F := wideAt ro) hc' (fun e w'' ⟨he, hw⟩ => by subst he; subst hw; exact h _ hn)
    all_goals (obtain ⟨rfl, h2⟩ := hh; exact h _ h2)
  | halt x w' => simp only [Oper.stillUpon] at hh

theorem wpOpIn_of_stOp {l : List Oper} (hd : noDefer l = true) {i : Nat} {a : Act} {K : Act → Prop} {K' : Act → World → Prop} {Q' : Exit → Act → World → Prop} (h : ∀ a, K a → K' a w) (hh : stOp P l.toArray w i K a) :
    wpOpIn (wideAt ro) n P l.toArray Q' i K' a w := by
  unfold stOp at hh
  unfold wpOpIn
  split
  · rename_i ho; simp only [ho] at hh; exact h _ hh
  · rename_i o ho
    simp only [ho] at hh
    split
    · rename_i hw; simp only [hw, if_true] at hh; exact wpIn_of_still (noDefer_at hd ho) h hh
    · rename_i hw; simp only [hw] at hh; exact ⟨fun _ _ => trivial, h _ hh⟩

theorem wpAnyIn_of_head {l : List Oper} (hd : noDefer l = true) {m g : Nat} {L : Array Bool → Act → Prop} {Q' : Exit → Act → World → Prop} (hL : ∀ listed a, L listed a → wpAnyIn (wideAt ro) n P md l.toArray Q' g listed a w) :
    ∀ (f : Nat) (listed : Array Bool) (a : Act), wpAnyL P md l.toArray w m L f listed a → wpAnyIn (wideAt ro) n P md l.toArray Q' (f + g) listed a w
  | 0, listed, a, h => by rw [Nat.zero_add]; exact hL _ _ h
  | f + 1, listed, a, h => by
    rw [show f + 1 + g = (f + g) + 1 by omega]
    exact ⟨fun h0 => absurd h0 h.1, fun i hi => wpOpIn_of_stOp hd (fun a' h' => wpAnyIn_of_head hd hL f _ a' h') (h.2 i hi).2⟩

theorem wpAnyIn_of_seq {F : Fence} {ops : Array Oper} {Q' : Exit → Act → World → Prop} : ∀ (l : List Oper) (k : Nat) (listed : Array Bool) (a : Act) (w : World), (∀ j, l[j]? = ops[k + j]?) →
    Region.seqB md ops l.length k listed = true → wpListIn F n P ops Q' l a w → wpAnyIn F n P md ops Q' l.length listed a w
  | [], _, _, _, _, _, hB, h => ⟨by simpa [Region.seqB] using hB, h⟩
  | o :: l, k, listed, a, w, hl, hB, h => by
    have h0 : ops[k]? = some o := by simpa using (hl 0).symm
    simp only [List.length_cons, Region.seqB, Bool.and_eq_true, decide_eq_true_eq] at hB
    refine ⟨fun h1 => (by rw [hB.1] at h1; cases h1), fun i hi => ?_⟩
    rw [hB.1] at hi
    have hik : i = k := by simpa using hi
    subst hik
    have hw : wpOpIn F n P ops Q' i (wpListIn F n P ops Q' l) a w := by unfold wpOpIn; simp only [h0]; exact h
    exact wpOpIn_mono (fun a' w' h' => wpAnyIn_of_seq l (i + 1) _ a' w' (fun j => by have := hl (j + 1); simpa [Nat.add_assoc, Nat.add_comm 1 j] using this) hB.2 h') hw

theorem wpIn_region_still_tail {id : Nat} {Q : Exit → Act → World → Prop} {a : Act} {l : List Oper} (m : Nat) (hm : P.follows .mixedOrders = true) (hB : Region.lexTailB .any l.toArray m = true) (hd : noDefer l = true)
    (h : wpStill P l.toArray w.drew (fun a' => wpListIn (wideAt ro) n P l.toArray Q (l.drop m) a' w.drew) (l.take m) a) : (Code.region id l.toArray true).wpIn (wideAt ro) n P Q a w := by
  simp only [Region.lexTailB, Bool.and_eq_true, decide_eq_true_eq] at hB
  obtain ⟨⟨⟨⟨hsel, hn⟩, hs⟩, hc⟩, hlex⟩ := hB
  have hn' : m < l.length := by simpa using hn
  have htl : (l.take m).length = m := by simp; omega
  have hdl : (l.drop m).length = l.toArray.size - m := by simp
  have inv0 : HeadInv .any l.toArray m (Array.replicate l.toArray.size false) :=
    ⟨by simp, fun j oj _ hl => (by rw [getD_replicate_false] at hl; cases hl), fun t _ ht => getD_in (by simpa using ht) (getD_replicate_false _ _)⟩
  have H := wpAnyL_lex (md := .any) (g := l.toArray.size - m) hsel hs hc hn (l.take m) 0 _ a (fun j hj => by
    have hj' : j < m := by rw [htl] at hj; exact hj
    simp [hj']) (by simpa using htl) inv0 (by rw [htl]; exact hlex) h
  refine wpIn_region_any hm ?_
  have := wpAnyIn_of_head (ro := ro) (n := n) hd (Q' := Q) (g := l.toArray.size - m) (fun listed a' hL => by
    have := wpAnyIn_of_seq (md := .any) (F := wideAt ro) (n := n) (P := P) (Q' := Q) (l.drop m) m listed a' w.drew (fun j => by simp [List.getElem?_drop]) (by rw [hdl]; exact hL.1) hL.2
    rwa [hdl] at this) _ _ _ H
  rw [htl, show m + (l.toArray.size - m) = l.toArray.size by omega] at this
  exact this

/-- The last operations of a region, one behind the other. -/
theorem wpAnyIn_seq {F : Fence} {l : List Oper} {Q' : Exit → Act → World → Prop} {listed : Array Bool} {a : Act} (m : Nat) (hB : Region.seqB md l.toArray (l.drop m).length m listed = true) (h : wpListIn F n P l.toArray Q' (l.drop m) a w) :
    wpAnyIn F n P md l.toArray Q' (l.drop m).length listed a w :=
  wpAnyIn_of_seq (l.drop m) m listed a w (fun j => by simp [List.getElem?_drop]) hB h

theorem wp_region_still_plain {id : Nat} {Q : Exit → Act → World → Prop} {a : Act} {l : List Oper} (m : Nat) (hm : P.follows .mixedOrders = true) (hB : Region.lexTailB .any l.toArray m = true)
    (h : wpStill P l.toArray w.drew (fun a' => wpList P l.toArray Q (l.drop m) a' w.drew) (l.take m) a) : (Code.region id l.toArray true).wp P Q a w := wp_region_still_tail m hm hB h
theorem wpIn_region_still_round {lr id : Nat} {Q : Exit → Act → World → Prop} {a : Act} {l : List Oper} (m : Nat) (hm : P.follows .mixedOrders = true) (hB : Region.lexTailB .any l.toArray m = true) (hd : noDefer l = true)
    (h : wpStill P l.toArray w.drew (fun a' => wpListIn (Fence.wide.inRound lr) n P l.toArray Q (l.drop m) a' w.drew) (l.take m) a) : (Code.region id l.toArray true).wpIn (Fence.wide.inRound lr) n P Q a w :=
  wpIn_region_still_tail (ro := some lr) m hm hB hd h
theorem wpIn_region_still_wide {id : Nat} {Q : Exit → Act → World → Prop} {a : Act} {l : List Oper} (m : Nat) (hm : P.follows .mixedOrders = true) (hB : Region.lexTailB .any l.toArray m = true) (hd : noDefer l = true)
    (h : wpStill P l.toArray w.drew (fun a' => wpListIn Fence.wide n P l.toArray Q (l.drop m) a' w.drew) (l.take m) a) : (Code.region id l.toArray true).wpIn Fence.wide n P Q a w :=
  wpIn_region_still_tail (ro := none) m hm hB hd h

/-! A load may be taken first where nobody ahead of it writes its cell: the head of a region; its tail goes one behind the other. -/
section held
variable {S : World → Prop} {l : List Oper} {Q : Exit → Act → World → Prop}

theorem yieldsIf_wpOpIn (hd : noDefer l = true) {i : Nat} {o : Oper} {v : Value} {a : Act} (hi : l.toArray[i]? = some o) (hy : YieldsIf P l.toArray S o v a)
    {K : Act → World → Prop} {w : World} (hS : S w) (h : K (a.put o.dst v) w) : wpOpIn (wideAt ro) n P l.toArray Q i K a w := by
  unfold wpOpIn
  simp only [hi]
  rcases hy with ⟨hw, hv⟩ | ⟨hw, rfl⟩
  · simp only [hw, if_true, Oper.wpIn, Oper.semAt_eq _ _ _ (noDefer_at hd hi), hv w hS, Oper.uponIn]; exact ⟨fun _ _ => trivial, h⟩
  · simp only [hw, Bool.false_eq_true, if_false]; exact ⟨fun _ _ => trivial, h⟩

theorem wpOpIn_putIf (hd : noDefer l = true) {j : Nat} {oi oj : Oper} {v : Value} (hj : l.toArray[j]? = some oj) (hap : oi.apart l.toArray oj = true)
    (hsi : ∀ cs b, oi.op ≠ .select cs b) (hsj : ∀ cs b, oj.op ≠ .select cs b)
    (hQ : ∀ c a w, Q (.panic c) (a.put oi.dst v) w → Q (.panic c) a w) {K : Act → World → Prop} {a : Act} {w : World}
    (hy : YieldsIf P l.toArray S oi v a) (h : wpOpIn (wideAt ro) n P l.toArray Q j K (a.put oi.dst v) w) :
    wpOpIn (wideAt ro) n P l.toArray Q j (fun a' w' => YieldsIf P l.toArray S oi v a' ∧ K (a'.put oi.dst v) w') a w := by
  obtain ⟨h1, h2, h3⟩ := Oper.apart_spec hap
  have keep : ∀ (a : Act), YieldsIf P l.toArray S oi v a → ∀ u, YieldsIf P l.toArray S oi v (a.put oj.dst u) := fun a hy u =>
    hy.of_same (execOp_put oi hsi a oj.dst u h3) (wanted_put oi a oj.dst u h3)
  have keepD : ∀ d, YieldsIf P l.toArray S oi v { a with defers := d :: a.defers } := fun d => hy.of_same rfl rfl
  have hnd := noDefer_at hd hj
  unfold wpOpIn at h ⊢
  simp only [hj] at h ⊢
  rw [wanted_put oj a oi.dst v h1] at h
  split
  · rename_i hw
    simp only [hw, if_true] at h
    refine ⟨fun _ _ => trivial, ?_⟩
    have h := h.2
    rw [Oper.semAt_eq _ _ _ hnd] at h ⊢
    rw [execOp_put oj hsj a oi.dst v h1] at h
    generalize (execOp a.eval oj).run P w = r at *
    cases r with
    | ok x w' =>
      cases x <;> simp only [Oper.uponIn] at h ⊢
      case value u => exact ⟨keep a hy u, by rw [← Act.put_comm a v u h2]; exact h⟩
      case skip => exact ⟨keep a hy _, by rw [← Act.put_comm a v undef h2]; exact h⟩
      case defer d =>
        refine ⟨keep _ (keepD d) _, ?_⟩
        rw [← Act.put_comm _ v undef h2, ← Act.put_defers]
        exact h
      case enter f args =>
        refine ⟨h.1, CallsIn.mono h.2 fun e w'' he => ?_⟩
        cases e with
        | returned u => exact ⟨keep a hy u, by rw [← Act.put_comm a v u h2]; exact he⟩
        | panicked c => exact hQ _ _ _ he
        | outgrown => exact he
      case row row args => exact ⟨h.1, RowsIn.mono h.2 fun u w'' he => ⟨keep a hy u, by rw [← Act.put_comm a v u h2]; exact he⟩⟩
      case round lr f tmps assign body =>
        refine ⟨h.1, RoundIn.mono h.2 fun e w'' he => ?_⟩
        cases e with
        | returned u => exact ⟨keep a hy u, by rw [← Act.put_comm a v u h2]; exact he⟩
        | panicked c => exact hQ _ _ _ he
        | outgrown => exact he
    | halt x w' =>
      cases x <;> simp only [Oper.uponIn] at h ⊢
      case panic u => exact hQ _ _ _ h
  · rename_i hw
    simp only [hw] at h
    exact ⟨fun _ _ => trivial, keep a hy _, by rw [← Act.put_comm a v undef h2]; exact h.2⟩

/-- Whatever order is picked of the first m operations, and S holds behind each; behind them L. -/
def wpAnyLH (ro : Option Nat) (n : Nat) (P : Program) (md : Region.Mode) (ops : Array Oper) (Q : Exit → Act → World → Prop) (S : World → Prop) (m : Nat) (L : Array Bool → Act → World → Prop) : Nat → Array Bool → Act → World → Prop
  | 0, listed, a, w => L listed a w
  | f + 1, listed, a, w => Region.ready md ops listed ≠ [] ∧ ∀ i ∈ Region.ready md ops listed, i < m ∧ wpOpIn (wideAt ro) n P ops Q i (fun a' w' => S w' ∧ wpAnyLH ro n P md ops Q S m L f (listed.setIfInBounds i true) a' w') a w

theorem wpAnyIn_of_LH {m g : Nat} {L : Array Bool → Act → World → Prop} (hL : ∀ listed a w, L listed a w → wpAnyIn (wideAt ro) n P md l.toArray Q g listed a w) :
    ∀ (f : Nat) (listed : Array Bool) (a : Act) (w : World), wpAnyLH ro n P md l.toArray Q S m L f listed a w → wpAnyIn (wideAt ro) n P md l.toArray Q (f + g) listed a w
  | 0, listed, a, w, h => by rw [Nat.zero_add]; exact hL _ _ _ h
  | f + 1, listed, a, w, h => by
    rw [show f + 1 + g = (f + g) + 1 by omega]
    exact ⟨fun h0 => absurd h0 h.1, fun i hi => wpOpIn_mono (fun a' w' h' => wpAnyIn_of_LH hL f _ a' w' h'.2) (h.2 i hi).2⟩

theorem wpAnyLH_first (hd : noDefer l = true) {m i : Nat} {oi : Oper} {v : Value} {L : Array Bool → Act → World → Prop} (hi : l.toArray[i]? = some oi) (hsel : ∀ (j : Nat) (o : Oper) cs b, l.toArray[j]? = some o → o.op ≠ .select cs b)
    (hQ : ∀ c a w, Q (.panic c) (a.put oi.dst v) w → Q (.panic c) a w)
    (hs : Region.sinkB md l.toArray m = true) (hc : Region.chainB md l.toArray m = true) (hn : m < l.toArray.size) (hin : i < m)
    (hdone : ∀ listed a w, L listed a w → ∀ j ∈ Region.ready md l.toArray listed, m ≤ j) :
    ∀ (f : Nat) (listed : Array Bool) (a : Act) (w : World), HeadInv md l.toArray m listed →
      (∀ j oj, l.toArray[j]? = some oj → j ≠ i → listed.getD j true = false → (∀ e ∈ oj.after, Region.binds md e = true → e.on ≠ i) → oi.apart l.toArray oj = true) →
      i ∈ Region.ready md l.toArray listed → YieldsIf P l.toArray S oi v a → S w →
      wpAnyLH ro n P md l.toArray Q S m L f (listed.setIfInBounds i true) (a.put oi.dst v) w → wpAnyLH ro n P md l.toArray Q S m L (f + 1) listed a w := by
  intro f
  induction f with
  | zero =>
    intro listed a w inv _ hr hy hS H
    have hun := (mem_ready.1 hr).1
    refine ⟨fun h => (by rw [h] at hr; cases hr), fun j hj => ?_⟩
    have hjn : j < m := by
      rcases Nat.lt_or_ge j m with h | h
      · exact h
      · exact absurd hj (tail_waits hs hc hn inv _ i rfl hin hun j h)
    refine ⟨hjn, ?_⟩
    by_cases hji : j = i
    · subst hji; exact yieldsIf_wpOpIn hd hi hy hS ⟨hS, H⟩
    · have := hdone _ _ _ H j (ready_mono hj hji)
      omega
  | succ f ih =>
    intro listed a w inv hfree hr hy hS H
    have hun := (mem_ready.1 hr).1
    refine ⟨fun h => (by rw [h] at hr; cases hr), fun j hj => ?_⟩
    have hjn : j < m := by
      rcases Nat.lt_or_ge j m with h | h
      · exact h
      · exact absurd hj (tail_waits hs hc hn inv _ i rfl hin hun j h)
    refine ⟨hjn, ?_⟩
    by_cases hji : j = i
    · subst hji; exact yieldsIf_wpOpIn hd hi hy hS ⟨hS, H⟩
    · have h1 := (H.2 j (ready_mono hj hji)).2
      obtain ⟨hjun, oj, hoj, hall⟩ := mem_ready.1 hj
      have hnot : ∀ e ∈ oj.after, Region.binds md e = true → e.on ≠ i := fun e he hb heq => by
        have h1 := hall e he hb
        rw [heq, getD_both hun] at h1
        cases h1
      have h2 := wpOpIn_putIf hd hoj (hfree j oj hoj hji hjun hnot) (fun cs b => hsel i oi cs b hi) (fun cs b => hsel j oj cs b hoj) hQ hy h1
      have hfree' : ∀ k ok, l.toArray[k]? = some ok → k ≠ i → (listed.setIfInBounds j true).getD k true = false →
          (∀ e ∈ ok.after, Region.binds md e = true → e.on ≠ i) → oi.apart l.toArray ok = true := fun k ok hk hki hun hno => by
        refine hfree k ok hk hki ?_ hno
        by_cases hjk : j = k
        · subst hjk; exact hjun
        · rw [getD_set_ne true hjk] at hun; exact hun
      refine wpOpIn_mono (fun a' w' h3 => ⟨h3.2.1, ih (listed.setIfInBounds j true) a' w' (inv.set hj hjn) hfree' (ready_mono hr (Ne.symm hji)) h3.1 h3.2.1 ?_⟩) h2
      rw [Array.setIfInBounds_comm _ _ hji]
      exact h3.2.2

/-- A walk of the head in the order of the text: first f operations that yield in every world that meets S, then the rest of the head, S behind each, one behind the other. -/
def wpYields (P : Program) (ops : Array Oper) (S : World → Prop) (K : Act → Prop) : List Oper → Act → Prop
  | [], a => K a
  | o :: rest, a => ∃ v, YieldsIf P ops S o v a ∧ wpYields P ops S K rest (a.put o.dst v)
def wpListS (ro : Option Nat) (n : Nat) (P : Program) (ops : Array Oper) (Q : Exit → Act → World → Prop) (S : World → Prop) (K : Act → World → Prop) : List Oper → Act → World → Prop
  | [], a, w => K a w
  | o :: rest, a, w => if Region.wanted o (yielded ops a.tmps) then o.wpIn (wideAt ro) n P a w (fun a' w' => S w' ∧ wpListS ro n P ops Q S K rest a' w') Q
      else (∀ f, o.about P w a.eval = some f → (wideAt ro).fn f) ∧ S w ∧ wpListS ro n P ops Q S K rest (a.put o.dst undef) w

/-- The Bool over a region: y operations that are taken first, then up to number m one behind the other, then the tail. -/
def heldB0 (md : Region.Mode) (ops : Array Oper) (m g : Nat) : Nat → Nat → Array Bool → Bool
  | 0, k, listed => decide (k = m) && Region.seqB md ops g k listed
  | c + 1, k, listed => decide (Region.ready md ops listed = [k]) && decide (k < m) && heldB0 md ops m g c (k + 1) (listed.setIfInBounds k true)
def heldB (md : Region.Mode) (ops : Array Oper) (m g c : Nat) : Nat → Nat → Array Bool → Bool
  | 0, k, listed => heldB0 md ops m g c k listed
  | y + 1, k, listed => (Region.ready md ops listed).contains k && Region.free md ops listed k && decide (k < m) && heldB md ops m g c y (k + 1) (listed.setIfInBounds k true)

theorem held_seq {m g : Nat} {Lq : Act → World → Prop} : ∀ (c k : Nat) (listed : Array Bool) (a : Act) (w : World) (r : List Oper), r.length = c → (∀ j, j < r.length → r[j]? = l.toArray[k + j]?) →
    heldB0 md l.toArray m g c k listed = true → wpListS ro n P l.toArray Q S Lq r a w →
    wpAnyLH ro n P md l.toArray Q S m (fun listed' a' w' => Region.seqB md l.toArray g m listed' = true ∧ Lq a' w') c listed a w
  | 0, k, listed, a, w, r, hr, _, hB, h => by
    have : r = [] := List.length_eq_zero_iff.1 hr
    subst this
    simp only [heldB0, Bool.and_eq_true, decide_eq_true_eq] at hB
    exact ⟨hB.1 ▸ hB.2, h⟩
  | c + 1, k, listed, a, w, [], hr, _, _, _ => by simp at hr
  | c + 1, k, listed, a, w, o :: r, hr, hl, hB, h => by
    simp only [heldB0, Bool.and_eq_true, decide_eq_true_eq] at hB
    obtain ⟨⟨hrd, hkm⟩, hB'⟩ := hB
    have h0 : l.toArray[k]? = some o := by simpa using (hl 0 (by simp)).symm
    have ih : ∀ a' w', wpListS ro n P l.toArray Q S Lq r a' w' → wpAnyLH ro n P md l.toArray Q S m (fun listed' a' w' => Region.seqB md l.toArray g m listed' = true ∧ Lq a' w') c (listed.setIfInBounds k true) a' w' :=
      fun a' w' h' => held_seq c (k + 1) _ a' w' r (by simpa using hr) (fun j hj => by have := hl (j + 1) (by simp; omega); simpa [Nat.add_assoc, Nat.add_comm 1 j] using this) hB' h'
    refine ⟨by rw [hrd]; simp, fun i hi => ?_⟩
    rw [hrd] at hi
    have hik : i = k := by simpa using hi
    subst hik
    refine ⟨hkm, ?_⟩
    unfold wpOpIn
    simp only [h0]
    unfold wpListS at h
    split
    · rename_i hw
      rw [if_pos hw] at h
      exact Oper.wpIn_mono (fun a' w' h' => ⟨h'.1, ih a' w' h'.2⟩) h
    · rename_i hw
      rw [if_neg hw] at h
      exact ⟨h.1, h.2.1, ih _ _ h.2.2⟩

theorem held_lex (hd : noDefer l = true) (hsel : Region.noSelect l.toArray = true) {m g c : Nat} {Lq : Act → World → Prop} (hQ : ∀ ch a a' w, Q (.panic ch) a w → Q (.panic ch) a' w)
    (hs : Region.sinkB md l.toArray m = true) (hc : Region.chainB md l.toArray m = true) (hn : m < l.toArray.size) (r : List Oper) (hrc : r.length = c) :
    ∀ (y k : Nat) (listed : Array Bool) (a : Act) (w : World) (ys : List Oper), ys.length = y → (∀ j, j < ys.length → ys[j]? = l.toArray[k + j]?) → (∀ j, j < r.length → r[j]? = l.toArray[k + y + j]?) → HeadInv md l.toArray m listed →
    heldB md l.toArray m g c y k listed = true → S w → wpYields P l.toArray S (fun a' => wpListS ro n P l.toArray Q S Lq r a' w) ys a →
    wpAnyLH ro n P md l.toArray Q S m (fun listed' a' w' => Region.seqB md l.toArray g m listed' = true ∧ Lq a' w') (y + c) listed a w
  | 0, k, listed, a, w, ys, hy, _, hr, inv, hB, hS, h => by
    have : ys = [] := List.length_eq_zero_iff.1 hy
    subst this
    rw [Nat.zero_add]
    exact held_seq c k listed a w r hrc (by simpa using hr) hB h
  | y + 1, k, listed, a, w, [], hy, _, _, _, _, _, _ => by simp at hy
  | y + 1, k, listed, a, w, o :: ys, hy, hl, hr, inv, hB, hS, h => by
    simp only [heldB, Bool.and_eq_true, decide_eq_true_eq] at hB
    obtain ⟨⟨⟨hrd, hf⟩, hkm⟩, hB'⟩ := hB
    have h0 : l.toArray[k]? = some o := by simpa using (hl 0 (by simp)).symm
    obtain ⟨v, hyv, hK⟩ := h
    have hr' : k ∈ Region.ready md l.toArray listed := by simpa using hrd
    rw [show y + 1 + c = (y + c) + 1 by omega]
    refine wpAnyLH_first hd h0 (Region.noSelect_spec hsel) (fun ch a w h => hQ ch _ _ w h) hs hc hn hkm (fun listed' a' w' hL => seqB_ready hL.1) (y + c) listed a w inv (Region.free_spec h0 hf) hr' hyv hS ?_
    exact held_lex hd hsel hQ hs hc hn r hrc y (k + 1) _ _ w ys (by simpa using hy) (fun j hj => by have := hl (j + 1) (by simp; omega); simpa [Nat.add_assoc, Nat.add_comm 1 j] using this)
      (fun j hj => by have := hr j hj; rw [this]; congr 1; omega) (inv.set hr' hkm) hB' hS hK

/-- THE REGION: y loads first, the rest of the head up to m one behind the other (S behind each), then the tail. -/
theorem wpIn_region_held {id : Nat} {a : Act} {w : World} (S : World → Prop) (y m : Nat) (hm : P.follows .mixedOrders = true) (hd : noDefer l = true) (hsel : Region.noSelect l.toArray = true) (hs : Region.sinkB .any l.toArray m = true) (hc : Region.chainB .any l.toArray m = true)
    (hn : decide (y ≤ m ∧ m < l.length) = true) (hB : heldB .any l.toArray m (l.drop m).length (m - y) y 0 (Array.replicate l.length false) = true) (hQ : ∀ ch a a' w, Q (.panic ch) a w → Q (.panic ch) a' w)
    (hS : S w.drew) (h : wpYields P l.toArray S (fun a' => wpListS ro n P l.toArray Q S (fun a'' w'' => wpListIn (wideAt ro) n P l.toArray Q (l.drop m) a'' w'') ((l.take m).drop y) a' w.drew) (l.take y) a) :
    (Code.region id l.toArray true).wpIn (wideAt ro) n P Q a w := by
  have hn' := of_decide_eq_true hn
  have hn2 : m < l.toArray.size := by simpa using hn'.2
  have inv0 : HeadInv .any l.toArray m (Array.replicate l.length false) :=
    ⟨by simp, fun j oj _ hl => (by rw [getD_replicate_false] at hl; cases hl), fun t _ ht => getD_in (by simpa using ht) (getD_replicate_false _ _)⟩
  refine wpIn_region_any hm ?_
  have H := held_lex (ro := ro) (n := n) (P := P) (md := .any) (S := S) (Q := Q) (Lq := fun a'' w'' => wpListIn (wideAt ro) n P l.toArray Q (l.drop m) a'' w'') hd hsel hQ hs hc hn2 ((l.take m).drop y) (c := m - y) (g := (l.drop m).length)
    (by simp; omega) y 0 (Array.replicate l.length false) a w.drew (l.take y) (by simp; omega)
    (fun j hj => by have hj' : j < y := by simp at hj; omega
                    simp [hj'])
    (fun j hj => by have hj' : y + j < m := by simp at hj; omega
                    simp [hj']) inv0 hB hS h
  have H2 := wpAnyIn_of_LH (g := (l.drop m).length) (fun listed a' w' hL => wpAnyIn_seq m hL.1 hL.2) _ _ _ _ H
  have hsum : y + (m - y) + (l.drop m).length = l.toArray.size := by simp; omega
  rw [hsum] at H2
  have hrep : Array.replicate l.length false = Array.replicate l.toArray.size false := by simp
  rw [hrep] at H2
  exact H2

theorem wpIn_region_held_round {lr id : Nat} {a : Act} {w : World} (S : World → Prop) (y m : Nat) (hm : P.follows .mixedOrders = true) (hd : noDefer l = true) (hsel : Region.noSelect l.toArray = true) (hs : Region.sinkB .any l.toArray m = true) (hc : Region.chainB .any l.toArray m = true)
    (hn : decide (y ≤ m ∧ m < l.length) = true) (hB : heldB .any l.toArray m (l.drop m).length (m - y) y 0 (Array.replicate l.length false) = true) (hQ : ∀ ch a a' w, Q (.panic ch) a w → Q (.panic ch) a' w)
    (hS : S w.drew) (h : wpYields P l.toArray S (fun a' => wpListS (some lr) n P l.toArray Q S (fun a'' w'' => wpListIn (Fence.wide.inRound lr) n P l.toArray Q (l.drop m) a'' w'') ((l.take m).drop y) a' w.drew) (l.take y) a) :
    (Code.region id l.toArray true).wpIn (Fence.wide.inRound lr) n P Q a w := wpIn_region_held (ro := some lr) S y m hm hd hsel hs hc hn hB hQ hS h
theorem wpListS_round {lr : Nat} {K : Act → World → Prop} {ops : Array Oper} {o : Oper} {rest : List Oper} {a : Act} {w : World}
    (h : ∀ K' : Act → World → Prop, (∀ a' w', S w' → wpListS (some lr) n P ops Q S K rest a' w' → K' a' w') →
      if Region.wanted o (yielded ops a.tmps) = true then o.wpIn (Fence.wide.inRound lr) n P a w K' Q else (∀ f, o.about P w a.eval = some f → (Fence.wide.inRound lr).fn f) ∧ K' (a.put o.dst undef) w) :
    wpListS (some lr) n P ops Q S K (o :: rest) a w := by
  have h := h (fun a' w' => S w' ∧ wpListS (some lr) n P ops Q S K rest a' w') (fun _ _ h1 h2 => ⟨h1, h2⟩)
  unfold wpListS
  split
  · rename_i hw; rw [if_pos hw] at h; exact h
  · rename_i hw; rw [if_neg hw] at h; exact h
end held

section
variable {F : Fence} {b : Frame} {a : Act} {k : List Item} {cs : List Frame}
theorem stepR_scope {c : Code} : step P (lone (b.atR a (.code (.scope c) :: k)) cs w) = .next (lone (b.atR a (.code c :: .inScope c :: k)) cs w) :=
  step_lone_go (by simp [stepG, stepG.exec, Frame.atR])
theorem stepR_inScope {c : Code} : step P (lone (b.atR a (.inScope c :: k)) cs w) = .next (lone (b.atR a k) cs w) :=
  step_lone_go (by simp [stepG, stepG.exec, Frame.atR])
/-- A scope through which the run goes without a goto. -/
theorem wpIn_scope_straight {c : Code} {Q : Exit → Act → World → Prop} (h : c.wpIn F n P (Exit.noGoto Q) a w) : (Code.scope c).wpIn F n P Q a w := by
  intro b k cs hro hb hr
  have h0 : (lone (b.atR a (.code (.scope c) :: k)) cs w).fenced P F := fenced_calm hb hr rfl
  obtain ⟨e, a₁, w₁, hq, harr⟩ := h b (.inScope c :: k) cs hro hb hr
  cases e with
  | normal => exact ⟨.normal, a₁, w₁, hq, .head h0 stepR_scope (StepsIn.trans harr (.one (fenced_calm hb hr rfl) stepR_inScope))⟩
  | exit id =>
    have hx : exitTo id (.inScope c :: k) = exitTo id k := by simp [exitTo]
    exact ⟨.exit id, a₁, w₁, hq, fun k' hk => .head h0 stepR_scope (harr.1 k' (by rw [hx]; exact hk)),
      fun hr' hk => let ⟨k₁, h1, h2⟩ := harr.2 hr' (by rw [hx]; exact hk); ⟨k₁, h1, .head h0 stepR_scope h2⟩⟩
  | goto l => exact hq.elim
  | ret => exact ⟨_, a₁, w₁, hq, .of_steps (.one h0 stepR_scope) harr⟩
  | panic ch => exact ⟨_, a₁, w₁, hq, .of_steps (.one h0 stepR_scope) harr⟩
  | outgrown => exact ⟨_, a₁, w₁, hq, .of_steps (.one h0 stepR_scope) harr⟩
end
end Go.Proofs.YtmpkgjonbjpohaaGreatDoor
namespace Go.Proofs.YtmpkgjonbjpohaaGreatDoor
open Go
section
variable {P : Program} {n : Nat} {w : World} {S : World → Prop} {Q : Exit → Act → World → Prop}
theorem yields_nil {ops : Array Oper} {K : Act → Prop} {a : Act} (h : K a) : wpYields P ops S K [] a := h
theorem yields_cons {ops : Array Oper} {K : Act → Prop} {a : Act} {o : Oper} {rest : List Oper} (v : Value) (h : YieldsIf P ops S o v a) (hr : ∀ b, b = a.put o.dst v → wpYields P ops S K rest b) : wpYields P ops S K (o :: rest) a := ⟨v, h, hr _ rfl⟩
theorem wpListS_wide {K : Act → World → Prop} {ops : Array Oper} {o : Oper} {rest : List Oper} {a : Act} {w : World}
    (h : ∀ K' : Act → World → Prop, (∀ a' w', S w' → wpListS none n P ops Q S K rest a' w' → K' a' w') →
      if Region.wanted o (yielded ops a.tmps) = true then o.wpIn Fence.wide n P a w K' Q else (∀ f, o.about P w a.eval = some f → Fence.wide.fn f) ∧ K' (a.put o.dst undef) w) :
    wpListS none n P ops Q S K (o :: rest) a w := by
  have h := h (fun a' w' => S w' ∧ wpListS none n P ops Q S K rest a' w') (fun _ _ h1 h2 => ⟨h1, h2⟩)
  unfold wpListS
  split
  · rename_i hw; rw [if_pos hw] at h; exact h
  · rename_i hw; rw [if_neg hw] at h; exact h
theorem listS_nil {K : Act → World → Prop} {ops : Array Oper} {a : Act} {w : World} (h : K a w) : wpListS none n P ops Q S K [] a w := h
theorem stepIn_append {F : Fence} {ops : Array Oper} {o : Oper} {a : Act} {K : Act → World → Prop} {E : Prop} (hg : o.guard = none) (s x : Operand) (t : TypeId) (hop : o.op = Op.call { callee := Callee.builtin Builtin.append, args := #[s, x], argTypes := #[t, t] })
    (base : Nat) (e : TypeId) (i : TypeInfo) (z : Value) (size bytes : Nat) (h1 : P.underlying t = some (.slice e)) (h2 : P.info? e = some i) (h3 : i.zero = some z) (h4 : i.size = size) (h5 : i.bytes = bytes) (h6 : z.cells.size = size) (h7 : 0 < size)
    (v : Value) (k : Nat) (xs : List Value) (hs : a.eval s = v) (hown : w.ownsRow base e size v k xs) (ad : Addr) (m c : Nat) (news : List Value) (hx : a.eval x = .slice (some ad) m c) (hn : news.length = m * size)
    (hc : ∀ j u, news[j]? = some u → w.cell? (ad.add j) = some u) (h1c : ∀ u ∈ news, u.oneCell' = true) (b1 : k + m ≤ maxLen) (b2 : (k + m) * bytes ≤ 140737488355328) (b3 : base ≤ w.heap.size)
    (hK : ∀ v' w', w'.ownsRow base e size v' (k + m) (xs ++ news) → w.grownBy w' v.ownBlock → K (a.put o.dst v') w') :
    if Region.wanted o (yielded ops a.tmps) = true then o.wpIn F n P a w K Q else E := by
  have hw : Region.wanted o (yielded ops a.tmps) = true := by simp [Region.wanted, hg]
  rw [if_pos hw]
  obtain ⟨v', w', hrun, r1, r2, r3⟩ := run_append_own (P := P) w base t o.type e i z size bytes h1 h2 h3 h4 h5 h6 h7 v k xs hown ad m c news hn hc h1c b1 b2 b3
  unfold Oper.wpIn
  refine ⟨?_, ?_⟩
  · simp [Oper.about, hop, resolve, Target.leads, Sem.run_pure]
  · rw [Oper.semAt_plain F _ _ (by rw [hop]; intro c hc'; cases hc')]
    simp [execOp, hop, resolve, invoke, builtin, hs, hx, hrun, Result.andThen]
    exact hK v' w' r1 r2
theorem listIn_last {ops : Array Oper} {o : Oper} {a : Act} (hg : o.guard = none)
    (h : ∀ K : Act → World → Prop, (∀ a' w', Q .normal a' w' → K a' w') → o.wpIn Fence.wide n P a w K (NoPanic Q)) : wpListIn (wideAt none) n P ops (NoPanic Q) [o] a w :=
  wpListIn_plain hg fun K hK => h K fun a' w' hq => hK a' w' (NoPanic.normal hq)
end
end Go.Proofs.YtmpkgjonbjpohaaGreatDoor
namespace Go.Proofs.YtmpkgjonbjpohaaGreatDoor
open Go
section
variable {P : Program} {ro : Option Nat} {n : Nat} {md : Region.Mode} {S : World → Prop} {l : List Oper} {Q : Exit → Act → World → Prop}

/-- The schedule: an operation's number, and whether it is taken first, or is the only one that may come. -/
def mixB (md : Region.Mode) (ops : Array Oper) (m g : Nat) : List (Nat × Bool) → Array Bool → Bool
  | [], listed => Region.seqB md ops g m listed
  | (k, true) :: r, listed => (Region.ready md ops listed).contains k && Region.free md ops listed k && decide (k < m) && mixB md ops m g r (listed.setIfInBounds k true)
  | (k, false) :: r, listed => decide (Region.ready md ops listed = [k]) && decide (k < m) && mixB md ops m g r (listed.setIfInBounds k true)
def wpMix (ro : Option Nat) (n : Nat) (P : Program) (ops : Array Oper) (Q : Exit → Act → World → Prop) (S : World → Prop) (K : Act → World → Prop) : List (Nat × Bool) → Act → World → Prop
  | [], a, w => K a w
  | (k, true) :: r, a, w => ∃ o, ops[k]? = some o ∧ ∃ v, YieldsIf P ops S o v a ∧ wpMix ro n P ops Q S K r (a.put o.dst v) w
  | (k, false) :: r, a, w => ∃ o, ops[k]? = some o ∧ if Region.wanted o (yielded ops a.tmps) then o.wpIn (wideAt ro) n P a w (fun a' w' => S w' ∧ wpMix ro n P ops Q S K r a' w') Q
      else (∀ f, o.about P w a.eval = some f → (wideAt ro).fn f) ∧ S w ∧ wpMix ro n P ops Q S K r (a.put o.dst undef) w

theorem held_mix (hd : noDefer l = true) (hsel : Region.noSelect l.toArray = true) {m g : Nat} {Lq : Act → World → Prop} (hQ : ∀ ch a a' w, Q (.panic ch) a w → Q (.panic ch) a' w)
    (hs : Region.sinkB md l.toArray m = true) (hc : Region.chainB md l.toArray m = true) (hn : m < l.toArray.size) :
    ∀ (sc : List (Nat × Bool)) (listed : Array Bool) (a : Act) (w : World), HeadInv md l.toArray m listed → mixB md l.toArray m g sc listed = true → S w → wpMix ro n P l.toArray Q S Lq sc a w →
    wpAnyLH ro n P md l.toArray Q S m (fun listed' a' w' => Region.seqB md l.toArray g m listed' = true ∧ Lq a' w') sc.length listed a w
  | [], listed, a, w, inv, hB, hS, h => ⟨hB, h⟩
  | (k, true) :: r, listed, a, w, inv, hB, hS, h => by
    simp only [mixB, Bool.and_eq_true, decide_eq_true_eq] at hB
    obtain ⟨⟨⟨hrd, hf⟩, hkm⟩, hB'⟩ := hB
    obtain ⟨o, h0, v, hyv, hK⟩ := h
    have hr' : k ∈ Region.ready md l.toArray listed := by simpa using hrd
    exact wpAnyLH_first hd h0 (Region.noSelect_spec hsel) (fun ch a w h => hQ ch _ _ w h) hs hc hn hkm (fun listed' a' w' hL => seqB_ready hL.1) r.length listed a w inv (Region.free_spec h0 hf) hr' hyv hS
      (held_mix hd hsel hQ hs hc hn r _ _ w (inv.set hr' hkm) hB' hS hK)
  | (k, false) :: r, listed, a, w, inv, hB, hS, h => by
    simp only [mixB, Bool.and_eq_true, decide_eq_true_eq] at hB
    obtain ⟨⟨hrd, hkm⟩, hB'⟩ := hB
    obtain ⟨o, h0, h⟩ := h
    have hr' : k ∈ Region.ready md l.toArray listed := by rw [hrd]; simp
    refine ⟨by rw [hrd]; simp, fun i hi => ?_⟩
    rw [hrd] at hi
    have hik : i = k := by simpa using hi
    subst hik
    refine ⟨hkm, ?_⟩
    unfold wpOpIn
    simp only [h0]
    split
    · rename_i hw
      rw [if_pos hw] at h
      exact Oper.wpIn_mono (fun a' w' h' => ⟨h'.1, held_mix hd hsel hQ hs hc hn r _ a' w' (inv.set hr' hkm) hB' h'.1 h'.2⟩) h
    · rename_i hw
      rw [if_neg hw] at h
      exact ⟨h.1, h.2.1, held_mix hd hsel hQ hs hc hn r _ _ w (inv.set hr' hkm) hB' h.2.1 h.2.2⟩

theorem wpIn_region_mix {id : Nat} {a : Act} {w : World} (S : World → Prop) (sc : List (Nat × Bool)) (m : Nat) (hm : P.follows .mixedOrders = true) (hd : noDefer l = true) (hsel : Region.noSelect l.toArray = true) (hs : Region.sinkB .any l.toArray m = true) (hc : Region.chainB .any l.toArray m = true)
    (hn : decide (sc.length = m ∧ m < l.length) = true) (hB : mixB .any l.toArray m (l.drop m).length sc (Array.replicate l.length false) = true) (hQ : ∀ ch a a' w, Q (.panic ch) a w → Q (.panic ch) a' w)
    (hS : S w.drew) (h : wpMix ro n P l.toArray Q S (fun a'' w'' => wpListIn (wideAt ro) n P l.toArray Q (l.drop m) a'' w'') sc a w.drew) :
    (Code.region id l.toArray true).wpIn (wideAt ro) n P Q a w := by
  have hn' := of_decide_eq_true hn
  have hn2 : m < l.toArray.size := by simpa using hn'.2
  have inv0 : HeadInv .any l.toArray m (Array.replicate l.length false) :=
    ⟨by simp, fun j oj _ hl => (by rw [getD_replicate_false] at hl; cases hl), fun t _ ht => getD_in (by simpa using ht) (getD_replicate_false _ _)⟩
  refine wpIn_region_any hm ?_
  have H := held_mix (ro := ro) (n := n) (P := P) (md := .any) (S := S) (Q := Q) (Lq := fun a'' w'' => wpListIn (wideAt ro) n P l.toArray Q (l.drop m) a'' w'') hd hsel hQ hs hc hn2 (g := (l.drop m).length) sc _ a w.drew inv0 hB hS h
  have H2 := wpAnyIn_of_LH (g := (l.drop m).length) (fun listed a' w' hL => wpAnyIn_seq m hL.1 hL.2) _ _ _ _ H
  have hsum : sc.length + (l.drop m).length = l.toArray.size := by simp; omega
  rw [hsum] at H2
  have hrep : Array.replicate l.length false = Array.replicate l.toArray.size false := by simp
  rw [hrep] at H2
  exact H2
theorem mix_nil {K : Act → World → Prop} {ops : Array Oper} {a : Act} {w : World} (h : K a w) : wpMix ro n P ops Q S K [] a w := h
theorem mix_pure {K : Act → World → Prop} {ops : Array Oper} {a : Act} {w : World} {k : Nat} {r : List (Nat × Bool)} (o : Oper) (ho : ops[k]? = some o) (v : Value) (hy : YieldsIf P ops S o v a) (h : ∀ b, b = a.put o.dst v → wpMix ro n P ops Q S K r b w) : wpMix ro n P ops Q S K ((k, true) :: r) a w := ⟨o, ho, v, hy, h _ rfl⟩
theorem mix_sole {K : Act → World → Prop} {ops : Array Oper} {a : Act} {w : World} {k : Nat} {r : List (Nat × Bool)} (o : Oper) (ho : ops[k]? = some o)
    (h : ∀ K' : Act → World → Prop, (∀ a' w', S w' → wpMix none n P ops Q S K r a' w' → K' a' w') →
      if Region.wanted o (yielded ops a.tmps) = true then o.wpIn Fence.wide n P a w K' Q else (∀ f, o.about P w a.eval = some f → Fence.wide.fn f) ∧ K' (a.put o.dst undef) w) :
    wpMix none n P ops Q S K ((k, false) :: r) a w := by
  have h := h (fun a' w' => S w' ∧ wpMix none n P ops Q S K r a' w') (fun _ _ h1 h2 => ⟨h1, h2⟩)
  refine ⟨o, ho, ?_⟩
  split
  · rename_i hw; rw [if_pos hw] at h; exact h
  · rename_i hw; rw [if_neg hw] at h; exact h
end
end Go.Proofs.YtmpkgjonbjpohaaGreatDoor
