/-
  A law of the walk: a range over an iterator that keeps state of its own in cells and holds a range over another iterator: what the caller owes is an invariant and one walk of its body.
  A law of the walk: a range over an iterator that keeps state of its own in cells, whose loop variable is laid in a block of its own each round.
  A law of the walk: a range over an iterator that keeps state of its own in cells, whose loop variables are laid in blocks of their own each round.
-/
import Derived.RangeFuncNested
namespace Go.Proofs.YticiddcgafhkhaaGreatDoor
open Go Go.RowKit

/-- From block B on, what is no cells lies as it lay, and so do the k blocks at B. -/
structure KeepsO (B k : Nat) (W W' : World) : Prop where
  size : W.heap.size ≤ W'.heap.size
  same : ∀ (j : Nat) (o : Obj), B ≤ j → W.heap[j]? = some o → (o.isCells = false ∨ j < B + k) → W'.heap[j]? = some o

theorem KeepsO.refl (B k : Nat) (W : World) : KeepsO B k W W := ⟨Nat.le_refl _, fun _ _ _ h _ => h⟩
theorem KeepsO.trans {B k : Nat} {X Y Z : World} (h : KeepsO B k X Y) (g : KeepsO B k Y Z) : KeepsO B k X Z :=
  ⟨Nat.le_trans h.size g.size, fun j o hB hj ho => g.same j o hB (h.same j o hB hj ho) ho⟩
theorem KeepsO.grown {B k : Nat} {W W' : World} {row : Option Nat} (hg : W.grownBy W' row)
    (hr : ∀ r, row = some r → r < B ∨ (B + k ≤ r ∧ ∃ o : Obj, W.heap[r]? = some o ∧ o.isCells = true)) : KeepsO B k W W' :=
  ⟨hg.size, fun j o hB hj ho => (hg.block j (Array.getElem?_eq_some_iff.1 hj).1 (fun e => by
    rcases hr j e.symm with h | ⟨h, o', ho', hc⟩
    · omega
    · rw [hj] at ho'; cases ho'
      rcases ho with ho | ho
      · rw [hc] at ho; cases ho
      · omega)).trans hj⟩
theorem KeepsO.setCell {B k : Nat} {W : World} {b : Nat} {v : Value} (h : b < B ∨ B + k ≤ b) : KeepsO B k W (W.setCell ⟨b, 0, none⟩ v) :=
  ⟨(KeepsWalks.setCell W _ v).size, fun j o hB hj ho => by
    rcases ho with ho | ho
    · exact (KeepsOthers.setCell W ⟨b, 0, none⟩ v).same j o hj ho
    · exact (Below.heap_setCell W ⟨b, 0, none⟩ v j (fun e => by simp at e; omega)).trans hj⟩
theorem KeepsO.alloc {B k : Nat} (W : World) (o : Obj) : KeepsO B k W (W.alloc o) := KeepsO.grown (World.grownBy_alloc W o none) (fun r e => by cases e)
theorem KeepsO.drew {B k : Nat} (W : World) : KeepsO B k W W.drew := ⟨Nat.le_refl _, fun _ _ _ h _ => h⟩
theorem KeepsO.from {B k : Nat} {W W' : World} (h : KeepsO B k W W') {B' : Nat} (hB : B ≤ B') : KeepsFrom B' W W' :=
  ⟨h.size, fun j o hj h0 ho => h.same j o (Nat.le_trans hB hj) h0 (.inl ho)⟩
theorem KeepsO.mono {B k B' k' : Nat} {W W' : World} (h : KeepsO B k W W') (hB : B ≤ B') (hk : B' + k' ≤ B + k) : KeepsO B' k' W W' :=
  ⟨h.size, fun j o hj h0 ho => h.same j o (Nat.le_trans hB hj) h0 (ho.imp id (fun h => by omega))⟩

theorem KeepsO.zero {B k B' : Nat} {W W' : World} (h : KeepsO B k W W') (hB : B ≤ B') : KeepsO B' 0 W W' :=
  ⟨h.size, fun j o hj h0 ho => h.same j o (Nat.le_trans hB hj) h0 (ho.imp id (fun h => by omega))⟩
theorem KeepsO.block {B k j : Nat} {W W' : World} (h : KeepsO B k W W') (h1 : B ≤ j) (h2 : j < B + k) (h3 : j < W.heap.size) : W'.heap[j]? = W.heap[j]? := by
  rw [Array.getElem?_eq_getElem h3]
  exact h.same j _ h1 (Array.getElem?_eq_getElem h3) (.inr h2)

/-- What abides draws, new blocks, turns of what is no cells from B on, and turns of the k blocks at C. -/
structure AbidesO {β : Type} (B C k : Nat) (J : β → World → Prop) : Prop where
  turn : ∀ s W W' row, J s W → W.grownBy W' row → (∀ r, row = some r → B ≤ r ∧ ((C ≤ r ∧ r < C + k) ∨ ∃ o : Obj, W.heap[r]? = some o ∧ o.isCells = false)) → J s W'
  drew : ∀ s W, J s W → J s W.drew

theorem AbidesO.alloc {β : Type} {B C k : Nat} {J : β → World → Prop} (h : AbidesO B C k J) {s : β} {W : World} (o : Obj) (hs : J s W) : J s (W.alloc o) :=
  h.turn s W _ none hs (World.grownBy_alloc W o none) (fun r e => by cases e)
theorem AbidesO.putObj {β : Type} {B C k : Nat} {J : β → World → Prop} (h : AbidesO B C k J) {s : β} {W : World} {l : Nat} {o : Obj} (o' : Obj) (hs : J s W) (hB : B ≤ l) (hl : W.heap[l]? = some o) (ho : o.isCells = false) : J s (W.putObj l o') :=
  h.turn s W _ (some l) hs (grownBy_putObj' W l o') (fun r e => by cases e; exact ⟨hB, .inr ⟨o, hl, ho⟩⟩)
theorem AbidesO.setCell {β : Type} {B C k : Nat} {J : β → World → Prop} (h : AbidesO B C k J) {s : β} {W : World} {b : Nat} (v : Value) (hs : J s W) (hB : B ≤ b) (hC : C ≤ b) (hk : b < C + k) : J s (W.setCell ⟨b, 0, none⟩ v) :=
  h.turn s W _ (some b) hs (grownBy_setCell' W b v) (fun r e => by cases e; exact ⟨hB, .inl ⟨hC, hk⟩⟩)
theorem AbidesO.ownFrom {β : Type} {B C k B' : Nat} {J : β → World → Prop} (h : AbidesO B C k J) (hB : B ≤ B') : OwnFrom B' J :=
  fun s W W' row hs hg hr => h.turn s W W' row hs hg (fun r e => ⟨Nat.le_trans hB (hr r e).1, .inr (hr r e).2⟩)
theorem AbidesO.and {β : Type} {B C k : Nat} {J J' : β → World → Prop} (h : AbidesO B C k J) (h' : AbidesO B C k J') : AbidesO B C k (fun s W => J s W ∧ J' s W) :=
  ⟨fun s W W' row hs hg hr => ⟨h.turn s W W' row hs.1 hg hr, h'.turn s W W' row hs.2 hg hr⟩, fun s W hs => ⟨h.drew s W hs.1, h'.drew s W hs.2⟩⟩

/-- None of the k blocks at B is a row of e's. -/
def noRow (e : TypeId) (B k : Nat) (W : World) : Prop := ∀ (j : Nat) (c : Array Value) (fz : Nat × Nat), B ≤ j → j < B + k → W.heap[j]? ≠ some (.cells c e fz)
theorem noRow.putObj {e : TypeId} {B k l : Nat} {W : World} (h : noRow e B k W) (hl : l < B) (o : Obj) : noRow e B k (W.putObj l o) :=
  fun j c fz h1 h2 h3 => h j c fz h1 h2 ((World.putObj_heap_other (by omega)).symm.trans h3)

theorem noRow.setCell {e : TypeId} {B k b : Nat} {W : World} (h : noRow e B k W) (hb : b < B) (v : Value) : noRow e B k (W.setCell ⟨b, 0, none⟩ v) :=
  fun j c fz h1 h2 h3 => h j c fz h1 h2 ((Below.heap_setCell _ _ _ _ (fun e => by simp at e; omega)).symm.trans h3)

/-- The contract of an iterator that tells the elements of 'full', one by one, and lays k blocks of cells of its own at once when it begins. -/
def SeqStopsO {α : Type} (F : Fence) (n k : Nat) (P : Program) (g : Nat) (lb : Array Value) (encs : α → Array Value) (Kp : World → World → Prop) (full : List α) (w : World) : Prop :=
  ∀ (l : Nat) (J Jx : List α → World → Prop) (W : World), Below w.heap.size w W → AbidesO W.heap.size W.heap.size k J → AbidesO W.heap.size W.heap.size k Jx →
    (∀ pre x W1, J pre W1 → W.heap.size + k ≤ W1.heap.size → noRow 5 W.heap.size k W1 → pre ++ [x] <+: full → YieldAt F (n - 1) P l (encs x) W1 fun e W' =>
      (e = .returned (.bool true) ∧ J (pre ++ [x]) W' ∧ KeepsO W.heap.size k W1 W' ∧ Kp W1 W') ∨ (e = .returned (.bool false) ∧ Jx (pre ++ [x]) W' ∧ KeepsO W.heap.size k W1 W')) →
    J [] W →
    CallsIn F n P g (#[.func (.yield l) #[] #[]] ++ lb) W fun e W' => (∃ v, e = .returned v) ∧ (J full W' ∨ (∃ pre, pre <+: full ∧ Jx pre W'))

/-- How the body of a round may be left. -/
def postO {α : Type} (B k : Nat) (Kp : World → World → Prop) (I : List α → World → Prop) (Ix : Code → List α → World → Prop) (xs : List α) (W : World) : Exit → Act → World → Prop
  | .normal, _, W' => KeepsFrom B W W' ∧ KeepsO (B + 2) k W W' ∧ Kp W W' ∧ I xs W'
  | .ret, _, W' => KeepsFrom B W W' ∧ KeepsO (B + 2) k W W' ∧ Ix .ret xs W'
  | .exit id, _, W' => KeepsFrom B W W' ∧ KeepsO (B + 2) k W W' ∧ Ix (.exit id) xs W'
  | .goto t, _, W' => KeepsFrom B W W' ∧ KeepsO (B + 2) k W W' ∧ Ix (.goto t) xs W'
  | .panic _, _, _ => False
  | .outgrown, _, _ => False

variable {F : Fence} {n : Nat} {P : Program}

theorem wpIn_rangeFunc_ownO {α : Type} {g : Operand} {ps : Array Tmp} {assign body : Code} {Q : Exit → Act → World → Prop} {a : Act} {w : World} {k : Nat}
    (hro : F.round = none) (h1 : 1 ≤ n) {gf : Nat} {lb : Array Value} (hg : a.eval g = .func (.func gf) #[] lb) (hFg : F.fn gf) (eg : ∀ args w, (callFunc gf args).run P w = .ok (.enter gf args) w)
    {encs : α → Array Value} {Kp : World → World → Prop} {full : List α} {w0 : World} (hseq : SeqStopsO F (n - 1) k P gf lb encs Kp full w0)
    (hKt : ∀ {A B C : World}, Kp A B → Kp B C → Kp A C) (hKb : ∀ (W : World) (l : Nat) (o o' : Obj), w.heap.size ≤ l → W.heap[l]? = some o → o.isCells = false → o.isWalk = false → Kp W (W.putObj l o')) (hb0 : Below w0.heap.size w0 w) (hps : ∀ x, (encs x).size = ps.size)
    (I : List α → World → Prop) (Ix : Code → List α → World → Prop) (hI : AbidesO w.heap.size (w.heap.size + 2) k I) (hIx : ∀ c, AbidesO w.heap.size (w.heap.size + 2) k (Ix c)) (h0 : I [] w) (a₁ : α → Act)
    (hassign : ∀ (l : Nat) (x : α) (W : World) (K : Act → World → Prop), K (a₁ x) W →
      assign.wpIn (F.inRound l) (n - 1 - 1) P (Exit.then K (fun _ _ _ => False)) { tmps := (ps.zip (encs x)).foldl (fun t (p, v) => t.setIfInBounds p v) a.tmps, defers := [] } W)
    (hbody : ∀ (l : Nat) (pre : List α) (x : α) (W : World), w.heap.size + 2 + k ≤ W.heap.size → noRow 5 (w.heap.size + 2) k W → I pre W → pre ++ [x] <+: full → body.wpIn (F.inRound l) (n - 1 - 1) P (postO w.heap.size k Kp I Ix (pre ++ [x]) W) (a₁ x) W)
    (hdone : ∀ (D : Nat) (W : World), w.heap.size ≤ D → I full W → W.heap[D]? = some (.deferred (some [])) → Q .normal { a with defers := { target := .collected D, args := #[] } :: a.defers } W)
    (hstop : ∀ (D : Nat) (c : Code) (pre : List α) (W : World), w.heap.size ≤ D → pre <+: full → Ix c pre W → W.heap[D]? = some (.deferred (some [])) → c.wpIn F n P Q { a with defers := { target := .collected D, args := #[] } :: a.defers } W) :
    (Code.rangeFunc g ps assign body).wpIn F n P Q a w := by
  refine wpIn_rangeFunc ?_
  intro fn hfn
  rw [hro]
  obtain ⟨rec, hrec⟩ : ∃ rec : LoopState → Option Code → Loop, rec = fun st pe => { state := st, pending := pe, fn, tmps := a.tmps, params := ps, assign, body, defers := w.heap.size } := ⟨_, rfl⟩
  obtain ⟨W1, hW1⟩ : ∃ W1, (w.alloc (.deferred (some []))).alloc (.loop (rec .ready none)) = W1 := ⟨_, rfl⟩
  have hsz : W1.heap.size = w.heap.size + 2 := by rw [← hW1]; simp
  have hL1 : W1.heap[w.heap.size + 1]? = some (.loop (rec .ready none)) := by
    rw [← hW1]; have := World.alloc_heap_new (w.alloc (.deferred (some []))) (.loop (rec .ready none)); rwa [World.size_alloc] at this
  have hK1 : W1.heap[w.heap.size]? = some (.deferred (some [])) := by
    rw [← hW1]; exact (Below.heap_alloc _ _ _ (by simp)).trans (World.alloc_heap_new w _)
  have hI1 : I [] W1 := by rw [← hW1]; exact hI.alloc _ (hI.alloc _ h0)
  have hb1 : Below w0.heap.size w0 W1 := by
    rw [← hW1]; exact hb0.trans ((((Below.refl _ w).alloc (Nat.le_refl _) _).alloc (by simp) _).mono hb0.size)
  refine ⟨w.heap.size + 1, [{ target := .collected w.heap.size, args := #[] }], W1, { target := .fn (.func gf) lb, args := #[.func (.yield (w.heap.size + 1)) #[] #[]] }, W1, gf,
    #[.func (.yield (w.heap.size + 1)) #[] #[]] ++ lb, W1, ?_, ?_, ?_, ?_, fun _ => h1, ?_⟩
  · rw [← hW1, hrec]; exact run_enterLoop_outer _ _ _ _ _
  · simp only [resolve, hg]
    simp [go_sem]
  · intro f' hf'; simp [Target.leads] at hf'; subst hf'; exact hFg
  · simp [invoke, go_sem, eg]
  · have hnw : ∀ {A B : World} {row : Option Nat}, (∀ r, row = some r → W1.heap.size ≤ r ∧ ((W1.heap.size ≤ r ∧ r < W1.heap.size + k) ∨ ∃ o : Obj, A.heap[r]? = some o ∧ o.isCells = false)) →
        (∀ r, row = some r → w.heap.size ≤ r ∧ ((w.heap.size + 2 ≤ r ∧ r < w.heap.size + 2 + k) ∨ ∃ o : Obj, A.heap[r]? = some o ∧ o.isCells = false)) :=
      fun {A B row} hr r e => by obtain ⟨hB, ho⟩ := hr r e; rw [hsz] at hB ho; exact ⟨by omega, ho⟩
    have hkp : ∀ {A B : World} {row : Option Nat} {j : Nat} {o : Obj}, A.grownBy B row → (∀ r, row = some r → W1.heap.size ≤ r) → j < w.heap.size + 2 → A.heap[j]? = some o → B.heap[j]? = some o :=
      fun {A B row j o} hg' hr hj ho => (hg'.block j (Array.getElem?_eq_some_iff.1 ho).1 (fun e => by have := hr j e.symm; rw [hsz] at this; omega)).trans ho
    refine (hseq (w.heap.size + 1)
      (fun pre W => I pre W ∧ W.heap[w.heap.size + 1]? = some (.loop (rec .ready none)) ∧ W.heap[w.heap.size]? = some (.deferred (some [])))
      (fun pre W => ∃ c, Ix c pre W ∧ W.heap[w.heap.size + 1]? = some (.loop (rec .done (some c))) ∧ W.heap[w.heap.size]? = some (.deferred (some [])))
      W1 hb1
      ⟨fun s A B row hs hg' hr => ⟨hI.turn s A B row hs.1 hg' (hnw (B := B) hr), hkp hg' (fun r e => (hr r e).1) (by omega) hs.2.1, hkp hg' (fun r e => (hr r e).1) (by omega) hs.2.2⟩,
        fun s A hs => ⟨hI.drew s A hs.1, hs.2⟩⟩
      ⟨fun s A B row hs hg' hr => by
        obtain ⟨c, hc, hl, hk⟩ := hs
        exact ⟨c, (hIx c).turn s A B row hc hg' (hnw (B := B) hr), hkp hg' (fun r e => (hr r e).1) (by omega) hl, hkp hg' (fun r e => (hr r e).1) (by omega) hk⟩,
        fun s A hs => by obtain ⟨c, hc, hr⟩ := hs; exact ⟨c, (hIx c).drew s A hc, hr⟩⟩
      ?_ ⟨hI1, hL1, hK1⟩).mono ?_
    · rintro pre x W ⟨hi, hl, hk⟩ hroom hno hlen
      have hlt : w.heap.size + 1 < W.heap.size := (Array.getElem?_eq_some_iff.1 hl).1
      have hy := run_yield (P := P) (args := encs x) hl (by rw [hrec]; exact hps x)
      rw [hrec] at hy
      refine ⟨fn, _, assign, body, hy, roundIn_of_wpIn hfn (hassign _ x W _ ⟨_, run_beginRound hl (by rw [hrec]), ?_⟩)⟩
      have hl2 : (W.putObj (w.heap.size + 1) (.loop { rec .ready none with state := .busy })).heap[w.heap.size + 1]? = some (.loop { rec .ready none with state := .busy }) := World.putObj_heap_same hlt
      have hk2 : (W.putObj (w.heap.size + 1) (.loop { rec .ready none with state := .busy })).heap[w.heap.size]? = some (.deferred (some [])) := (World.putObj_heap_other (by omega)).trans hk
      have hw2 : Kp W (W.putObj (w.heap.size + 1) (.loop { rec .ready none with state := .busy })) := hKb _ _ _ _ (by omega) hl rfl rfl
      have ho2 : ∀ (X : World) (o : Obj), KeepsO (w.heap.size + 2) k X (X.putObj (w.heap.size + 1) o) := fun X o => KeepsO.grown (grownBy_putObj' X _ o) (fun r e => by cases e; exact .inl (by omega))
      refine wpIn_mono (hbody _ pre x _ (by rw [hsz] at hroom; simpa using hroom) (by rw [hsz] at hno; exact hno.putObj (by omega) _) (hI.putObj _ hi (by omega) hl rfl) hlen) ?_
      have fin : ∀ (jump : Option Code) (W3 : World), KeepsFrom w.heap.size (W.putObj (w.heap.size + 1) (.loop { rec .ready none with state := .busy })) W3 →
          (Instr.endRound (w.heap.size + 1) jump).run P W3 = .ok (.bool jump.isNone) (W3.putObj (w.heap.size + 1) (.loop (rec (if jump.isNone then .ready else .done) jump))) ∧
          W3.heap[w.heap.size + 1]? = some (.loop { rec .ready none with state := .busy }) ∧
          (W3.putObj (w.heap.size + 1) (.loop (rec (if jump.isNone then .ready else .done) jump))).heap[w.heap.size + 1]? = some (.loop (rec (if jump.isNone then .ready else .done) jump)) ∧
          (W3.putObj (w.heap.size + 1) (.loop (rec (if jump.isNone then .ready else .done) jump))).heap[w.heap.size]? = some (.deferred (some [])) := fun jump W3 hk3 => by
        have hl3 := hk3.same _ _ (by omega) hl2 rfl
        have := run_endRound (P := P) jump hl3
        rw [hrec] at this ⊢
        exact ⟨this, by rw [hrec] at hl3; exact hl3, World.putObj_heap_same (Array.getElem?_eq_some_iff.1 hl3).1, (World.putObj_heap_other (by omega)).trans (hk3.same _ _ (Nat.le_refl _) hk2 rfl)⟩
      rw [hsz]
      rintro e a3 W3 hp
      cases e with
      | normal =>
        obtain ⟨hk3, ho3, hkp3, hi3⟩ := hp
        obtain ⟨hr, hl3, hl4, hk4⟩ := fin none W3 hk3
        exact ⟨_, _, hr, .inl ⟨rfl, ⟨hI.putObj _ hi3 (by omega) hl3 rfl, hl4, hk4⟩, ((ho2 W _).trans ho3).trans (ho2 W3 _), hKt (hKt hw2 hkp3) (hKb _ _ _ _ (by omega) hl3 rfl rfl)⟩⟩
      | ret =>
        obtain ⟨hk3, ho3, hi3⟩ := hp
        obtain ⟨hr, hl3, hl4, hk4⟩ := fin (some .ret) W3 hk3
        exact ⟨_, _, hr, .inr ⟨rfl, ⟨.ret, (hIx _).putObj _ hi3 (by omega) hl3 rfl, hl4, hk4⟩, ((ho2 W _).trans ho3).trans (ho2 W3 _)⟩⟩
      | exit id =>
        obtain ⟨hk3, ho3, hi3⟩ := hp
        obtain ⟨hr, hl3, hl4, hk4⟩ := fin (some (.exit id)) W3 hk3
        exact ⟨_, _, hr, .inr ⟨rfl, ⟨.exit id, (hIx _).putObj _ hi3 (by omega) hl3 rfl, hl4, hk4⟩, ((ho2 W _).trans ho3).trans (ho2 W3 _)⟩⟩
      | goto t =>
        obtain ⟨hk3, ho3, hi3⟩ := hp
        obtain ⟨hr, hl3, hl4, hk4⟩ := fin (some (.goto t)) W3 hk3
        exact ⟨_, _, hr, .inr ⟨rfl, ⟨.goto t, (hIx _).putObj _ hi3 (by omega) hl3 rfl, hl4, hk4⟩, ((ho2 W _).trans ho3).trans (ho2 W3 _)⟩⟩
      | panic ch => exact hp.elim
      | outgrown => exact hp.elim
    · rintro e W2 ⟨⟨v, rfl⟩, (⟨hi, hl, hk⟩ | ⟨pre, hSp, c, hi, hl, hk⟩)⟩
      · exact ⟨none, _, by have := run_endLoop (P := P) hl (by rw [hrec]; simp); rw [hrec] at this; exact this, hdone _ _ (Nat.le_refl _) (hI.putObj _ hi (by omega) hl rfl) ((World.putObj_heap_other (by omega)).trans hk)⟩
      · exact ⟨some c, _, by have := run_endLoop (P := P) hl (by rw [hrec]; simp); rw [hrec] at this; exact this, hstop _ c pre _ (Nat.le_refl _) hSp ((hIx c).putObj _ hi (by omega) hl rfl) ((World.putObj_heap_other (by omega)).trans hk)⟩

end Go.Proofs.YticiddcgafhkhaaGreatDoor
namespace Go.Proofs.YticiddcgafhkhaaGreatDoor
open Go Go.RowKit
variable {F : Fence} {n : Nat} {P : Program}

theorem wpIn_rangeFunc_ownA {α : Type} {g : Operand} {ps : Array Tmp} {assign body : Code} {Q : Exit → Act → World → Prop} {a : Act} {w : World} {k : Nat}
    (hro : F.round = none) (h1 : 1 ≤ n) {gf : Nat} {lb : Array Value} (hg : a.eval g = .func (.func gf) #[] lb) (hFg : F.fn gf) (eg : ∀ args w, (callFunc gf args).run P w = .ok (.enter gf args) w)
    {encs : α → Array Value} {Kp : World → World → Prop} {full : List α} {w0 : World} (hseq : SeqStopsO F (n - 1) k P gf lb encs Kp full w0)
    (hKt : ∀ {A B C : World}, Kp A B → Kp B C → Kp A C) (hKb : ∀ (W : World) (l : Nat) (o o' : Obj), w.heap.size ≤ l → W.heap[l]? = some o → o.isCells = false → o.isWalk = false → Kp W (W.putObj l o')) (hKa : ∀ (W : World) (o : Obj), w.heap.size ≤ W.heap.size → Kp W (W.alloc o)) (hb0 : Below w0.heap.size w0 w) (hps : ∀ x, (encs x).size = ps.size)
    (I : List α → World → Prop) (Ix : Code → List α → World → Prop) (hI : AbidesO w.heap.size (w.heap.size + 2) k I) (hIx : ∀ c, AbidesO w.heap.size (w.heap.size + 2) k (Ix c)) (h0 : I [] w) (oA : α → Obj) (a₁ : α → Nat → Act)
    (hassign : ∀ (l : Nat) (x : α) (W : World) (K : Act → World → Prop), K (a₁ x W.heap.size) (W.alloc (oA x)) →
      assign.wpIn (F.inRound l) (n - 1 - 1) P (Exit.then K (fun _ _ _ => False)) { tmps := (ps.zip (encs x)).foldl (fun t (p, v) => t.setIfInBounds p v) a.tmps, defers := [] } W)
    (hbody : ∀ (l : Nat) (pre : List α) (x : α) (W : World) (A : Nat), w.heap.size + 2 + k ≤ A → W.heap[A]? = some (oA x) → noRow 5 (w.heap.size + 2) k W → I pre W → pre ++ [x] <+: full → body.wpIn (F.inRound l) (n - 1 - 1) P (postO w.heap.size k Kp I Ix (pre ++ [x]) W) (a₁ x A) W)
    (hdone : ∀ (D : Nat) (W : World), w.heap.size ≤ D → I full W → W.heap[D]? = some (.deferred (some [])) → Q .normal { a with defers := { target := .collected D, args := #[] } :: a.defers } W)
    (hstop : ∀ (D : Nat) (c : Code) (pre : List α) (W : World), w.heap.size ≤ D → pre <+: full → Ix c pre W → W.heap[D]? = some (.deferred (some [])) → c.wpIn F n P Q { a with defers := { target := .collected D, args := #[] } :: a.defers } W) :
    (Code.rangeFunc g ps assign body).wpIn F n P Q a w := by
  refine wpIn_rangeFunc ?_
  intro fn hfn
  rw [hro]
  obtain ⟨rec, hrec⟩ : ∃ rec : LoopState → Option Code → Loop, rec = fun st pe => { state := st, pending := pe, fn, tmps := a.tmps, params := ps, assign, body, defers := w.heap.size } := ⟨_, rfl⟩
  obtain ⟨W1, hW1⟩ : ∃ W1, (w.alloc (.deferred (some []))).alloc (.loop (rec .ready none)) = W1 := ⟨_, rfl⟩
  have hsz : W1.heap.size = w.heap.size + 2 := by rw [← hW1]; simp
  have hL1 : W1.heap[w.heap.size + 1]? = some (.loop (rec .ready none)) := by
    rw [← hW1]; have := World.alloc_heap_new (w.alloc (.deferred (some []))) (.loop (rec .ready none)); rwa [World.size_alloc] at this
  have hK1 : W1.heap[w.heap.size]? = some (.deferred (some [])) := by
    rw [← hW1]; exact (Below.heap_alloc _ _ _ (by simp)).trans (World.alloc_heap_new w _)
  have hI1 : I [] W1 := by rw [← hW1]; exact hI.alloc _ (hI.alloc _ h0)
  have hb1 : Below w0.heap.size w0 W1 := by
    rw [← hW1]; exact hb0.trans ((((Below.refl _ w).alloc (Nat.le_refl _) _).alloc (by simp) _).mono hb0.size)
  refine ⟨w.heap.size + 1, [{ target := .collected w.heap.size, args := #[] }], W1, { target := .fn (.func gf) lb, args := #[.func (.yield (w.heap.size + 1)) #[] #[]] }, W1, gf,
    #[.func (.yield (w.heap.size + 1)) #[] #[]] ++ lb, W1, ?_, ?_, ?_, ?_, fun _ => h1, ?_⟩
  · rw [← hW1, hrec]; exact run_enterLoop_outer _ _ _ _ _
  · simp only [resolve, hg]
    simp [go_sem]
  · intro f' hf'; simp [Target.leads] at hf'; subst hf'; exact hFg
  · simp [invoke, go_sem, eg]
  · have hnw : ∀ {A B : World} {row : Option Nat}, (∀ r, row = some r → W1.heap.size ≤ r ∧ ((W1.heap.size ≤ r ∧ r < W1.heap.size + k) ∨ ∃ o : Obj, A.heap[r]? = some o ∧ o.isCells = false)) →
        (∀ r, row = some r → w.heap.size ≤ r ∧ ((w.heap.size + 2 ≤ r ∧ r < w.heap.size + 2 + k) ∨ ∃ o : Obj, A.heap[r]? = some o ∧ o.isCells = false)) :=
      fun {A B row} hr r e => by obtain ⟨hB, ho⟩ := hr r e; rw [hsz] at hB ho; exact ⟨by omega, ho⟩
    have hkp : ∀ {A B : World} {row : Option Nat} {j : Nat} {o : Obj}, A.grownBy B row → (∀ r, row = some r → W1.heap.size ≤ r) → j < w.heap.size + 2 → A.heap[j]? = some o → B.heap[j]? = some o :=
      fun {A B row j o} hg' hr hj ho => (hg'.block j (Array.getElem?_eq_some_iff.1 ho).1 (fun e => by have := hr j e.symm; rw [hsz] at this; omega)).trans ho
    refine (hseq (w.heap.size + 1)
      (fun pre W => I pre W ∧ W.heap[w.heap.size + 1]? = some (.loop (rec .ready none)) ∧ W.heap[w.heap.size]? = some (.deferred (some [])))
      (fun pre W => ∃ c, Ix c pre W ∧ W.heap[w.heap.size + 1]? = some (.loop (rec .done (some c))) ∧ W.heap[w.heap.size]? = some (.deferred (some [])))
      W1 hb1
      ⟨fun s A B row hs hg' hr => ⟨hI.turn s A B row hs.1 hg' (hnw (B := B) hr), hkp hg' (fun r e => (hr r e).1) (by omega) hs.2.1, hkp hg' (fun r e => (hr r e).1) (by omega) hs.2.2⟩,
        fun s A hs => ⟨hI.drew s A hs.1, hs.2⟩⟩
      ⟨fun s A B row hs hg' hr => by
        obtain ⟨c, hc, hl, hk⟩ := hs
        exact ⟨c, (hIx c).turn s A B row hc hg' (hnw (B := B) hr), hkp hg' (fun r e => (hr r e).1) (by omega) hl, hkp hg' (fun r e => (hr r e).1) (by omega) hk⟩,
        fun s A hs => by obtain ⟨c, hc, hr⟩ := hs; exact ⟨c, (hIx c).drew s A hc, hr⟩⟩
      ?_ ⟨hI1, hL1, hK1⟩).mono ?_
    · rintro pre x W ⟨hi, hl, hk⟩ hroom hno hlen
      have hlt : w.heap.size + 1 < W.heap.size := (Array.getElem?_eq_some_iff.1 hl).1
      have hy := run_yield (P := P) (args := encs x) hl (by rw [hrec]; exact hps x)
      rw [hrec] at hy
      have hroom' : w.heap.size + 2 + k ≤ W.heap.size := by rw [hsz] at hroom; exact hroom
      have hno0 : noRow 5 (w.heap.size + 2) k W := by rw [hsz] at hno; exact hno
      have hla : (W.alloc (oA x)).heap[w.heap.size + 1]? = some (.loop (rec .ready none)) := (Below.heap_alloc _ _ _ hlt).trans hl
      have hka : (W.alloc (oA x)).heap[w.heap.size]? = some (.deferred (some [])) := (Below.heap_alloc _ _ _ (by omega)).trans hk
      have hlta : w.heap.size + 1 < (W.alloc (oA x)).heap.size := by simp; omega
      have hia : I pre (W.alloc (oA x)) := hI.alloc _ hi
      have hnoa : noRow 5 (w.heap.size + 2) k (W.alloc (oA x)) := fun j c fz h1 h2 h3 => hno0 j c fz h1 h2 ((Below.heap_alloc _ _ _ (by omega)).symm.trans h3)
      have hA : (W.alloc (oA x)).heap[W.heap.size]? = some (oA x) := World.alloc_heap_new W _
      have hKA : Kp W (W.alloc (oA x)) := hKa _ _ (by omega)
      have hKOA : KeepsO (w.heap.size + 2) k W (W.alloc (oA x)) := KeepsO.alloc W _
      refine ⟨fn, _, assign, body, hy, roundIn_of_wpIn hfn (hassign _ x W _ ⟨_, run_beginRound hla (by rw [hrec]), ?_⟩)⟩
      generalize hAe : W.heap.size = A at *
      generalize W.alloc (oA x) = Wa at *
      have hl2 : (Wa.putObj (w.heap.size + 1) (.loop { rec .ready none with state := .busy })).heap[w.heap.size + 1]? = some (.loop { rec .ready none with state := .busy }) := World.putObj_heap_same hlta
      have hk2 : (Wa.putObj (w.heap.size + 1) (.loop { rec .ready none with state := .busy })).heap[w.heap.size]? = some (.deferred (some [])) := (World.putObj_heap_other (by omega)).trans hka
      have hw2 : Kp W (Wa.putObj (w.heap.size + 1) (.loop { rec .ready none with state := .busy })) := hKt hKA (hKb _ _ _ _ (by omega) hla rfl rfl)
      have ho2 : ∀ (X : World) (o : Obj), KeepsO (w.heap.size + 2) k X (X.putObj (w.heap.size + 1) o) := fun X o => KeepsO.grown (grownBy_putObj' X _ o) (fun r e => by cases e; exact .inl (by omega))
      have ho3' : KeepsO (w.heap.size + 2) k W (Wa.putObj (w.heap.size + 1) (.loop { rec .ready none with state := .busy })) := hKOA.trans (ho2 Wa _)
      refine wpIn_mono (hbody _ pre x _ A hroom' ((World.putObj_heap_other (by omega)).trans hA) (hnoa.putObj (by omega) _) (hI.putObj _ hia (by omega) hla rfl) hlen) ?_
      have fin : ∀ (jump : Option Code) (W3 : World), KeepsFrom w.heap.size (Wa.putObj (w.heap.size + 1) (.loop { rec .ready none with state := .busy })) W3 →
          (Instr.endRound (w.heap.size + 1) jump).run P W3 = .ok (.bool jump.isNone) (W3.putObj (w.heap.size + 1) (.loop (rec (if jump.isNone then .ready else .done) jump))) ∧
          W3.heap[w.heap.size + 1]? = some (.loop { rec .ready none with state := .busy }) ∧
          (W3.putObj (w.heap.size + 1) (.loop (rec (if jump.isNone then .ready else .done) jump))).heap[w.heap.size + 1]? = some (.loop (rec (if jump.isNone then .ready else .done) jump)) ∧
          (W3.putObj (w.heap.size + 1) (.loop (rec (if jump.isNone then .ready else .done) jump))).heap[w.heap.size]? = some (.deferred (some [])) := fun jump W3 hk3 => by
        have hl3 := hk3.same _ _ (by omega) hl2 rfl
        have := run_endRound (P := P) jump hl3
        rw [hrec] at this ⊢
        exact ⟨this, by rw [hrec] at hl3; exact hl3, World.putObj_heap_same (Array.getElem?_eq_some_iff.1 hl3).1, (World.putObj_heap_other (by omega)).trans (hk3.same _ _ (Nat.le_refl _) hk2 rfl)⟩
      rw [hsz]
      rintro e a3 W3 hp
      cases e with
      | normal =>
        obtain ⟨hk3, ho3, hkp3, hi3⟩ := hp
        obtain ⟨hr, hl3, hl4, hk4⟩ := fin none W3 hk3
        exact ⟨_, _, hr, .inl ⟨rfl, ⟨hI.putObj _ hi3 (by omega) hl3 rfl, hl4, hk4⟩, (ho3'.trans ho3).trans (ho2 W3 _), hKt (hKt hw2 hkp3) (hKb _ _ _ _ (by omega) hl3 rfl rfl)⟩⟩
      | ret =>
        obtain ⟨hk3, ho3, hi3⟩ := hp
        obtain ⟨hr, hl3, hl4, hk4⟩ := fin (some .ret) W3 hk3
        exact ⟨_, _, hr, .inr ⟨rfl, ⟨.ret, (hIx _).putObj _ hi3 (by omega) hl3 rfl, hl4, hk4⟩, (ho3'.trans ho3).trans (ho2 W3 _)⟩⟩
      | exit id =>
        obtain ⟨hk3, ho3, hi3⟩ := hp
        obtain ⟨hr, hl3, hl4, hk4⟩ := fin (some (.exit id)) W3 hk3
        exact ⟨_, _, hr, .inr ⟨rfl, ⟨.exit id, (hIx _).putObj _ hi3 (by omega) hl3 rfl, hl4, hk4⟩, (ho3'.trans ho3).trans (ho2 W3 _)⟩⟩
      | goto t =>
        obtain ⟨hk3, ho3, hi3⟩ := hp
        obtain ⟨hr, hl3, hl4, hk4⟩ := fin (some (.goto t)) W3 hk3
        exact ⟨_, _, hr, .inr ⟨rfl, ⟨.goto t, (hIx _).putObj _ hi3 (by omega) hl3 rfl, hl4, hk4⟩, (ho3'.trans ho3).trans (ho2 W3 _)⟩⟩
      | panic ch => exact hp.elim
      | outgrown => exact hp.elim
    · rintro e W2 ⟨⟨v, rfl⟩, (⟨hi, hl, hk⟩ | ⟨pre, hSp, c, hi, hl, hk⟩)⟩
      · exact ⟨none, _, by have := run_endLoop (P := P) hl (by rw [hrec]; simp); rw [hrec] at this; exact this, hdone _ _ (Nat.le_refl _) (hI.putObj _ hi (by omega) hl rfl) ((World.putObj_heap_other (by omega)).trans hk)⟩
      · exact ⟨some c, _, by have := run_endLoop (P := P) hl (by rw [hrec]; simp); rw [hrec] at this; exact this, hstop _ c pre _ (Nat.le_refl _) hSp ((hIx c).putObj _ hi (by omega) hl rfl) ((World.putObj_heap_other (by omega)).trans hk)⟩

end Go.Proofs.YticiddcgafhkhaaGreatDoor
namespace Go.Proofs.YticiddcgafhkhaaGreatDoor
open Go Go.RowKit
variable {F : Fence} {n : Nat} {P : Program}

def allocs (W : World) : List Obj → World
  | [] => W
  | o :: os => allocs (W.alloc o) os
theorem allocs_size : ∀ (os : List Obj) (W : World), (allocs W os).heap.size = W.heap.size + os.length
  | [], _ => rfl
  | o :: os, W => by rw [allocs, allocs_size os, World.size_alloc, List.length_cons]; omega
theorem allocs_old : ∀ (os : List Obj) (W : World) (j : Nat), j < W.heap.size → (allocs W os).heap[j]? = W.heap[j]?
  | [], _, _, _ => rfl
  | o :: os, W, j, h => by rw [allocs, allocs_old os _ j (by simp; omega)]; exact Below.heap_alloc _ _ _ h
theorem allocs_new : ∀ (os : List Obj) (W : World) (i : Nat) (o : Obj), os[i]? = some o → (allocs W os).heap[W.heap.size + i]? = some o
  | [], _, _, _, h => by simp at h
  | o :: os, W, 0, o', h => by
    simp at h; subst h
    rw [allocs, Nat.add_zero, allocs_old os _ _ (by simp)]
    exact World.alloc_heap_new W o
  | o :: os, W, i + 1, o', h => by
    have := allocs_new os (W.alloc o) i o' (by simpa using h)
    rw [World.size_alloc] at this
    rw [allocs, show W.heap.size + (i + 1) = W.heap.size + 1 + i by omega]
    exact this
theorem AbidesO.allocs {β : Type} {B C k : Nat} {J : β → World → Prop} (h : AbidesO B C k J) {s : β} : ∀ (os : List Obj) {W : World}, J s W → J s (allocs W os)
  | [], _, hs => hs
  | o :: os, _, hs => AbidesO.allocs h os (h.alloc o hs)
theorem KeepsO.allocs {B k : Nat} : ∀ (os : List Obj) (W : World), KeepsO B k W (allocs W os)
  | [], W => KeepsO.refl _ _ W
  | o :: os, W => (KeepsO.alloc W o).trans (KeepsO.allocs os _)
theorem Kp_allocs {Kp : World → World → Prop} {N : Nat} (hKr : ∀ W, Kp W W) (hKt : ∀ {A B C : World}, Kp A B → Kp B C → Kp A C) (hKa : ∀ (W : World) (o : Obj), N ≤ W.heap.size → Kp W (W.alloc o)) : ∀ (os : List Obj) (W : World), N ≤ W.heap.size → Kp W (allocs W os)
  | [], W, _ => hKr W
  | o :: os, W, h => hKt (hKa W o h) (Kp_allocs hKr hKt hKa os _ (by simp; omega))

theorem wpIn_rangeFunc_ownL {α : Type} {g : Operand} {ps : Array Tmp} {assign body : Code} {Q : Exit → Act → World → Prop} {a : Act} {w : World} {k : Nat}
    (hro : F.round = none) (h1 : 1 ≤ n) {gf : Nat} {lb : Array Value} (hg : a.eval g = .func (.func gf) #[] lb) (hFg : F.fn gf) (eg : ∀ args w, (callFunc gf args).run P w = .ok (.enter gf args) w)
    {encs : α → Array Value} {Kp : World → World → Prop} {full : List α} {w0 : World} (hseq : SeqStopsO F (n - 1) k P gf lb encs Kp full w0)
    (hKt : ∀ {A B C : World}, Kp A B → Kp B C → Kp A C) (hKb : ∀ (W : World) (l : Nat) (o o' : Obj), w.heap.size ≤ l → W.heap[l]? = some o → o.isCells = false → o.isWalk = false → Kp W (W.putObj l o')) (hKr : ∀ W, Kp W W) (hKa : ∀ (W : World) (o : Obj), w.heap.size ≤ W.heap.size → Kp W (W.alloc o)) (hb0 : Below w0.heap.size w0 w) (hps : ∀ x, (encs x).size = ps.size)
    (I : List α → World → Prop) (Ix : Code → List α → World → Prop) (hI : AbidesO w.heap.size (w.heap.size + 2) k I) (hIx : ∀ c, AbidesO w.heap.size (w.heap.size + 2) k (Ix c)) (h0 : I [] w) (oA : α → List Obj) (a₁ : α → Nat → Act)
    (hassign : ∀ (l : Nat) (x : α) (W : World) (K : Act → World → Prop), K (a₁ x W.heap.size) (allocs W (oA x)) →
      assign.wpIn (F.inRound l) (n - 1 - 1) P (Exit.then K (fun _ _ _ => False)) { tmps := (ps.zip (encs x)).foldl (fun t (p, v) => t.setIfInBounds p v) a.tmps, defers := [] } W)
    (hbody : ∀ (l : Nat) (pre : List α) (x : α) (W : World) (A : Nat), w.heap.size + 2 + k ≤ A → (∀ (i : Nat) (o : Obj), (oA x)[i]? = some o → W.heap[A + i]? = some o) → noRow 5 (w.heap.size + 2) k W → I pre W → pre ++ [x] <+: full → body.wpIn (F.inRound l) (n - 1 - 1) P (postO w.heap.size k Kp I Ix (pre ++ [x]) W) (a₁ x A) W)
    (hdone : ∀ (D : Nat) (W : World), w.heap.size ≤ D → I full W → W.heap[D]? = some (.deferred (some [])) → Q .normal { a with defers := { target := .collected D, args := #[] } :: a.defers } W)
    (hstop : ∀ (D : Nat) (c : Code) (pre : List α) (W : World), w.heap.size ≤ D → pre <+: full → Ix c pre W → W.heap[D]? = some (.deferred (some [])) → c.wpIn F n P Q { a with defers := { target := .collected D, args := #[] } :: a.defers } W) :
    (Code.rangeFunc g ps assign body).wpIn F n P Q a w := by
  refine wpIn_rangeFunc ?_
  intro fn hfn
  rw [hro]
  obtain ⟨rec, hrec⟩ : ∃ rec : LoopState → Option Code → Loop, rec = fun st pe => { state := st, pending := pe, fn, tmps := a.tmps, params := ps, assign, body, defers := w.heap.size } := ⟨_, rfl⟩
  obtain ⟨W1, hW1⟩ : ∃ W1, (w.alloc (.deferred (some []))).alloc (.loop (rec .ready none)) = W1 := ⟨_, rfl⟩
  have hsz : W1.heap.size = w.heap.size + 2 := by rw [← hW1]; simp
  have hL1 : W1.heap[w.heap.size + 1]? = some (.loop (rec .ready none)) := by
    rw [← hW1]; have := World.alloc_heap_new (w.alloc (.deferred (some []))) (.loop (rec .ready none)); rwa [World.size_alloc] at this
  have hK1 : W1.heap[w.heap.size]? = some (.deferred (some [])) := by
    rw [← hW1]; exact (Below.heap_alloc _ _ _ (by simp)).trans (World.alloc_heap_new w _)
  have hI1 : I [] W1 := by rw [← hW1]; exact hI.alloc _ (hI.alloc _ h0)
  have hb1 : Below w0.heap.size w0 W1 := by
    rw [← hW1]; exact hb0.trans ((((Below.refl _ w).alloc (Nat.le_refl _) _).alloc (by simp) _).mono hb0.size)
  refine ⟨w.heap.size + 1, [{ target := .collected w.heap.size, args := #[] }], W1, { target := .fn (.func gf) lb, args := #[.func (.yield (w.heap.size + 1)) #[] #[]] }, W1, gf,
    #[.func (.yield (w.heap.size + 1)) #[] #[]] ++ lb, W1, ?_, ?_, ?_, ?_, fun _ => h1, ?_⟩
  · rw [← hW1, hrec]; exact run_enterLoop_outer _ _ _ _ _
  · simp only [resolve, hg]
    simp [go_sem]
  · intro f' hf'; simp [Target.leads] at hf'; subst hf'; exact hFg
  · simp [invoke, go_sem, eg]
  · have hnw : ∀ {A B : World} {row : Option Nat}, (∀ r, row = some r → W1.heap.size ≤ r ∧ ((W1.heap.size ≤ r ∧ r < W1.heap.size + k) ∨ ∃ o : Obj, A.heap[r]? = some o ∧ o.isCells = false)) →
        (∀ r, row = some r → w.heap.size ≤ r ∧ ((w.heap.size + 2 ≤ r ∧ r < w.heap.size + 2 + k) ∨ ∃ o : Obj, A.heap[r]? = some o ∧ o.isCells = false)) :=
      fun {A B row} hr r e => by obtain ⟨hB, ho⟩ := hr r e; rw [hsz] at hB ho; exact ⟨by omega, ho⟩
    have hkp : ∀ {A B : World} {row : Option Nat} {j : Nat} {o : Obj}, A.grownBy B row → (∀ r, row = some r → W1.heap.size ≤ r) → j < w.heap.size + 2 → A.heap[j]? = some o → B.heap[j]? = some o :=
      fun {A B row j o} hg' hr hj ho => (hg'.block j (Array.getElem?_eq_some_iff.1 ho).1 (fun e => by have := hr j e.symm; rw [hsz] at this; omega)).trans ho
    refine (hseq (w.heap.size + 1)
      (fun pre W => I pre W ∧ W.heap[w.heap.size + 1]? = some (.loop (rec .ready none)) ∧ W.heap[w.heap.size]? = some (.deferred (some [])))
      (fun pre W => ∃ c, Ix c pre W ∧ W.heap[w.heap.size + 1]? = some (.loop (rec .done (some c))) ∧ W.heap[w.heap.size]? = some (.deferred (some [])))
      W1 hb1
      ⟨fun s A B row hs hg' hr => ⟨hI.turn s A B row hs.1 hg' (hnw (B := B) hr), hkp hg' (fun r e => (hr r e).1) (by omega) hs.2.1, hkp hg' (fun r e => (hr r e).1) (by omega) hs.2.2⟩,
        fun s A hs => ⟨hI.drew s A hs.1, hs.2⟩⟩
      ⟨fun s A B row hs hg' hr => by
        obtain ⟨c, hc, hl, hk⟩ := hs
        exact ⟨c, (hIx c).turn s A B row hc hg' (hnw (B := B) hr), hkp hg' (fun r e => (hr r e).1) (by omega) hl, hkp hg' (fun r e => (hr r e).1) (by omega) hk⟩,
        fun s A hs => by obtain ⟨c, hc, hr⟩ := hs; exact ⟨c, (hIx c).drew s A hc, hr⟩⟩
      ?_ ⟨hI1, hL1, hK1⟩).mono ?_
    · rintro pre x W ⟨hi, hl, hk⟩ hroom hno hlen
      have hlt : w.heap.size + 1 < W.heap.size := (Array.getElem?_eq_some_iff.1 hl).1
      have hy := run_yield (P := P) (args := encs x) hl (by rw [hrec]; exact hps x)
      rw [hrec] at hy
      have hroom' : w.heap.size + 2 + k ≤ W.heap.size := by rw [hsz] at hroom; exact hroom
      have hno0 : noRow 5 (w.heap.size + 2) k W := by rw [hsz] at hno; exact hno
      have hla : (allocs W (oA x)).heap[w.heap.size + 1]? = some (.loop (rec .ready none)) := (allocs_old _ _ _ hlt).trans hl
      have hka : (allocs W (oA x)).heap[w.heap.size]? = some (.deferred (some [])) := (allocs_old _ _ _ (by omega)).trans hk
      have hlta : w.heap.size + 1 < (allocs W (oA x)).heap.size := by rw [allocs_size]; omega
      have hia : I pre (allocs W (oA x)) := hI.allocs _ hi
      have hnoa : noRow 5 (w.heap.size + 2) k (allocs W (oA x)) := fun j c fz h1 h2 h3 => hno0 j c fz h1 h2 ((allocs_old _ _ _ (by omega)).symm.trans h3)
      have hA : ∀ (i : Nat) (o : Obj), (oA x)[i]? = some o → (allocs W (oA x)).heap[W.heap.size + i]? = some o := fun i o => allocs_new (oA x) W i o
      have hKA : Kp W (allocs W (oA x)) := Kp_allocs hKr hKt hKa _ _ (by omega)
      have hKOA : KeepsO (w.heap.size + 2) k W (allocs W (oA x)) := KeepsO.allocs _ W
      refine ⟨fn, _, assign, body, hy, roundIn_of_wpIn hfn (hassign _ x W _ ⟨_, run_beginRound hla (by rw [hrec]), ?_⟩)⟩
      generalize hAe : W.heap.size = A at *
      generalize allocs W (oA x) = Wa at *
      have hl2 : (Wa.putObj (w.heap.size + 1) (.loop { rec .ready none with state := .busy })).heap[w.heap.size + 1]? = some (.loop { rec .ready none with state := .busy }) := World.putObj_heap_same hlta
      have hk2 : (Wa.putObj (w.heap.size + 1) (.loop { rec .ready none with state := .busy })).heap[w.heap.size]? = some (.deferred (some [])) := (World.putObj_heap_other (by omega)).trans hka
      have hw2 : Kp W (Wa.putObj (w.heap.size + 1) (.loop { rec .ready none with state := .busy })) := hKt hKA (hKb _ _ _ _ (by omega) hla rfl rfl)
      have ho2 : ∀ (X : World) (o : Obj), KeepsO (w.heap.size + 2) k X (X.putObj (w.heap.size + 1) o) := fun X o => KeepsO.grown (grownBy_putObj' X _ o) (fun r e => by cases e; exact .inl (by omega))
      have ho3' : KeepsO (w.heap.size + 2) k W (Wa.putObj (w.heap.size + 1) (.loop { rec .ready none with state := .busy })) := hKOA.trans (ho2 Wa _)
      refine wpIn_mono (hbody _ pre x _ A hroom' (fun i o ho => (World.putObj_heap_other (by omega)).trans (hA i o ho)) (hnoa.putObj (by omega) _) (hI.putObj _ hia (by omega) hla rfl) hlen) ?_
      have fin : ∀ (jump : Option Code) (W3 : World), KeepsFrom w.heap.size (Wa.putObj (w.heap.size + 1) (.loop { rec .ready none with state := .busy })) W3 →
          (Instr.endRound (w.heap.size + 1) jump).run P W3 = .ok (.bool jump.isNone) (W3.putObj (w.heap.size + 1) (.loop (rec (if jump.isNone then .ready else .done) jump))) ∧
          W3.heap[w.heap.size + 1]? = some (.loop { rec .ready none with state := .busy }) ∧
          (W3.putObj (w.heap.size + 1) (.loop (rec (if jump.isNone then .ready else .done) jump))).heap[w.heap.size + 1]? = some (.loop (rec (if jump.isNone then .ready else .done) jump)) ∧
          (W3.putObj (w.heap.size + 1) (.loop (rec (if jump.isNone then .ready else .done) jump))).heap[w.heap.size]? = some (.deferred (some [])) := fun jump W3 hk3 => by
        have hl3 := hk3.same _ _ (by omega) hl2 rfl
        have := run_endRound (P := P) jump hl3
        rw [hrec] at this ⊢
        exact ⟨this, by rw [hrec] at hl3; exact hl3, World.putObj_heap_same (Array.getElem?_eq_some_iff.1 hl3).1, (World.putObj_heap_other (by omega)).trans (hk3.same _ _ (Nat.le_refl _) hk2 rfl)⟩
      rw [hsz]
      rintro e a3 W3 hp
      cases e with
      | normal =>
        obtain ⟨hk3, ho3, hkp3, hi3⟩ := hp
        obtain ⟨hr, hl3, hl4, hk4⟩ := fin none W3 hk3
        exact ⟨_, _, hr, .inl ⟨rfl, ⟨hI.putObj _ hi3 (by omega) hl3 rfl, hl4, hk4⟩, (ho3'.trans ho3).trans (ho2 W3 _), hKt (hKt hw2 hkp3) (hKb _ _ _ _ (by omega) hl3 rfl rfl)⟩⟩
      | ret =>
        obtain ⟨hk3, ho3, hi3⟩ := hp
        obtain ⟨hr, hl3, hl4, hk4⟩ := fin (some .ret) W3 hk3
        exact ⟨_, _, hr, .inr ⟨rfl, ⟨.ret, (hIx _).putObj _ hi3 (by omega) hl3 rfl, hl4, hk4⟩, (ho3'.trans ho3).trans (ho2 W3 _)⟩⟩
      | exit id =>
        obtain ⟨hk3, ho3, hi3⟩ := hp
        obtain ⟨hr, hl3, hl4, hk4⟩ := fin (some (.exit id)) W3 hk3
        exact ⟨_, _, hr, .inr ⟨rfl, ⟨.exit id, (hIx _).putObj _ hi3 (by omega) hl3 rfl, hl4, hk4⟩, (ho3'.trans ho3).trans (ho2 W3 _)⟩⟩
      | goto t =>
        obtain ⟨hk3, ho3, hi3⟩ := hp
        obtain ⟨hr, hl3, hl4, hk4⟩ := fin (some (.goto t)) W3 hk3
        exact ⟨_, _, hr, .inr ⟨rfl, ⟨.goto t, (hIx _).putObj _ hi3 (by omega) hl3 rfl, hl4, hk4⟩, (ho3'.trans ho3).trans (ho2 W3 _)⟩⟩
      | panic ch => exact hp.elim
      | outgrown => exact hp.elim
    · rintro e W2 ⟨⟨v, rfl⟩, (⟨hi, hl, hk⟩ | ⟨pre, hSp, c, hi, hl, hk⟩)⟩
      · exact ⟨none, _, by have := run_endLoop (P := P) hl (by rw [hrec]; simp); rw [hrec] at this; exact this, hdone _ _ (Nat.le_refl _) (hI.putObj _ hi (by omega) hl rfl) ((World.putObj_heap_other (by omega)).trans hk)⟩
      · exact ⟨some c, _, by have := run_endLoop (P := P) hl (by rw [hrec]; simp); rw [hrec] at this; exact this, hstop _ c pre _ (Nat.le_refl _) hSp ((hIx c).putObj _ hi (by omega) hl rfl) ((World.putObj_heap_other (by omega)).trans hk)⟩

end Go.Proofs.YticiddcgafhkhaaGreatDoor
