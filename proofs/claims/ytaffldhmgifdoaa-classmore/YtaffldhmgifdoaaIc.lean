/-
  Package class: classes.
-/
import Derived.Test.YtaffldhmgifdoaaIb
namespace Go.Proofs.Ytaffldhmgifdoaa
open Go Go.RowKit Go.Shelf
attribute [local go_sem] Oper.semAt_some
set_option linter.unusedVariables false
set_option linter.unusedSimpArgs false

/-- Numbers of a list in memory. -/
def IsG (B : Nat) (W : World) (p : Option Addr) (l : List Int) : Prop := ∀ (i : Nat) (h : i < l.length), ∃ g o cs, p = some ⟨g, o, none⟩ ∧ g < B ∧ Bk W g 3 cs ∧ cs[o + i]? = some (.int .i64 l[i])
theorem IsG.below {B : Nat} {W W' : World} {p : Option Addr} {l : List Int} (h : IsG B W p l) (hb : Below B W W') : IsG B W' p l := fun i hi => by
  obtain ⟨g, o, cs, e, hg, hk, hc⟩ := h i hi
  exact ⟨g, o, cs, e, hg, (hb.block g hg).trans hk, hc⟩
theorem IsG.mono {B B' : Nat} {W : World} {p : Option Addr} {l : List Int} (h : IsG B W p l) (hb : B ≤ B') : IsG B' W p l := fun i hi => by
  obtain ⟨g, o, cs, e, hg, hc⟩ := h i hi
  exact ⟨g, o, cs, e, Nat.lt_of_lt_of_le hg hb, hc⟩
theorem IsG.keep {B B' : Nat} {W W' : World} {p : Option Addr} {l : List Int} (h : IsG B W p l) (hk : ∀ j cs, Bk W j 3 cs → Bk W' j 3 cs) (hB : B ≤ B') : IsG B' W' p l := fun i hi => by
  obtain ⟨g, o, cs, e, hg, hb, hc⟩ := h i hi
  exact ⟨g, o, cs, e, Nat.lt_of_lt_of_le hg hB, hk g cs hb, hc⟩
theorem IsG.at {B : Nat} {W : World} {p : Option Addr} {l : List Int} (h : IsG B W p l) (i : Nat) (hi : i < l.length) : ∃ g o, p = some ⟨g, o, none⟩ ∧ g < B ∧ W.cell? ⟨g, o + i, none⟩ = some (.int .i64 l[i]) := by
  obtain ⟨g, o, cs, e, hg, hb, hc⟩ := h i hi
  exact ⟨g, o, e, hg, by rw [hb.cell]; exact hc⟩
theorem IsG.nil (B : Nat) (W : World) (p : Option Addr) : IsG B W p [] := fun i hi => absurd hi (Nat.not_lt_zero _)
theorem IsG.size {B B' : Nat} {W W' : World} {p : Option Addr} {l : List Int} (h : IsG B W p l) (hb : Below B W W') (hs : B ≤ B') : IsG B' W' p l := (h.below hb).mono hs
def inCs (l : List Int) : List Value := l.map (fun x => .int .i64 x)
theorem IsG.of_own {W : World} {base : Nat} {v : Value} {l : List Int} (h : W.ownsRow base 3 1 v l.length (inCs l)) : ∃ q c, v = .slice q l.length c ∧ IsG W.heap.size W q l := by
  obtain ⟨q, c, rfl⟩ := row_slice h
  refine ⟨q, c, rfl, fun i hi => ?_⟩
  obtain ⟨m, hm⟩ : ∃ m, l.length = m + 1 := ⟨l.length - 1, by omega⟩
  have hx : (inCs l)[i]? = some (.int .i64 l[i]) := by
    unfold inCs
    rw [List.getElem?_map, List.getElem?_eq_getElem hi]
    rfl
  rcases h.2 with ⟨_, h0⟩ | ⟨g, cp, cur, he, _, hg, _, _, _, hxs⟩
  · omega
  · obtain ⟨rfl, _⟩ : q = some ⟨g, 0, none⟩ ∧ c = cp := by simpa using he
    refine ⟨g, 0, cur, rfl, (Array.getElem?_eq_some_iff.1 hg).1, hg, ?_⟩
    rw [Nat.zero_add]
    rw [← hxs, List.getElem?_take] at hx
    split at hx
    · simpa using hx
    · cases hx
theorem infoIn : (Try.prog.info? 3).map (fun i => (i.zero, i.size, i.bytes)) = some (some (.int .i64 0), 1, 8) := by kernel_rfl
theorem in_cells (W : World) (x : Int) (ty : TypeId) : ∀ (j : Nat) (u : Value), [Value.int .i64 x][j]? = some u → (W.alloc (.cells #[.int .i64 x] ty)).cell? ((⟨W.heap.size, 0, none⟩ : Addr).add j) = some u := by
  intro j u h
  have hadd : (⟨W.heap.size, 0, none⟩ : Addr).add j = ⟨W.heap.size, j, none⟩ := by unfold Addr.add; split <;> simp_all
  rw [hadd, Bk.cell (Bk.new W ty _)]
  simpa using h
theorem inCs_snoc (l : List Int) (x : Int) : inCs (l ++ [x]) = inCs l ++ [.int .i64 x] := by simp [inCs]
/-- What a call that makes a list of numbers tells. -/
def InP (w : World) (l : List Int) (e : Ending) (w' : World) : Prop := ∃ p c, e = .returned (.slice p l.length c) ∧ IsG w'.heap.size w' p l ∧ Below w.heap.size w w'
/-- Classes of a type of so many bytes. -/
def eiM (l : List Mb) (i : Nat) : Int := if l.any (hereM (8 * (i : Int))) then 1 else 0
def clsM (z : Int) (l : List Mb) : List Int := if decide (z > 16) || l.any askM then [2] else (List.range (nEi z.toNat)).map (eiM l)
/-- What a round hands on. -/
def ClI (w : World) (L : Nat) (f : Nat → Int) (pre : List Nat) (W : World) : Prop :=
  (∃ v, Bk W L 47 #[v] ∧ W.ownsRow w.heap.size 3 1 v pre.length (inCs (pre.map f))) ∧ Below w.heap.size w W
theorem ClI.abides (w : World) (L : Nat) (f : Nat → Int) (B C : Nat) (h1 : L < B) (h2 : w.heap.size < B) : AbidesO B C 0 (ClI w L f) := by
  refine ⟨fun pre X Y row hs hg hr => ?_, fun pre X hs => ?_⟩
  · obtain ⟨⟨v, a, b⟩, c⟩ := hs
    have hr' : ∀ r, row = some r → B ≤ r := fun r e => (hr r e).1
    refine ⟨⟨v, a.turn hg (fun r e => by have := hr' r e; omega), ownsRow_turnS b hg (fun r e cur hc => ?_)⟩, c.grown hg c.size (fun r e => by have := hr' r e; omega)⟩
    rcases (hr r e).2 with h | ⟨o, ho, hcs⟩
    · omega
    · rw [hc] at ho; cases ho; cases hcs
  · obtain ⟨⟨v, a, b⟩, c⟩ := hs
    exact ⟨⟨v, a, b⟩, c.drew⟩
theorem one_row {W : World} {x : Int} : IsG (W.heap.size + 1) (W.alloc (.cells #[.int .i64 x] 3)) (some ⟨W.heap.size, 0, none⟩) [x] := fun i hi => by
  obtain rfl : i = 0 := by simp at hi; omega
  exact ⟨W.heap.size, 0, _, rfl, by omega, Bk.new W _ _, rfl⟩
set_option maxRecDepth 100000 in
set_option maxHeartbeats 20000000 in
theorem classes_mem (z : Int) (l : List Mb) (q : Option Addr) (c : Nat) (w : World) (hl : l.length ≤ 1000000) (hs : SpG w.heap.size w q l) (hn : ∀ m ∈ l, NmOk m) (hg : (decide (z > 16) || l.any askM) = true) :
    Calls Try.prog 103 #[.int .i64 z, .slice q l.length c] w (InP w [2]) := by
  have HX := veil (new1_below w (.cells #[.slice q l.length c] 30))
  have HC : Hid (∀ W, Below w.heap.size w W → Calls Try.prog 120 #[.slice q l.length c, .func (.func 119) #[] #[]] W fun e w' => e = .returned (.bool (l.any askM)) ∧ Below W.heap.size W w') := fun W h =>
    contains_ask askM l q c W hl ((hs.below h).mono h.size) (fun i hi W' _ => askew_any _ (hn _ (List.getElem_mem hi)) W')
  have HB := veil (new1_below w)
  have HO : Hid (∀ W, Below w.heap.size w W → InP w [2] (.returned (.slice (some ⟨W.heap.size, 0, none⟩) 1 1)) (W.alloc (.cells #[.int .i64 2] 3))) := fun W h =>
    ⟨_, _, rfl, by have := one_row (W := W) (x := 2); rw [World.size_alloc]; exact this, h.alloc h.size _⟩
  clear hs hn
  refine (callsIn_wide (n := 4)).1 ?_
  refine callsIn_of_wp_marks Try.func103 rfl trivial ?_ rfl
  simp only [Try.ntmps103, List.size_toArray, List.length_cons, List.length_nil, Nat.reduceAdd, Nat.reduceSub, Array.replicate_succ, Array.replicate_zero, List.push_toArray, List.append_toArray, List.nil_append, List.cons_append]
  refine wpIn_wide.2 ?_
  by_cases hz : z > 16
  · clear hg HC
    go_wp2_with fail
    refine ⟨_, results_tmp rfl _ _ _, ?_⟩
    have := unveil HO _ (unveil HX)
    rw [World.size_alloc] at this
    exact this
  · have ha : l.any askM = true := by simpa [hz] using hg
    rw [ha] at HC
    clear hg ha
    go_wp2_with (go_at_call 120; refine (unveil HC _ (unveil HX)).mono ?_; rintro e w' ⟨rfl, hw'⟩; have HW := veil ((unveil HX).trans (hw'.mono (unveil HX).size)))
    refine ⟨_, results_tmp rfl _ _ _, ?_⟩
    exact unveil HO _ (unveil HW)
end Go.Proofs.Ytaffldhmgifdoaa
