/-
  Package image: follow.
-/
import Derived.Test.YtkiebejidpebdaaOj
import Derived.Test.YtkiebejidpebdaaZ8
namespace Go.Proofs.Ytkiebejidpebdaa
open Go Go.RowKit Go.Shelf
set_option linter.unusedVariables false
set_option linter.unusedSimpArgs false

/-- Nodes alone are changed. -/
structure NG (N0 : Nat) (w w' : World) : Prop where
  os : w'.os = w.os
  tape : w'.tape = w.tape
  output : w'.output = w.output
  size : w.heap.size ≤ w'.heap.size
  block : ∀ i, i < w.heap.size → (i < N0 ∨ ∀ cs, w.heap[i]? ≠ some (.cells cs 117 (0, 0))) → w'.heap[i]? = w.heap[i]?
theorem NG.refl (N0 : Nat) (w : World) : NG N0 w w := ⟨rfl, rfl, rfl, Nat.le_refl _, fun _ _ _ => rfl⟩
theorem NG.trans {N0 : Nat} {a b c : World} (h : NG N0 a b) (k : NG N0 b c) : NG N0 a c :=
  ⟨k.os.trans h.os, k.tape.trans h.tape, k.output.trans h.output, Nat.le_trans h.size k.size, fun i hi hn => (k.block i (Nat.lt_of_lt_of_le hi h.size) (hn.imp id (fun hc cs => by rw [h.block i hi (.inr hc)]; exact hc cs))).trans (h.block i hi hn)⟩
theorem NG.of_below {N0 : Nat} {w w' : World} (h : Below w.heap.size w w') : NG N0 w w' := ⟨h.os, h.tape, h.output, h.size, fun i hi _ => h.block i hi⟩
theorem NG.of_grown {N0 g : Nat} {w w' : World} {cs : Array Value} (hg : w.grownBy w' (some g)) (hN : N0 ≤ g) (hb : Bk w g 117 cs) : NG N0 w w' :=
  ⟨hg.os, hg.tape, hg.output, hg.size, fun i hi hn => hg.block i hi (fun e => by
    cases e
    rcases hn with h | h
    · omega
    · exact h cs hb)⟩
theorem NG.below {N0 : Nat} {w w' : World} (h : NG N0 w w') (hN : N0 ≤ w.heap.size) : Below N0 w w' := ⟨h.os, h.tape, h.output, h.size, fun i hi => h.block i (Nat.lt_of_lt_of_le hi hN) (.inl hi)⟩
theorem NG.bk {N0 b : Nat} {w w' : World} {T : TypeId} {cs : Array Value} (h : NG N0 w w') (hb : Bk w b T cs) (hT : T ≠ 117) : Bk w' b T cs :=
  (h.block b hb.lt (.inr fun cs' e => by unfold Bk at hb; rw [hb] at e; simp at e; exact hT e.2)).trans hb
theorem NG.row {N0 : Nat} {w a b : World} {row : Option Nat} (h : NG N0 w a) (hg : a.grownBy b row) (hr : ∀ r, row = some r → w.heap.size ≤ r) : NG N0 w b :=
  ⟨hg.os.trans h.os, hg.tape.trans h.tape, hg.output.trans h.output, Nat.le_trans h.size hg.size, fun i hi hn => (hg.block i (Nat.lt_of_lt_of_le hi h.size) (fun e => by have := hr i e.symm; omega)).trans (h.block i hi hn)⟩
/-- A path, as it lies. -/
def PaG (B : Nat) (W : World) (p : Option Addr) (l : List Int) : Prop := ∀ (i : Nat) (h : i < l.length), ∃ g o, p = some ⟨g, o, none⟩ ∧ g < B ∧ W.cell? ⟨g, o + i, none⟩ = some (.int .i64 l[i])
theorem PaG.below {B : Nat} {W W' : World} {p : Option Addr} {l : List Int} (h : PaG B W p l) (hb : Below B W W') : PaG B W' p l := fun i hi => by
  obtain ⟨g, o, e, hg, hc⟩ := h i hi
  exact ⟨g, o, e, hg, (hb.cell (p := ⟨g, o + i, none⟩) hg).trans hc⟩
theorem PaG.mono {B B' : Nat} {W : World} {p : Option Addr} {l : List Int} (h : PaG B W p l) (hb : B ≤ B') : PaG B' W p l := fun i hi => by
  obtain ⟨g, o, e, hg, hc⟩ := h i hi
  exact ⟨g, o, e, Nat.lt_of_lt_of_le hg hb, hc⟩
/-- Stops in memory. -/
def stC (q : Nat × Nat × Int × Int) : List Value := [.pointer (some ⟨q.1, q.2.1 * 10, none⟩), .int .i64 q.2.2.1, .int .i64 q.2.2.2]
def stCs (l : List (Nat × Nat × Int × Int)) : List Value := l.flatMap stC
theorem stCs_snoc (l : List (Nat × Nat × Int × Int)) (x : Nat × Nat × Int × Int) : stCs (l ++ [x]) = stCs l ++ stC x := by simp [stCs]
theorem infoSt : (Try.prog.info? 121).map (fun i => (i.zero, i.size, i.bytes)) = some (some (.agg #[.pointer none, .int .i64 0, .int .i64 0]), 3, 24) := by kernel_rfl
theorem st_cells (W : World) (x : Nat × Nat × Int × Int) (ty : TypeId) : ∀ (j : Nat) (u : Value), (stC x)[j]? = some u → (W.alloc (.cells (stC x).toArray ty)).cell? ((⟨W.heap.size, 0, none⟩ : Addr).add j) = some u := by
  intro j u h
  have hadd : (⟨W.heap.size, 0, none⟩ : Addr).add j = ⟨W.heap.size, j, none⟩ := by unfold Addr.add; split <;> simp_all
  rw [hadd, Bk.cell (Bk.new W ty _)]
  simpa using h
/-- Stops in memory are those of the list. -/
def StL (M : Nat → Option (List (ShT × Int × Int))) (L : List (Nat × Nat × Int × Int)) (S : List ((ShT × Int × Int) × Int × Int)) : Prop :=
  L.length = S.length ∧ ∀ (k : Nat) q s, L[k]? = some q → S[k]? = some s → q.2.2 = s.2 ∧ ∃ l, M q.1 = some l ∧ l[q.2.1]? = some s.1
theorem StL.nil (M : Nat → Option (List (ShT × Int × Int))) : StL M [] [] := ⟨rfl, fun k q s h => by simp at h⟩
theorem StL.ex {M M' : Nat → Option (List (ShT × Int × Int))} {L : List (Nat × Nat × Int × Int)} {S : List ((ShT × Int × Int) × Int × Int)} (h : StL M L S) (he : ExM M M') : StL M' L S :=
  ⟨h.1, fun k q s hq hs => by
    obtain ⟨h1, l, h2, h3⟩ := h.2 k q s hq hs
    exact ⟨h1, l, he _ _ h2, h3⟩⟩
theorem StL.snoc {M : Nat → Option (List (ShT × Int × Int))} {L : List (Nat × Nat × Int × Int)} {S : List ((ShT × Int × Int) × Int × Int)} (h : StL M L S) {g i : Nat} {l : List (ShT × Int × Int)} {x : ShT × Int × Int} (hg : M g = some l) (hi : l[i]? = some x) (fr s : Int) :
    StL M (L ++ [(g, i, fr, s)]) (S ++ [(x, fr, s)]) :=
  ⟨by simp [h.1], fun k q s' hq hs => by
    rcases Nat.lt_trichotomy k L.length with hk | hk | hk
    · rw [List.getElem?_append_left hk] at hq
      rw [List.getElem?_append_left (by rw [← h.1]; exact hk)] at hs
      exact h.2 k q s' hq hs
    · subst hk
      simp at hq
      rw [h.1] at hs
      simp at hs
      subst hq hs
      exact ⟨rfl, l, hg, hi⟩
    · rw [List.getElem?_eq_none (by simp; omega)] at hq
      cases hq⟩
/-- What follow keeps. -/
structure FlS (N0 : Nat) (w wr : World) (M : Nat → Option (List (ShT × Int × Int))) (gh ih : Nat) (x : ShT × Int × Int) (v : Value) (L : List (Nat × Nat × Int × Int)) (S : List ((ShT × Int × Int) × Int × Int)) : Prop where
  ni : NI N0 M wr
  he : ∃ l, M gh = some l ∧ l[ih]? = some x
  r : wr.ownsRow w.heap.size 121 3 v L.length (stCs L)
  rel : StL M L S
  ng : NG N0 w wr
  z : Bk wr w.heap.size 42 #[.int .i64 0, .int .i64 0, .int .i64 0]
  mx : ∀ h, wr.heap.size ≤ h → M h = none
theorem FlS.below {N0 : Nat} {w wr w' : World} {M : Nat → Option (List (ShT × Int × Int))} {gh ih : Nat} {x : ShT × Int × Int} {v : Value} {L : List (Nat × Nat × Int × Int)} {S : List ((ShT × Int × Int) × Int × Int)} (h : FlS N0 w wr M gh ih x v L S) (hb : Below wr.heap.size wr w') : FlS N0 w w' M gh ih x v L S :=
  ⟨h.ni.below hb, h.he, ownsRow_belowS h.r hb, h.rel, h.ng.trans (.of_below hb), h.z.below hb, fun g hg => h.mx g (Nat.le_trans hb.size hg)⟩
/-- A part was asked for. -/
theorem FlS.part {N0 : Nat} {w wr w' : World} {M : Nat → Option (List (ShT × Int × Int))} {gh ih j : Nat} {x : ShT × Int × Int} {v : Value} {L : List (Nat × Nat × Int × Int)} {S : List ((ShT × Int × Int) × Int × Int)} {b : Int} {e : Ending} (h : FlS N0 w wr M gh ih x v L S) (hp : PtP N0 M wr gh x j b e w') :
    ∃ M' g2, e = .returned (.tuple #[.pointer (some ⟨g2, j * 10, none⟩), .int .i64 b]) ∧ ExM M M' ∧ FlS N0 w w' M' gh ih x v L S ∧ M' g2 = some (prtM x) := by
  obtain ⟨M', g2, he, hex, hn, hM, hg, hx⟩ := hp
  obtain ⟨l, hl, hi⟩ := h.he
  obtain ⟨hN, cs, hk, _⟩ := h.ni.nd gh l hl
  have hng : NG N0 wr w' := .of_grown hg hN hk
  refine ⟨M', g2, he, hex, ⟨hn, ⟨l, hex _ _ hl, hi⟩, ownsRow_turnS h.r hg (fun r e cur hc => ?_), h.rel.ex hex, h.ng.trans hng, hng.bk h.z (by decide), hx⟩, hM⟩
  cases e
  unfold Bk at hk
  rw [hk] at hc
  simp at hc
/-- One stop more. -/
theorem FlS.grow {N0 : Nat} {w wr wa w' : World} {M : Nat → Option (List (ShT × Int × Int))} {gh ih : Nat} {x : ShT × Int × Int} {v v' : Value} {L : List (Nat × Nat × Int × Int)} {S : List ((ShT × Int × Int) × Int × Int)} (h : FlS N0 w wr M gh ih x v L S) (fr s : Int) {g2 j : Nat} {l2 : List (ShT × Int × Int)} {y : ShT × Int × Int}
    (hM : M g2 = some l2) (hj : l2[j]? = some y) (ha : Below wr.heap.size wr wa) (hg : wa.grownBy w' v.ownBlock) (hr : w'.ownsRow w.heap.size 121 3 v' (L.length + 1) (stCs L ++ stC (gh, ih, fr, s))) :
    FlS N0 w w' M g2 j y v' (L ++ [(gh, ih, fr, s)]) (S ++ [(x, fr, s)]) := by
  have h1 := h.below ha
  obtain ⟨l, hl, hi⟩ := h.he
  refine ⟨⟨fun g l hgl => ?_⟩, ⟨l2, hM, hj⟩, by rw [stCs_snoc, List.length_append]; exact hr, h.rel.snoc hl hi fr s, h1.ng.row hg (fun r e => (row_turnS h1.r r e).1), Bk.rowG h1.z h1.r hg (by decide), fun g hgg => h1.mx g (Nat.le_trans hg.size hgg)⟩
  obtain ⟨h0, cs, hk, hn⟩ := h1.ni.nd g l hgl
  exact ⟨h0, cs, Bk.rowG hk h1.r hg (by decide), hn⟩
/-- A step that leads on: element, member. -/
theorem elem_step {N0 : Nat} {M : Nat → Option (List (ShT × Int × Int))} {w : World} {g i d j : Nat} {s b : Int} {l : List (ShT × Int × Int)} {x y : ShT × Int × Int} (hn : NI N0 M w) (hg : M g = some l) (hi : l[i]? = some x) (hN : N0 ≤ w.heap.size) (hin : x.1.In N0 w) (hm : ∀ h, w.heap.size ≤ h → M h = none)
    (hd : d ≤ 6) (hx : GdN d x) (h3 : (x.1.sh == 3) = true) (hs : stpM x s = some (j, y, b)) : Calls Try.prog 74 #[.pointer (some ⟨g, i * 10, none⟩), .int .i64 s] w (PtP N0 M w g x j b) := by
  obtain ⟨z, hof, h0, h1, hnn, hb0, hb1, hq, rfl, rfl⟩ := stp_arr_yes hd hx h3 hs
  exact element_yes N0 M w g i s l x z hn hg hi hN hin h3 hof h0 h1 hnn hb0 hb1 hq hm
theorem memb_step {N0 : Nat} {M : Nat → Option (List (ShT × Int × Int))} {w : World} {g i d j : Nat} {s b : Int} {l : List (ShT × Int × Int)} {x y : ShT × Int × Int} (hn : NI N0 M w) (hg : M g = some l) (hi : l[i]? = some x) (hN : N0 ≤ w.heap.size) (hin : x.1.In N0 w) (hm : ∀ h, w.heap.size ≤ h → M h = none)
    (hd : d ≤ 6) (hx : GdN d x) (hh : (x.1.sh == 4 || x.1.sh == 5) = true) (hs : stpM x s = some (j, y, b)) : Calls Try.prog 75 #[.pointer (some ⟨g, i * 10, none⟩), .int .i64 s] w (PtP N0 M w g x j b) := by
  obtain ⟨hk, rfl, hb, rfl, hy, hme, hfl, h3⟩ := stp_str_yes hd hx hh hs
  exact member_yes N0 M w g i j l x y hn hg hi hN hin h3 hme hfl hk hb hm hy
/-- What follow tells. -/
def FoP (N0 : Nat) (M : Nat → Option (List (ShT × Int × Int))) (w : World) (x : ShT × Int × Int) (path : List Int) (e : Ending) (w' : World) : Prop :=
  ∃ M' v, ExM M M' ∧ NI N0 M' w' ∧ NG N0 w w' ∧ (∀ h, w'.heap.size ≤ h → M' h = none) ∧
    ((((folM x 0 path).1.length = path.length ∧ (nuM (folM x 0 path).2.1.1 (folM x 0 path).2.1.2.2 (folM x 0 path).2.2).2 = true) ∧
        (∃ L, w'.ownsRow w.heap.size 121 3 v L.length (stCs L) ∧ StL M' L (folM x 0 path).1) ∧
        e = .returned (.tuple #[v, .agg #[.int .i64 (nuM (folM x 0 path).2.1.1 (folM x 0 path).2.1.2.2 (folM x 0 path).2.2).1.1, .int .i64 (nuM (folM x 0 path).2.1.1 (folM x 0 path).2.1.2.2 (folM x 0 path).2.2).1.2.1, .int .i64 (nuM (folM x 0 path).2.1.1 (folM x 0 path).2.1.2.2 (folM x 0 path).2.2).1.2.2], .bool true])) ∨
     (¬ ((folM x 0 path).1.length = path.length ∧ (nuM (folM x 0 path).2.1.1 (folM x 0 path).2.1.2.2 (folM x 0 path).2.2).2 = true) ∧ ∃ a b c, e = .returned (.tuple #[v, .agg #[.int .i64 a, .int .i64 b, .int .i64 c], .bool false])))
theorem FoP.no {N0 : Nat} {M M' : Nat → Option (List (ShT × Int × Int))} {w w' : World} {x : ShT × Int × Int} {path : List Int} (hc : ¬ ((folM x 0 path).1.length = path.length ∧ (nuM (folM x 0 path).2.1.1 (folM x 0 path).2.1.2.2 (folM x 0 path).2.2).2 = true)) (he : ExM M M') (hn : NI N0 M' w') (hg : NG N0 w w') (hd : ∀ h, w'.heap.size ≤ h → M' h = none) (v : Value) (a b c : Int) :
    FoP N0 M w x path (.returned (.tuple #[v, .agg #[.int .i64 a, .int .i64 b, .int .i64 c], .bool false])) w' := ⟨M', v, he, hn, hg, hd, .inr ⟨hc, a, b, c, rfl⟩⟩
theorem NI.other {N0 : Nat} {M : Nat → Option (List (ShT × Int × Int))} {W : World} {b : Nat} {T : TypeId} {cs : Array Value} (h : NI N0 M W) (hb : Bk W b T cs) (hT : T ≠ 117) (i : Nat) (v : Value) : NI N0 M (W.setCell ⟨b, i, none⟩ v) :=
  ⟨fun g l hg => by
    obtain ⟨h0, cs', hk, hn⟩ := h.nd g l hg
    refine ⟨h0, cs', hk.other _ _ (fun e => ?_), hn⟩
    subst e
    unfold Bk at hk hb
    rw [hk] at hb
    simp at hb
    exact hT hb.2.symm⟩
/-- The answer's box is written. -/
theorem FlS.fin {N0 : Nat} {w wr : World} {M : Nat → Option (List (ShT × Int × Int))} {gh ih : Nat} {x : ShT × Int × Int} {v : Value} {L : List (Nat × Nat × Int × Int)} {S : List ((ShT × Int × Int) × Int × Int)} (h : FlS N0 w wr M gh ih x v L S) (a b c : Value) :
    ∀ W, W = ((wr.setCell ⟨w.heap.size, 0, none⟩ a).setCell ⟨w.heap.size, 1, none⟩ b).setCell ⟨w.heap.size, 2, none⟩ c → NI N0 M W ∧ NG N0 w W ∧ Bk W w.heap.size 42 #[a, b, c] ∧ (∀ h, W.heap.size ≤ h → M h = none) ∧ W.ownsRow w.heap.size 121 3 v L.length (stCs L) := fun W hW => by
  subst hW
  have z1 : Bk (wr.setCell ⟨w.heap.size, 0, none⟩ a) w.heap.size 42 #[a, .int .i64 0, .int .i64 0] := h.z.set 0 a
  have z2 : Bk ((wr.setCell ⟨w.heap.size, 0, none⟩ a).setCell ⟨w.heap.size, 1, none⟩ b) w.heap.size 42 #[a, b, .int .i64 0] := z1.set 1 b
  refine ⟨((h.ni.other h.z (by decide) 0 a).other z1 (by decide) 1 b).other z2 (by decide) 2 c, ((h.ng.row (gr_set _ _ _ _) (fun r e => by cases e; exact Nat.le_refl _)).row (gr_set _ _ _ _) (fun r e => by cases e; exact Nat.le_refl _)).row (gr_set _ _ _ _) (fun r e => by cases e; exact Nat.le_refl _), z2.set 2 c, fun g hg => h.mx g (by simpa using hg),
    ownsRow_setS (ownsRow_setS (ownsRow_setS h.r h.z (by decide) a) z1 (by decide) b) z2 (by decide) c⟩
theorem res_sst {f : Func} {k i j : Nat} {tmps : Array Value} {w : World} {R : Nat} {cs : Array Value} (hr : f.results = #[.tmp i, .cell k 42, .tmp j]) (hp : tmps.getD k undef = .pointer (some ⟨R, 0, none⟩)) (hg : w.heap[R]? = some (.cells cs 42 (0, 0))) (hz : cs.size = 3) :
    (results f tmps).run Try.prog w = .ok (.tuple #[tmps.getD i undef, .agg cs, tmps.getD j undef]) w := by
  have hi : (Try.prog.info? 42).map (·.size) = some cs.size := by rw [hz]; kernel_rfl
  have hp' : tmps[k]?.getD undef = .pointer (some ⟨R, 0, none⟩) := by simpa using hp
  simp [results, hr, hp', asAddr, run_loadVar_row w R 42 42 cs (0, 0) _ hg Try.underlying42 rfl hi]
set_option maxRecDepth 100000 in
set_option maxHeartbeats 20000000 in
theorem follow_any (N0 : Nat) (M : Nat → Option (List (ShT × Int × Int))) (w : World) (g i : Nat) (l : List (ShT × Int × Int)) (x : ShT × Int × Int) (p : Option Addr) (cap : Nat) (path : List Int) (hn : NI N0 M w) (hg : M g = some l) (hi : l[i]? = some x) (hN : N0 ≤ w.heap.size) (hd : ∀ h, w.heap.size ≤ h → M h = none)
    (hin : x.1.In N0 w) (hx : GdN 6 x) (hp : PaG N0 w p path) (hpl : path.length ≤ maxLen) :
    Calls Try.prog 55 #[.pointer (some ⟨g, i * 10, none⟩), .slice p path.length cap] w (FoP N0 M w x path) := by
  have HS0 : Hid (∀ o, o = .cells #[.int .i64 0, .int .i64 0, .int .i64 0] 42 → FlS N0 w (w.alloc o) M g i x (.slice none 0 0) [] []) := fun o ho => by
    subst ho
    exact ⟨hn.below ((Below.refl _ w).alloc (Nat.le_refl _) _), ⟨l, hg, hi⟩, World.ownsRow_nil _ _ _ _, StL.nil M, .of_below ((Below.refl _ w).alloc (Nat.le_refl _) _), Bk.new w _ _, fun h hh => hd h (by rw [World.size_alloc] at hh; omega)⟩
  have HIN := veil hin
  have HX := veil hx
  have HP := veil hp
  have HNN := veil hN
  clear hn hg hi hd hin hx hp
  unfold maxLen at hpl
  obtain ⟨PO, hPO⟩ : ∃ PO, FoP N0 M w x path = PO := ⟨_, rfl⟩
  rw [hPO]
  have HPO := veil hPO
  clear hPO
  go_enter Try.func55, Try.ntmps55
  go_wp2
  have HS1 := veil (unveil HS0 _ rfl)
  have hsz : w.heap.size < (w.alloc (.cells #[.int .i64 0, .int .i64 0, .int .i64 0] 42)).heap.size := by simp
  generalize (w.alloc (.cells #[.int .i64 0, .int .i64 0, .int .i64 0] 42)) = W0 at HS1 hsz ⊢
  go_step3
  go_wp2
  go_step3
  go_wp2
  go_loopg [7, 8, 9, 19] path.length (fun gk vv hh ff i wr => ∃ (k : Nat) (M1 : Nat → Option (List (ShT × Int × Int))) (gh ih : Nat) (xk : ShT × Int × Int) (q : Option Addr) (c : Nat) (L : List (Nat × Nat × Int × Int)) (S : List ((ShT × Int × Int) × Int × Int)) (frk : Int) (d : Nat),
    gk = path.length - k ∧ i = .int .i64 k ∧ hh = .pointer (some ⟨gh, ih * 10, none⟩) ∧ vv = .slice q k c ∧ ff = .int .i64 frk ∧ k ≤ path.length ∧ Hid (FlS N0 w wr M1 gh ih xk (.slice q k c) L S) ∧ Hid (L.length = k) ∧ Hid (ExM M M1) ∧ Hid (GdN d xk ∧ d + k = 6) ∧ Hid (xk.1.In N0 w) ∧
    Hid (folM x 0 path = (S ++ (folM xk frk (path.drop k)).1, (folM xk frk (path.drop k)).2)) ∧ 0 ≤ frk ∧ Hid (frk + xk.2.2 ≤ x.2.2))
  case atStart => exact ⟨0, M, g, i, x, none, 0, [], [], 0, 6, rfl, rfl, rfl, rfl, rfl, Nat.zero_le _, HS1, rfl, fun _ _ h => h, ⟨unveil HX, rfl⟩, HIN, by rw [List.drop_zero]; rfl, Int.le_refl _, by show (0 : Int) + x.2.2 ≤ x.2.2; omega⟩
  case round =>
    obtain ⟨k, M1, gh, ih, xk, q, c, L, S, frk, d, rfl, rfl, rfl, rfl, rfl, hk, hS, hLk, hE, hG, hI, hF, hf0, hfx⟩ := hrel
    have hGg := (unveil hG).1
    have hd6 : d ≤ 6 := by have := (unveil hG).2; omega
    obtain ⟨lk, hlk, hik⟩ := (unveil hS).he
    obtain ⟨pv, hnd, _, _⟩ := (unveil hS).ni.at hlk hik
    obtain ⟨⟨y0, y1, y2, y3, y4, y5, y6⟩, c7, c8, c9⟩ := hnd.ten
    have hlt := hnd.lt
    have hSk : Hid (S.length = k) := by rw [Hid, ← (unveil hS).rel.1, unveil hLk]
    have hNw : N0 ≤ wr.heap.size := Nat.le_trans (unveil HNN) (unveil hS).ng.size
    have hIw : Hid (xk.1.In N0 wr) := (unveil hI).below ((unveil hS).ng.below (unveil HNN))
    have zz := (unveil hS).z
    have z0 := zz.cell 0
    have z1 := zz.cell 1
    have z2 := zz.cell 2
    have f0 := zz.frozen 0
    have f1 := zz.frozen 1
    have f2 := zz.frozen 2
    have hzl := zz.lt
    simp only [List.getElem?_toArray, List.getElem?_cons_zero, List.getElem?_cons_succ] at z0 z1 z2
    have HNU := veil (number_any gh (ih * 10) xk.1 xk.2.1 xk.2.2 frk pv wr hnd)
    clear zz hnd
    by_cases hkl : k < path.length
    · obtain ⟨gp, op, rfl, hgp, hcp⟩ := (unveil HP).below ((unveil hS).ng.below (unveil HNN)) k hkl
      have hgp2 : gp < wr.heap.size := Nat.lt_of_lt_of_le hgp hNw
      have hdr : path.drop k = path[k] :: path.drop (k + 1) := List.drop_eq_getElem_cons hkl
      have hF' := unveil hF
      rw [hdr] at hF'
      clear hdr
      generalize path[k] = s at *
      have hki : (k : Int) < (path.length : Int) := by omega
      cases hst : stpM xk s with
      | none =>
        have HNO : Hid (∀ W, W = ((wr.setCell ⟨w.heap.size, 0, none⟩ (.int .i64 0)).setCell ⟨w.heap.size, 1, none⟩ (.int .i64 0)).setCell ⟨w.heap.size, 2, none⟩ (.int .i64 0) → PO (.returned (.tuple #[.slice none 0 0, .agg #[.int .i64 0, .int .i64 0, .int .i64 0], .bool false])) W ∧ Bk W w.heap.size 42 #[.int .i64 0, .int .i64 0, .int .i64 0]) := fun W hW => by
          obtain ⟨a1, a2, a3, a4, _⟩ := (unveil hS).fin (.int .i64 0) (.int .i64 0) (.int .i64 0) W hW
          refine ⟨?_, a3⟩
          rw [← unveil HPO]
          refine FoP.no (fun hcc => ?_) (unveil hE) a1 a2 a4 _ _ _ _
          have h1 := hcc.1
          rw [hF', fol_no hst] at h1
          simp only [List.append_nil] at h1
          have := unveil hSk
          omega
        have HST := veil hst
        have HG := veil hGg
        clear hst hF' hGg
        cases h3 : xk.1.sh == 3
        · cases hh : xk.1.sh == 4
          · cases h5 : xk.1.sh == 5
            · go_wp2_with fail
              rw [Exit.noGoto_ret]
              exact bodyPost_ret (res_sst (f := Try.f55) (i := 4) (j := 6) rfl rfl (unveil HNO _ rfl).2 rfl) rfl (unveil HNO _ rfl).1
            · have HEL : Hid (Calls Try.prog 75 #[.pointer (some ⟨gh, ih * 10, none⟩), .int .i64 s] wr fun e w' => e = .returned (.tuple #[.pointer none, .int .i64 0]) ∧ w' = wr) := member_no N0 M1 wr gh ih s lk xk (unveil hS).ni hlk hik hNw (unveil hIw) (stp_str_no hd6 (unveil HG) (by rw [hh, h5]; rfl) (unveil HST))
              go_wp2_with (go_at_call 75; refine (unveil HEL).mono ?_; rintro e w' ⟨rfl, hw'⟩; obtain rfl := hw'.symm)
              rw [Exit.noGoto_ret]
              exact bodyPost_ret (res_sst (f := Try.f55) (i := 4) (j := 6) rfl rfl (unveil HNO _ rfl).2 rfl) rfl (unveil HNO _ rfl).1
          · have HEL : Hid (Calls Try.prog 75 #[.pointer (some ⟨gh, ih * 10, none⟩), .int .i64 s] wr fun e w' => e = .returned (.tuple #[.pointer none, .int .i64 0]) ∧ w' = wr) := member_no N0 M1 wr gh ih s lk xk (unveil hS).ni hlk hik hNw (unveil hIw) (stp_str_no hd6 (unveil HG) (by rw [hh]; rfl) (unveil HST))
            go_wp2_with (go_at_call 75; refine (unveil HEL).mono ?_; rintro e w' ⟨rfl, hw'⟩; obtain rfl := hw'.symm)
            rw [Exit.noGoto_ret]
            exact bodyPost_ret (res_sst (f := Try.f55) (i := 4) (j := 6) rfl rfl (unveil HNO _ rfl).2 rfl) rfl (unveil HNO _ rfl).1
        · have HEL : Hid (Calls Try.prog 74 #[.pointer (some ⟨gh, ih * 10, none⟩), .int .i64 s] wr fun e w' => e = .returned (.tuple #[.pointer none, .int .i64 0]) ∧ w' = wr) := element_no N0 M1 wr gh ih s lk xk (unveil hS).ni hlk hik (stp_arr_no hd6 (unveil HG) h3 (unveil HST))
          go_wp2_with (go_at_call 74; refine (unveil HEL).mono ?_; rintro e w' ⟨rfl, hw'⟩; obtain rfl := hw'.symm)
          rw [Exit.noGoto_ret]
          exact bodyPost_ret (res_sst (f := Try.f55) (i := 4) (j := 6) rfl rfl (unveil HNO _ rfl).2 rfl) rfl (unveil HNO _ rfl).1
      | some st =>
        obtain ⟨j, y, b⟩ := st
        obtain ⟨d', rfl, hgd, hjy, hpt, hb0, hbb⟩ := hGg.step hd6 hst
        have hkd : k ≤ 5 := by have := (unveil hG).2; omega
        have hLL : Hid (L.length ≤ 5) := by rw [Hid, unveil hLk]; exact hkd
        have hxb := (unveil HX).bits.2
        have hyb := hgd.bits.1
        have hfb0 : 0 ≤ frk + b := by omega
        have hfb1 : frk + b ≤ 524288 := by have := unveil hfx; omega
        have HFX : Hid (frk + b + y.2.2 ≤ x.2.2) := by have := unveil hfx; rw [Hid]; omega
        have HYI : Hid (y.1.In N0 w) := parts_in (unveil hI) hpt
        have HGD : Hid (GdN d' y ∧ d' + (k + 1) = 6) := ⟨hgd, by have := (unveil hG).2; omega⟩
        rw [fol_yes hst] at hF'
        have HF2 : Hid (folM x 0 path = ((S ++ [(xk, frk, s)]) ++ (folM y (frk + b) (path.drop (k + 1))).1, (folM y (frk + b) (path.drop (k + 1))).2)) := by
          rw [Hid, hF']
          simp only [List.append_assoc, List.cons_append, List.nil_append]
        have HJY := veil hjy
        have HSTEP : Hid (∀ M2 g2 w1 wa v6 W6, ExM M1 M2 → FlS N0 w w1 M2 gh ih xk (.slice q k c) L S → M2 g2 = some (prtM xk) → Below w1.heap.size w1 wa → wa.grownBy W6 (Value.slice q k c).ownBlock → W6.ownsRow w.heap.size 121 3 v6 (L.length + 1) (stCs L ++ stC (gh, ih, frk, s)) →
            ∃ q6 c6, v6 = .slice q6 (k + 1) c6 ∧ Hid (FlS N0 w W6 M2 g2 j y (.slice q6 (k + 1) c6) (L ++ [(gh, ih, frk, s)]) (S ++ [(xk, frk, s)])) ∧ Hid ((L ++ [(gh, ih, frk, s)]).length = k + 1) ∧ Hid (ExM M M2)) := fun M2 g2 w1 wa v6 W6 hex hS1 hM2 hba hg6 ho6 => by
          have hS6 := hS1.grow frk s hM2 (unveil HJY) hba hg6 ho6
          have hl6 : (L ++ [(gh, ih, frk, s)]).length = k + 1 := by rw [List.length_append, unveil hLk]; rfl
          have hr6 := hS6.r
          rw [hl6] at hr6
          obtain ⟨q6, c6, rfl⟩ := row_slice hr6
          exact ⟨q6, c6, rfl, hS6, hl6, fun g l h => hex g l (unveil hE g l h)⟩
        cases h3 : xk.1.sh == 3
        · have HMS := veil (memb_step (unveil hS).ni hlk hik hNw (unveil hIw) (unveil hS).mx hd6 hGg (stp_sh hst h3) hst)
          have hh45 : Hid ((xk.1.sh == 4 || xk.1.sh == 5) = true) := stp_sh hst h3
          clear hst hF' hGg hjy hpt hgd
          cases hh : xk.1.sh == 4
          · have h5 : (xk.1.sh == 5) = true := by have := unveil hh45; rw [hh] at this; exact this
            go_upto_region 15 with (go_at_call 75; refine (unveil HMS).mono ?_; rintro e w1 hp; obtain ⟨M2, g2, rfl, hex, hS1, hM2⟩ := (unveil hS).part hp; have HEX := veil hex; have HS1' := veil hS1; have HM2 := veil hM2; clear hp hex hS1 hM2)
            clear y0 y1 y2 y3 y4 y5 y6 c7 c8 c9 hlt z0 z1 z2 f0 f1 f2 hcp
            go_wp2_with (at_builtin; obtain ⟨i0, hi, hq0, hq1, hq2⟩ := info_parts infoSt; refine wpList_append_own_at _ rfl _ _ 96 rfl w.heap.size 121 i0 _ 3 24 Try.underlying96 hi hq0 hq1 hq2 rfl (by decide) _ _ _ rfl (ownsRow_belowS (unveil HS1').r ((Below.refl _ w1).alloc (Nat.le_refl _) _)) ⟨w1.heap.size, 0, none⟩ 1 1 (stC (gh, ih, frk, s)) rfl rfl (st_cells w1 (gh, ih, frk, s) 121) (by intro u hu; simp [stC] at hu; rcases hu with rfl | rfl | rfl <;> rfl) (by have := unveil hLL; unfold maxLen; omega) (by have := unveil hLL; omega) (by have := (unveil HS1').ng.size; simp; omega) ?_; intro v6 W6 hown6 hg6 _ _; obtain ⟨q6, c6, rfl, HS6, HL6, HE6⟩ := unveil HSTEP M2 g2 w1 _ v6 W6 (unveil HEX) (unveil HS1') (unveil HM2) ((Below.refl _ w1).alloc (Nat.le_refl _) _) hg6 hown6; clear hi hq0 hq1 hq2 i0 hown6 hg6)
            go_roundg (path.length - (k + 1))
            case measure => omega
            case rel => exact ⟨k + 1, M2, g2, j, y, q6, c6, _, _, frk + b, d', rfl, by go_num, rfl, rfl, by go_num, by omega, HS6, HL6, HE6, HGD, HYI, HF2, hfb0, HFX⟩
          · go_upto_region 15 with (go_at_call 75; refine (unveil HMS).mono ?_; rintro e w1 hp; obtain ⟨M2, g2, rfl, hex, hS1, hM2⟩ := (unveil hS).part hp; have HEX := veil hex; have HS1' := veil hS1; have HM2 := veil hM2; clear hp hex hS1 hM2)
            clear y0 y1 y2 y3 y4 y5 y6 c7 c8 c9 hlt z0 z1 z2 f0 f1 f2 hcp
            go_wp2_with (at_builtin; obtain ⟨i0, hi, hq0, hq1, hq2⟩ := info_parts infoSt; refine wpList_append_own_at _ rfl _ _ 96 rfl w.heap.size 121 i0 _ 3 24 Try.underlying96 hi hq0 hq1 hq2 rfl (by decide) _ _ _ rfl (ownsRow_belowS (unveil HS1').r ((Below.refl _ w1).alloc (Nat.le_refl _) _)) ⟨w1.heap.size, 0, none⟩ 1 1 (stC (gh, ih, frk, s)) rfl rfl (st_cells w1 (gh, ih, frk, s) 121) (by intro u hu; simp [stC] at hu; rcases hu with rfl | rfl | rfl <;> rfl) (by have := unveil hLL; unfold maxLen; omega) (by have := unveil hLL; omega) (by have := (unveil HS1').ng.size; simp; omega) ?_; intro v6 W6 hown6 hg6 _ _; obtain ⟨q6, c6, rfl, HS6, HL6, HE6⟩ := unveil HSTEP M2 g2 w1 _ v6 W6 (unveil HEX) (unveil HS1') (unveil HM2) ((Below.refl _ w1).alloc (Nat.le_refl _) _) hg6 hown6; clear hi hq0 hq1 hq2 i0 hown6 hg6)
            go_roundg (path.length - (k + 1))
            case measure => omega
            case rel => exact ⟨k + 1, M2, g2, j, y, q6, c6, _, _, frk + b, d', rfl, by go_num, rfl, rfl, by go_num, by omega, HS6, HL6, HE6, HGD, HYI, HF2, hfb0, HFX⟩
        · have HMS := veil (elem_step (unveil hS).ni hlk hik hNw (unveil hIw) (unveil hS).mx hd6 hGg h3 hst)
          clear hst hF' hGg hjy hpt hgd
          go_upto_region 15 with (go_at_call 74; refine (unveil HMS).mono ?_; rintro e w1 hp; obtain ⟨M2, g2, rfl, hex, hS1, hM2⟩ := (unveil hS).part hp; have HEX := veil hex; have HS1' := veil hS1; have HM2 := veil hM2; clear hp hex hS1 hM2)
          clear y0 y1 y2 y3 y4 y5 y6 c7 c8 c9 hlt z0 z1 z2 f0 f1 f2 hcp
          go_wp2_with (at_builtin; obtain ⟨i0, hi, hq0, hq1, hq2⟩ := info_parts infoSt; refine wpList_append_own_at _ rfl _ _ 96 rfl w.heap.size 121 i0 _ 3 24 Try.underlying96 hi hq0 hq1 hq2 rfl (by decide) _ _ _ rfl (ownsRow_belowS (unveil HS1').r ((Below.refl _ w1).alloc (Nat.le_refl _) _)) ⟨w1.heap.size, 0, none⟩ 1 1 (stC (gh, ih, frk, s)) rfl rfl (st_cells w1 (gh, ih, frk, s) 121) (by intro u hu; simp [stC] at hu; rcases hu with rfl | rfl | rfl <;> rfl) (by have := unveil hLL; unfold maxLen; omega) (by have := unveil hLL; omega) (by have := (unveil HS1').ng.size; simp; omega) ?_; intro v6 W6 hown6 hg6 _ _; obtain ⟨q6, c6, rfl, HS6, HL6, HE6⟩ := unveil HSTEP M2 g2 w1 _ v6 W6 (unveil HEX) (unveil HS1') (unveil HM2) ((Below.refl _ w1).alloc (Nat.le_refl _) _) hg6 hown6; clear hi hq0 hq1 hq2 i0 hown6 hg6)
          go_roundg (path.length - (k + 1))
          case measure => omega
          case rel => exact ⟨k + 1, M2, g2, j, y, q6, c6, _, _, frk + b, d', rfl, by go_num, rfl, rfl, by go_num, by omega, HS6, HL6, HE6, HGD, HYI, HF2, hfb0, HFX⟩
    · have hkp : k = path.length := by omega
      have hnk : ¬ (k : Int) < (path.length : Int) := by omega
      have HF3 : Hid (folM x 0 path = (S, (xk, frk))) := by
        rw [Hid, unveil hF, hkp, List.drop_length]
        simp [folM]
      have HEND : Hid (∀ w1, Below wr.heap.size wr w1 → FlS N0 w w1 M1 gh ih xk (.slice q k c) L S) := fun w1 h => (unveil hS).below h
      obtain ⟨NU, hNU⟩ : ∃ NU, nuM xk.1 xk.2.2 frk = NU := ⟨_, rfl⟩
      rw [hNU] at HNU
      have HNE := veil hNU
      obtain ⟨⟨na, nb, nc⟩, B⟩ := NU
      simp only at HNU
      clear hNU y0 y1 y2 y3 y4 y5 y6 c7 c8 c9 z0 z1 z2 f0 f1 f2 hGg hkp
      go_upto_region 20 with fail
      go_upto_region 21 with (go_at_call 76; refine (unveil HNU).mono ?_; rintro e w1 ⟨rfl, hb1⟩; have hS1 := unveil HEND w1 hb1; have HS1 := veil hS1; clear hS1 hb1)
      have HS2 : Hid (FlS N0 w (w1.alloc (.cells #[.int .i64 na, .int .i64 nb, .int .i64 nc] 42)) M1 gh ih xk (.slice q k c) L S) := (unveil HS1).below ((Below.refl _ w1).alloc (Nat.le_refl _) _)
      have hb2 := Bk.new w1 42 #[.int .i64 na, .int .i64 nb, .int .i64 nc]
      generalize (w1.alloc (.cells #[.int .i64 na, .int .i64 nb, .int .i64 nc] 42)) = W2 at HS2 hb2 ⊢
      have e0 := hb2.cell 0
      have e1 := hb2.cell 1
      have e2 := hb2.cell 2
      have el := hb2.lt
      generalize w1.heap.size = SB at e0 e1 e2 el ⊢
      simp only [List.getElem?_toArray, List.getElem?_cons_zero, List.getElem?_cons_succ] at e0 e1 e2
      have f0 := (unveil HS2).z.frozen 0
      have f1 := (unveil HS2).z.frozen 1
      have f2 := (unveil HS2).z.frozen 2
      have hzl2 := (unveil HS2).z.lt
      have z0 := (unveil HS2).z.cell 0
      have z1 := (unveil HS2).z.cell 1
      have z2 := (unveil HS2).z.cell 2
      simp only [List.getElem?_toArray, List.getElem?_cons_zero, List.getElem?_cons_succ] at z0 z1 z2
      have HFIN : Hid (∀ W, W = ((W2.setCell ⟨w.heap.size, 0, none⟩ (.int .i64 na)).setCell ⟨w.heap.size, 1, none⟩ (.int .i64 nb)).setCell ⟨w.heap.size, 2, none⟩ (.int .i64 nc) → PO (.returned (.tuple #[.slice q k c, .agg #[.int .i64 na, .int .i64 nb, .int .i64 nc], .bool B])) W.drew ∧ Bk W.drew w.heap.size 42 #[.int .i64 na, .int .i64 nb, .int .i64 nc]) := fun W hW => by
        obtain ⟨a1, a2, a3, a4, a5⟩ := (unveil HS2).fin (.int .i64 na) (.int .i64 nb) (.int .i64 nc) W hW
        have hbd : Below W.heap.size W W.drew := (Below.refl _ W).drew
        refine ⟨?_, a3.below hbd⟩
        rw [← unveil HPO]
        have hlen : (folM x 0 path).1.length = path.length := by
          rw [unveil HF3]
          simp only
          rw [unveil hSk]
          omega
        have hnu : nuM (folM x 0 path).2.1.1 (folM x 0 path).2.1.2.2 (folM x 0 path).2.2 = ((na, nb, nc), B) := by rw [unveil HF3]; exact unveil HNE
        cases B
        · exact FoP.no (fun hcc => by rw [hnu] at hcc; exact absurd hcc.2 (by simp)) (unveil hE) (a1.below hbd) (a2.trans (.of_below hbd)) (fun h hh => a4 h (Nat.le_trans hbd.size hh)) _ _ _ _
        · refine ⟨M1, _, unveil hE, a1.below hbd, a2.trans (.of_below hbd), fun h hh => a4 h (Nat.le_trans hbd.size hh), .inl ⟨⟨hlen, by rw [hnu]⟩, ⟨L, ownsRow_belowS a5 hbd, ?_⟩, by rw [hnu]⟩⟩
          rw [unveil HF3]
          exact (unveil HS2).rel
      clear hb2
      go_region
      go_wp2_with fail
      rw [Exit.noGoto_ret]
      exact bodyPost_ret (res_sst (f := Try.f55) (i := 4) (j := 6) rfl rfl (unveil HFIN _ rfl).2 rfl) rfl (unveil HFIN _ rfl).1
end Go.Proofs.Ytkiebejidpebdaa
