/-
  Package image: nodes and their parts: a typing map.
  Package image: the member of a node.
  Package image: a member that is not there; the element of a node.
  Package image: the element of a node.
-/
import Derived.Test.YtkiebejidpebdaaOe
import Derived.Test.YtkiebejidpebdaaZ7
import Derived.BigQuiet
import Derived.BigRegion
namespace Go.Proofs.Ytkiebejidpebdaa
open Go Go.RowKit Go.Shelf
set_option linter.unusedVariables false
set_option linter.unusedSimpArgs false

/-- The parts of a node. -/
def prtM (x : ShT × Int × Int) : List (ShT × Int × Int) := if x.1.sh == 3 then (match x.1.of with | y :: _ => [(y, 0, x.2.2 / x.1.n)] | [] => []) else ptsM x.1
theorem ndCs_at : ∀ (l : List (ShT × Int × Int)) (i j : Nat) (x : ShT × Int × Int), l[i]? = some x → j < 10 → (ndCs l)[i * 10 + j]? = (ndL x)[j]?
  | [], i, j, x, h, _ => by simp at h
  | y :: r, 0, j, x, h, hj => by
    obtain rfl : y = x := by simpa using h
    have e : ndCs (y :: r) = ndL y ++ ndCs r := by simp [ndCs]
    rw [e, Nat.zero_mul, Nat.zero_add, List.getElem?_append_left (by show j < 10; exact hj)]
  | y :: r, i + 1, j, x, h, hj => by
    have ih := ndCs_at r i j x (by simpa using h) hj
    have e : ndCs (y :: r) = ndL y ++ ndCs r := by simp [ndCs]
    have e10 : (ndL y).length = 10 := rfl
    rw [e, List.getElem?_append_right (by omega), e10, show (i + 1) * 10 + j - 10 = i * 10 + j by omega]
    exact ih
/-- Every block of M bears its list's nodes; their parts are none yet, or lie in a block of M. -/
structure NI (N0 : Nat) (M : Nat → Option (List (ShT × Int × Int))) (W : World) : Prop where
  nd : ∀ g l, M g = some l → N0 ≤ g ∧ ∃ cs, Bk W g 117 cs ∧ ∀ i x, l[i]? = some x → ∃ pv, (∀ j u, (ndC x.1 x.2.1 x.2.2 pv)[j]? = some u → cs[i * 10 + j]? = some u) ∧
    (pv = .slice none 0 0 ∨ ∃ g2 c2, pv = .slice (some ⟨g2, 0, none⟩) (prtM x).length c2 ∧ M g2 = some (prtM x) ∧ (prtM x).length ≤ c2)
theorem NI.at {N0 : Nat} {M : Nat → Option (List (ShT × Int × Int))} {W : World} (h : NI N0 M W) {g i : Nat} {l : List (ShT × Int × Int)} {x : ShT × Int × Int} (hg : M g = some l) (hi : l[i]? = some x) :
    ∃ pv, NdAt W g (i * 10) x.1 x.2.1 x.2.2 pv ∧ W.frozen? ⟨g, i * 10 + 9, none⟩ = false ∧ (pv = .slice none 0 0 ∨ ∃ g2 c2, pv = .slice (some ⟨g2, 0, none⟩) (prtM x).length c2 ∧ M g2 = some (prtM x) ∧ (prtM x).length ≤ c2) := by
  obtain ⟨_, cs, hb, hn⟩ := h.nd g l hg
  obtain ⟨pv, hc, hp⟩ := hn i x hi
  exact ⟨pv, ⟨fun j u hu => (hb.cell _).trans (hc j u hu), hb.lt⟩, hb.frozen _, hp⟩
theorem NI.below {N0 : Nat} {M : Nat → Option (List (ShT × Int × Int))} {W W' : World} (h : NI N0 M W) (hb : Below W.heap.size W W') : NI N0 M W' :=
  ⟨fun g l hg => by
    obtain ⟨h0, cs, hk, hn⟩ := h.nd g l hg
    exact ⟨h0, cs, hk.below hb, hn⟩⟩
def addM (M : Nat → Option (List (ShT × Int × Int))) (g2 : Nat) (l : List (ShT × Int × Int)) : Nat → Option (List (ShT × Int × Int)) := fun g => if g = g2 then some l else M g
def ExM (M M' : Nat → Option (List (ShT × Int × Int))) : Prop := ∀ g l, M g = some l → M' g = some l
theorem addM_ex {M : Nat → Option (List (ShT × Int × Int))} {g2 : Nat} {l : List (ShT × Int × Int)} (h : M g2 = none) : ExM M (addM M g2 l) := fun g l' hg => by
  unfold addM
  split
  · rename_i e
    rw [e, h] at hg
    cases hg
  · exact hg
/-- A new block of nodes without parts. -/
theorem NI.add {N0 : Nat} {M : Nat → Option (List (ShT × Int × Int))} {W : World} (h : NI N0 M W) {g2 : Nat} {l : List (ShT × Int × Int)} {cs : Array Value} (hM : M g2 = none) (hN : N0 ≤ g2) (hb : Bk W g2 117 cs) (hc : ∀ (j : Nat) (u : Value), (ndCs l)[j]? = some u → cs[j]? = some u) : NI N0 (addM M g2 l) W :=
  ⟨fun g l' hg => by
    unfold addM at hg
    split at hg
    · rename_i e
      subst e
      cases hg
      refine ⟨hN, cs, hb, fun i x hi => ⟨.slice none 0 0, fun j u hu => hc _ _ ?_, .inl rfl⟩⟩
      have hj : j < 10 := by
        have := (Array.getElem?_eq_some_iff.1 hu).1
        exact this
      rw [ndCs_at l i j x hi hj]
      unfold ndL
      simpa using hu
    · obtain ⟨h0, cs', hk, hn⟩ := h.nd g l' hg
      refine ⟨h0, cs', hk, fun i x hi => ?_⟩
      obtain ⟨pv, hp, hq⟩ := hn i x hi
      refine ⟨pv, hp, hq.imp id ?_⟩
      rintro ⟨g3, c3, e1, e2, e3⟩
      exact ⟨g3, c3, e1, addM_ex hM g3 _ e2, e3⟩⟩
/-- A node's parts are written. -/
theorem NI.set {N0 : Nat} {M : Nat → Option (List (ShT × Int × Int))} {W : World} (h : NI N0 M W) {g i : Nat} {l : List (ShT × Int × Int)} {x : ShT × Int × Int} (hg : M g = some l) (hi : l[i]? = some x) {g2 c2 : Nat} (hM : M g2 = some (prtM x)) (hc2 : (prtM x).length ≤ c2) :
    NI N0 M (W.setCell ⟨g, i * 10 + 9, none⟩ (.slice (some ⟨g2, 0, none⟩) (prtM x).length c2)) :=
  ⟨fun g' l' hg' => by
    obtain ⟨h0, cs, hk, hn⟩ := h.nd g' l' hg'
    by_cases e : g' = g
    · subst e
      rw [hg] at hg'
      cases hg'
      refine ⟨h0, _, hk.set _ _, fun i' x' hi' => ?_⟩
      obtain ⟨pv, hp, hq⟩ := hn i' x' hi'
      by_cases ei : i' = i
      · subst ei
        rw [hi] at hi'
        cases hi'
        refine ⟨.slice (some ⟨g2, 0, none⟩) (prtM x).length c2, fun j u hu => ?_, .inr ⟨g2, c2, rfl, hM, hc2⟩⟩
        have hj : j < 10 := (Array.getElem?_eq_some_iff.1 hu).1
        by_cases ej : j = 9
        · subst ej
          have hlt : i' * 10 + 9 < cs.size := by
            have h9 := hp 9 pv rfl
            exact (Array.getElem?_eq_some_iff.1 h9).1
          rw [Array.getElem?_setIfInBounds_self_of_lt hlt]
          exact hu
        · rw [Array.getElem?_setIfInBounds_ne (by omega)]
          refine hp j u ?_
          have hJ : j = 0 ∨ j = 1 ∨ j = 2 ∨ j = 3 ∨ j = 4 ∨ j = 5 ∨ j = 6 ∨ j = 7 ∨ j = 8 := by omega
          rcases hJ with rfl | rfl | rfl | rfl | rfl | rfl | rfl | rfl | rfl <;> exact hu
      · refine ⟨pv, fun j u hu => ?_, hq⟩
        have hj : j < 10 := (Array.getElem?_eq_some_iff.1 hu).1
        rw [Array.getElem?_setIfInBounds_ne (by omega)]
        exact hp j u hu
    · exact ⟨h0, cs, hk.other _ _ e, hn⟩⟩
end Go.Proofs.Ytkiebejidpebdaa
namespace Go.Proofs.Ytkiebejidpebdaa
open Go Go.RowKit Go.Shelf
set_option linter.unusedVariables false
set_option linter.unusedSimpArgs false

theorem sl_some (a : Addr) (n c : Nat) (W : World) : (binOp .eql 115 (.slice (some a) n c) (.slice none 0 0)).run Try.prog W = .ok (.bool false) W := by kernel_rfl
theorem sl_none (W : World) : (binOp .eql 115 (.slice none 0 0) (.slice none 0 0)).run Try.prog W = .ok (.bool true) W := by kernel_rfl
/-- What element and member tell of a part that is there. -/
def PtP (N0 : Nat) (M : Nat → Option (List (ShT × Int × Int))) (w : World) (g : Nat) (x : ShT × Int × Int) (j : Nat) (b : Int) (e : Ending) (w' : World) : Prop :=
  ∃ M' g2, e = .returned (.tuple #[.pointer (some ⟨g2, j * 10, none⟩), .int .i64 b]) ∧ ExM M M' ∧ NI N0 M' w' ∧ M' g2 = some (prtM x) ∧ w.grownBy w' (some g) ∧ (∀ h, w'.heap.size ≤ h → M' h = none)
/-- The parts that are there already. -/
theorem PtP.old {N0 : Nat} {M : Nat → Option (List (ShT × Int × Int))} {w w' : World} {g g2 j : Nat} {x : ShT × Int × Int} {b : Int} (hn : NI N0 M w) (hM : M g2 = some (prtM x)) (hd : ∀ h, w.heap.size ≤ h → M h = none) (hb : Below w.heap.size w w') : PtP N0 M w g x j b (.returned (.tuple #[.pointer (some ⟨g2, j * 10, none⟩), .int .i64 b])) w' :=
  ⟨M, g2, rfl, fun _ _ h => h, hn.below hb, hM, ⟨(below_grown hb).os, (below_grown hb).tape, (below_grown hb).output, hb.size, fun i hi _ => (below_grown hb).block i hi (by simp)⟩, fun h hh => hd h (Nat.le_trans hb.size hh)⟩
/-- The bit of a part, in its cells. -/
theorem NI.bit {N0 : Nat} {M : Nat → Option (List (ShT × Int × Int))} {W : World} (h : NI N0 M W) {g2 j : Nat} {l : List (ShT × Int × Int)} {y : ShT × Int × Int} (hg : M g2 = some l) (hj : l[j]? = some y) : W.cell? ⟨g2, j * 10 + 7, none⟩ = some (.int .i64 y.2.1) ∧ W.cell? ⟨g2, j * 10 + 8, none⟩ = some (.int .i64 y.2.2) ∧ g2 < W.heap.size := by
  obtain ⟨pv, hn, _⟩ := h.at hg hj
  exact ⟨hn.ten.2.1, hn.ten.2.2.1, hn.lt⟩
set_option maxRecDepth 100000 in
set_option maxHeartbeats 20000000 in
theorem member_yes (N0 : Nat) (M : Nat → Option (List (ShT × Int × Int))) (w : World) (g i k : Nat) (l : List (ShT × Int × Int)) (x y : ShT × Int × Int) (hn : NI N0 M w) (hg : M g = some l) (hi : l[i]? = some x) (hN : N0 ≤ w.heap.size) (hin : x.1.In N0 w)
    (hsh : (x.1.sh == 3) = false) (hme : memL x.1 = ((x.1.ml (meaM 5)).map Prod.snd, 0)) (hfl : x.1.fs.length ≤ 40) (hk : k < x.1.fs.length) (hb : (x.1.fs[k].bits == 0) = false) (hd : ∀ h, w.heap.size ≤ h → M h = none) (hy : (prtM x)[k]? = some y) :
    Calls Try.prog 75 #[.pointer (some ⟨g, i * 10, none⟩), .int .i64 k] w (PtP N0 M w g x k y.2.1) := by
  obtain ⟨pv, hnd, hfz, hpv⟩ := hn.at hg hi
  obtain ⟨⟨y0, y1, y2, y3, y4, y5, y6⟩, c7, c8, c9⟩ := hnd.ten
  obtain ⟨gf, of', hfp, hgf, hcf, _, _⟩ := hin.fs k hk
  obtain ⟨d0, d1, d2, d3, d4, d5, d6, d7, d8⟩ := nine hcf
  have hkl : k < (prtM x).length := (List.getElem?_eq_some_iff.1 hy).1
  have hprt : prtM x = ptsM x.1 := by unfold prtM; rw [if_neg (by rw [hsh]; simp)]
  have HNO := veil (nodes_any x.1 w (hin.mono hN) hme hfl)
  have hglt := hnd.lt
  have hgflt : gf < w.heap.size := Nat.lt_of_lt_of_le hgf hN
  have HN := veil hn
  have HG := veil hg
  have HI := veil hi
  have HD := veil hd
  have HY := veil hy
  have HPRT := veil hprt
  have HNN := veil hN
  have HFL := veil hfl
  have hki : ¬ (k : Int) < 0 := by omega
  have hki2 : ¬ (k : Int) ≥ (x.1.fs.length : Int) := by omega
  rw [← hprt] at HNO
  rw [hfp] at y4
  clear hn hg hi hd hy hprt hN hin hme hfl hcf hnd hsh
  generalize x.1.fs[k] = f at *
  unfold ShT.v ShT.cs at HNO
  rw [hfp] at HNO
  rcases hpv with rfl | ⟨g2, c2, rfl, hM2, hc2⟩
  · have hnil := sl_none
    have HST : Hid (∀ W1 v, W1.ownsRow w.heap.size 117 10 v (prtM x).length (ndCs (prtM x)) → Below w.heap.size w W1 → ∃ g2 c2, v = .slice (some ⟨g2, 0, none⟩) (prtM x).length c2 ∧ g2 < W1.heap.size ∧ g < W1.heap.size ∧ g ≠ g2 ∧ (prtM x).length ≤ c2 ∧ W1.frozen? ⟨g, i * 10 + 9, none⟩ = false ∧ W1.cell? ⟨g, i * 10 + 9, none⟩ = some (.slice none 0 0) ∧
        ∀ W2, W2 = W1.setCell ⟨g, i * 10 + 9, none⟩ (.slice (some ⟨g2, 0, none⟩) (prtM x).length c2) → W2.cell? ⟨g, i * 10 + 9, none⟩ = some (.slice (some ⟨g2, 0, none⟩) (prtM x).length c2) ∧ W2.cell? ⟨g2, k * 10 + 7, none⟩ = some (.int .i64 y.2.1) ∧ g2 < W2.heap.size ∧ g < W2.heap.size ∧
          ∀ w', Below W2.heap.size W2 w' → PtP N0 M w g x k y.2.1 (.returned (.tuple #[.pointer (some ⟨g2, k * 10, none⟩), .int .i64 y.2.1])) w') := fun W1 v hr hb1 => by
      obtain ⟨p, hp⟩ : ∃ p, (prtM x).length = p + 1 := ⟨(prtM x).length - 1, by omega⟩
      have hr' := hr
      rw [hp] at hr'
      rcases hr'.2 with ⟨_, h0⟩ | ⟨g2, c2, cur, rfl, hbg, hgg, hcc, hcm, hcs, hct⟩
      · omega
      · have hgl2 : g2 < W1.heap.size := (Array.getElem?_eq_some_iff.1 hgg).1
        have hn1 := (unveil HN).below hb1
        obtain ⟨pv1, hnd1, hfz1, _⟩ := hn1.at (unveil HG) (unveil HI)
        have hcell1 : W1.cell? ⟨g, i * 10 + 9, none⟩ = some (.slice none 0 0) := (hb1.cell (p := ⟨g, i * 10 + 9, none⟩) hglt).trans c9
        have hadd : NI N0 (addM M g2 (prtM x)) W1 := hn1.add (unveil HD g2 hbg) (Nat.le_trans (unveil HNN) hbg) hgg (fun j u hu => by
          have hct' : cur.toList.take ((p + 1) * 10) = ndCs (prtM x) := hct
          rw [← hct', List.getElem?_take] at hu
          split at hu
          · simpa using hu
          · cases hu)
        have hex := addM_ex (l := prtM x) (unveil HD g2 hbg)
        have hM2 : addM M g2 (prtM x) g2 = some (prtM x) := by unfold addM; rw [if_pos rfl]
        have hset := hadd.set (hex _ _ (unveil HG)) (unveil HI) hM2 (c2 := c2) (by rw [hp]; exact hcc)
        refine ⟨g2, c2, by rw [hp], hgl2, by omega, by omega, by rw [hp]; exact hcc, hfz1, hcell1, fun W2 hW2 => ?_⟩
        subst hW2
        obtain ⟨q7, _, ql⟩ := hset.bit hM2 (unveil HY)
        have hgr : w.grownBy (W1.setCell ⟨g, i * 10 + 9, none⟩ (.slice (some ⟨g2, 0, none⟩) (prtM x).length c2)) (some g) :=
          gr_then ⟨(below_grown hb1).os, (below_grown hb1).tape, (below_grown hb1).output, hb1.size, fun i hi _ => (below_grown hb1).block i hi (by simp)⟩ (gr_set W1 g _ _) (fun r e => by cases e; exact .inr rfl)
        have hcs9 : (W1.setCell ⟨g, i * 10 + 9, none⟩ (.slice (some ⟨g2, 0, none⟩) (prtM x).length c2)).cell? ⟨g, i * 10 + 9, none⟩ = some (.slice (some ⟨g2, 0, none⟩) (prtM x).length c2) := by
          obtain ⟨_, cs, hk, hcn⟩ := hn1.nd g l (unveil HG)
          obtain ⟨pv2, hp2, _⟩ := hcn i x (unveil HI)
          have hlt : i * 10 + 9 < cs.size := (Array.getElem?_eq_some_iff.1 (hp2 9 pv2 rfl)).1
          rw [(hk.set _ _).cell, Array.getElem?_setIfInBounds_self_of_lt hlt]
        have hsz2 : (W1.setCell ⟨g, i * 10 + 9, none⟩ (.slice (some ⟨g2, 0, none⟩) (prtM x).length c2)).heap.size = W1.heap.size := by simp
        refine ⟨hcs9, q7, ql, by rw [hsz2]; omega, fun w' hw' => ⟨addM M g2 (prtM x), g2, rfl, hex, hset.below hw', hM2, gr_then hgr (row := none) (below_grown hw') (fun r e => by cases e), fun h hh => ?_⟩⟩
        have h1 := hw'.size
        rw [hsz2] at h1
        unfold addM
        rw [if_neg (by omega)]
        have h2 := hb1.size
        exact unveil HD h (by omega)
    have hkl2 : (k : Int) < ((prtM x).length : Int) := by omega
    generalize PtP N0 M w g x k y.2.1 = PO at *
    generalize y.2.1 = B at *
    generalize ndCs (prtM x) = NC at *
    generalize (prtM x).length = PL at *
    go_enter Try.func75, Try.ntmps75
    go_upto_region 5 with (go_at_call 89; refine (unveil HNO).mono ?_; rintro e W1 ⟨v1, rfl, hr1, hb1⟩; obtain ⟨g2, c2, rfl, t1, t2, t3, t4, t5, t6, t7⟩ := unveil HST W1 _ hr1 hb1; have HT7 := veil t7; clear t7 hr1 hb1)
    obtain ⟨u1, u2, u3, u4, u5⟩ := unveil HT7 _ rfl
    have HU5 := veil u5
    clear u5
    generalize W1.setCell ⟨g, i * 10 + 9, none⟩ (.slice (some ⟨g2, 0, none⟩) PL c2) = W2 at *
    clear y0 y1 y2 y3 y4 y5 y6 c7 c8 c9 d0 d1 d2 d3 d4 d5 d6 d7 d8 t5 t6
    go_quiet (fail)
    go_wp2_with fail
    exact unveil HU5 _ (below_drewS (Below.refl _ W2) _)
  · obtain ⟨p7, p8, pl⟩ := (unveil HN).bit hM2 (unveil HY)
    have HM2 := veil hM2
    have hc2' : (prtM x).length ≤ c2 := hc2
    have hkl2 : (k : Int) < ((prtM x).length : Int) := by omega
    have HPO : Hid (∀ w', Below w.heap.size w w' → PtP N0 M w g x k y.2.1 (.returned (.tuple #[.pointer (some ⟨g2, k * 10, none⟩), .int .i64 y.2.1])) w') := fun w' h => PtP.old (unveil HN) (unveil HM2) (unveil HD) h
    clear hM2 hc2 HNO
    generalize PtP N0 M w g x k y.2.1 = PO at *
    generalize y.2.1 = B at *
    generalize (prtM x).length = PL at *
    have hnil := sl_some ⟨g2, 0, none⟩ PL c2
    go_enter Try.func75, Try.ntmps75
    go_upto_region 5 with fail
    go_quiet (fail)
    go_wp2_with fail
    exact unveil HPO _ (below_drewS (Below.refl _ w) _)
end Go.Proofs.Ytkiebejidpebdaa
namespace Go.Proofs.Ytkiebejidpebdaa
open Go Go.RowKit Go.Shelf
set_option linter.unusedVariables false
set_option linter.unusedSimpArgs false

/-- Is there such a member? -/
def memB (t : ShT) (at' : Int) : Bool := if at' < 0 then false else (match t.fs[at'.toNat]? with | some f => !(f.bits == 0) | none => false)
set_option maxRecDepth 100000 in
set_option maxHeartbeats 20000000 in
theorem member_no (N0 : Nat) (M : Nat → Option (List (ShT × Int × Int))) (w : World) (g i : Nat) (at' : Int) (l : List (ShT × Int × Int)) (x : ShT × Int × Int) (hn : NI N0 M w) (hg : M g = some l) (hi : l[i]? = some x) (hN : N0 ≤ w.heap.size) (hin : x.1.In N0 w) (hm : memB x.1 at' = false) :
    Calls Try.prog 75 #[.pointer (some ⟨g, i * 10, none⟩), .int .i64 at'] w fun e w' => e = .returned (.tuple #[.pointer none, .int .i64 0]) ∧ w' = w := by
  obtain ⟨pv, hnd, _, _⟩ := hn.at hg hi
  obtain ⟨⟨y0, y1, y2, y3, y4, y5, y6⟩, c7, c8, c9⟩ := hnd.ten
  unfold memB at hm
  by_cases h0 : at' < 0
  · clear hn hg hi hin hnd hm
    go_enter Try.func75, Try.ntmps75
    go_wp2_with fail
    refine bodyPost_ret (results_tmp2 rfl _ _ _) rfl ?_
    exact ⟨rfl, rfl⟩
  · rw [if_neg h0] at hm
    by_cases h1 : at' ≥ (x.1.fs.length : Int)
    · clear hn hg hi hin hnd hm
      go_enter Try.func75, Try.ntmps75
      go_wp2_with fail
      refine bodyPost_ret (results_tmp2 rfl _ _ _) rfl ?_
      exact ⟨rfl, rfl⟩
    · obtain ⟨k, rfl⟩ : ∃ k : Nat, at' = (k : Int) := ⟨at'.toNat, by omega⟩
      have hk : k < x.1.fs.length := by omega
      rw [Int.toNat_natCast, List.getElem?_eq_getElem hk] at hm
      simp only at hm
      obtain ⟨gf, of', hfp, hgf, hcf, _, _⟩ := hin.fs k hk
      obtain ⟨d0, d1, d2, d3, d4, d5, d6, d7, d8⟩ := nine hcf
      have hgflt : gf < w.heap.size := Nat.lt_of_lt_of_le hgf hN
      have hb : (x.1.fs[k].bits == 0) = true := by
        cases h : x.1.fs[k].bits == 0
        · rw [h] at hm; cases hm
        · rfl
      rw [hfp] at y4
      clear hn hg hi hin hnd hm hcf
      generalize x.1.fs[k] = f at *
      go_enter Try.func75, Try.ntmps75
      go_wp2_with fail
      refine bodyPost_ret (results_tmp2 rfl _ _ _) rfl ?_
      exact ⟨rfl, rfl⟩
set_option maxRecDepth 100000 in
set_option maxHeartbeats 20000000 in
theorem element_no (N0 : Nat) (M : Nat → Option (List (ShT × Int × Int))) (w : World) (g i : Nat) (at' : Int) (l : List (ShT × Int × Int)) (x : ShT × Int × Int) (hn : NI N0 M w) (hg : M g = some l) (hi : l[i]? = some x) (hm : at' < 0 ∨ at' ≥ x.1.n) :
    Calls Try.prog 74 #[.pointer (some ⟨g, i * 10, none⟩), .int .i64 at'] w fun e w' => e = .returned (.tuple #[.pointer none, .int .i64 0]) ∧ w' = w := by
  obtain ⟨pv, hnd, _, _⟩ := hn.at hg hi
  obtain ⟨⟨y0, y1, y2, y3, y4, y5, y6⟩, c7, c8, c9⟩ := hnd.ten
  clear hn hg hi hnd
  by_cases h0 : at' < 0
  · go_enter Try.func74, Try.ntmps74
    go_wp2_with fail
    refine bodyPost_ret (results_tmp2 rfl _ _ _) rfl ?_
    exact ⟨rfl, rfl⟩
  · have h1 : at' ≥ x.1.n := by omega
    go_enter Try.func74, Try.ntmps74
    go_wp2_with fail
    refine bodyPost_ret (results_tmp2 rfl _ _ _) rfl ?_
    exact ⟨rfl, rfl⟩
end Go.Proofs.Ytkiebejidpebdaa
namespace Go.Proofs.Ytkiebejidpebdaa
open Go Go.RowKit Go.Shelf
set_option linter.unusedVariables false
set_option linter.unusedSimpArgs false

theorem wrp_in {n : Int} (h : -9223372036854775808 ≤ n) (h2 : n ≤ 9223372036854775807) : wrap64 n = n := by unfold wrap64; omega
/-- What there is once a node's parts were made and written. -/
theorem PtP.new {N0 : Nat} {M : Nat → Option (List (ShT × Int × Int))} {w W1 : World} {g i g2 : Nat} {l : List (ShT × Int × Int)} {x : ShT × Int × Int} {cs : Array Value} (hn : NI N0 M w) (hg : M g = some l) (hi : l[i]? = some x) (hN : N0 ≤ w.heap.size) (hd : ∀ h, w.heap.size ≤ h → M h = none) (hb1 : Below w.heap.size w W1) (hbg : w.heap.size ≤ g2)
    (hgg : Bk W1 g2 117 cs) (hc : ∀ (j : Nat) (u : Value), (ndCs (prtM x))[j]? = some u → cs[j]? = some u) (c2 : Nat) (hc2 : (prtM x).length ≤ c2) (W2 : World) (hW2 : W2 = W1.setCell ⟨g, i * 10 + 9, none⟩ (.slice (some ⟨g2, 0, none⟩) (prtM x).length c2)) :
    W2.cell? ⟨g, i * 10 + 9, none⟩ = some (.slice (some ⟨g2, 0, none⟩) (prtM x).length c2) ∧ g2 < W2.heap.size ∧ g < W2.heap.size ∧ (∀ j y, (prtM x)[j]? = some y → W2.cell? ⟨g2, j * 10 + 7, none⟩ = some (.int .i64 y.2.1) ∧ W2.cell? ⟨g2, j * 10 + 8, none⟩ = some (.int .i64 y.2.2)) ∧
      ∀ j b w', Below W2.heap.size W2 w' → PtP N0 M w g x j b (.returned (.tuple #[.pointer (some ⟨g2, j * 10, none⟩), .int .i64 b])) w' := by
  subst hW2
  have hgl2 := hgg.lt
  have hn1 := hn.below hb1
  have hglt : g < w.heap.size := by obtain ⟨_, c, hk, _⟩ := hn.nd g l hg; exact hk.lt
  have hadd : NI N0 (addM M g2 (prtM x)) W1 := hn1.add (hd g2 hbg) (Nat.le_trans hN hbg) hgg hc
  have hex := addM_ex (l := prtM x) (hd g2 hbg)
  have hM2 : addM M g2 (prtM x) g2 = some (prtM x) := by unfold addM; rw [if_pos rfl]
  have hset := hadd.set (hex _ _ hg) hi hM2 (c2 := c2) hc2
  have hgr : w.grownBy (W1.setCell ⟨g, i * 10 + 9, none⟩ (.slice (some ⟨g2, 0, none⟩) (prtM x).length c2)) (some g) :=
    gr_then ⟨(below_grown hb1).os, (below_grown hb1).tape, (below_grown hb1).output, hb1.size, fun i hi _ => (below_grown hb1).block i hi (by simp)⟩ (gr_set W1 g _ _) (fun r e => by cases e; exact .inr rfl)
  have hcs9 : (W1.setCell ⟨g, i * 10 + 9, none⟩ (.slice (some ⟨g2, 0, none⟩) (prtM x).length c2)).cell? ⟨g, i * 10 + 9, none⟩ = some (.slice (some ⟨g2, 0, none⟩) (prtM x).length c2) := by
    obtain ⟨_, cs', hk, hcn⟩ := hn1.nd g l hg
    obtain ⟨pv2, hp2, _⟩ := hcn i x hi
    have hlt : i * 10 + 9 < cs'.size := (Array.getElem?_eq_some_iff.1 (hp2 9 pv2 rfl)).1
    rw [(hk.set _ _).cell, Array.getElem?_setIfInBounds_self_of_lt hlt]
  have hsz2 : (W1.setCell ⟨g, i * 10 + 9, none⟩ (.slice (some ⟨g2, 0, none⟩) (prtM x).length c2)).heap.size = W1.heap.size := by simp
  have h2 := hb1.size
  refine ⟨hcs9, by rw [hsz2]; exact hgl2, by rw [hsz2]; omega, fun j y hy => ⟨(hset.bit hM2 hy).1, (hset.bit hM2 hy).2.1⟩, fun j b w' hw' => ⟨addM M g2 (prtM x), g2, rfl, hex, hset.below hw', hM2, gr_then hgr (row := none) (below_grown hw') (fun r e => by cases e), fun h hh => ?_⟩⟩
  have h1 := hw'.size
  rw [hsz2] at h1
  unfold addM
  rw [if_neg (by omega)]
  exact hd h (by omega)
set_option maxRecDepth 100000 in
set_option maxHeartbeats 20000000 in
theorem element_yes (N0 : Nat) (M : Nat → Option (List (ShT × Int × Int))) (w : World) (g i : Nat) (at' : Int) (l : List (ShT × Int × Int)) (x : ShT × Int × Int) (y : ShT) (hn : NI N0 M w) (hg : M g = some l) (hi : l[i]? = some x) (hN : N0 ≤ w.heap.size) (hin : x.1.In N0 w)
    (hsh : (x.1.sh == 3) = true) (hof : x.1.of = [y]) (h0 : 0 ≤ at') (h1 : at' < x.1.n) (hnn : x.1.n ≤ 65536) (hb0 : 0 ≤ x.2.2) (hb1 : x.2.2 ≤ 524288) (hq : at' * (x.2.2 / x.1.n) ≤ 524288) (hd : ∀ h, w.heap.size ≤ h → M h = none) :
    Calls Try.prog 74 #[.pointer (some ⟨g, i * 10, none⟩), .int .i64 at'] w (PtP N0 M w g x 0 (at' * (x.2.2 / x.1.n))) := by
  obtain ⟨pv, hnd, hfz, hpv⟩ := hn.at hg hi
  obtain ⟨⟨y0, y1, y2, y3, y4, y5, y6⟩, c7, c8, c9⟩ := hnd.ten
  have hprt : prtM x = [(y, 0, x.2.2 / x.1.n)] := by unfold prtM; rw [if_pos hsh, hof]
  have hpl : (prtM x).length = 1 := by rw [hprt]; rfl
  have hp0 : (prtM x)[0]? = some (y, 0, x.2.2 / x.1.n) := by rw [hprt]; rfl
  obtain ⟨go', oo, hop, hgo, hco, hyin⟩ := hin.of 0 (by rw [hof]; simp)
  have hx0 : x.1.of[0]'(by rw [hof]; simp) = y := by simp [hof]
  rw [hx0] at hco
  simp only [Nat.zero_mul, Nat.add_zero] at hco
  have hol : x.1.of.length = 1 := by rw [hof]; rfl
  rw [hop, hol] at y3
  have hgolt : go' < w.heap.size := Nat.lt_of_lt_of_le hgo hN
  have q0 := hco 0 (by decide)
  have q1 := hco 1 (by decide)
  have q2 := hco 2 (by decide)
  have q3 := hco 3 (by decide)
  have q4 := hco 4 (by decide)
  have q5 := hco 5 (by decide)
  have q6 := hco 6 (by decide)
  unfold ShT.cs at q0 q1 q2 q3 q4 q5 q6
  simp only [List.getElem?_toArray, List.getElem?_cons_succ, List.getElem?_cons_zero, Nat.add_zero] at q0 q1 q2 q3 q4 q5 q6
  have hglt := hnd.lt
  have hq0 : 0 ≤ x.2.2 / x.1.n := Int.ediv_nonneg hb0 (by omega)
  have hqm : 0 ≤ at' * (x.2.2 / x.1.n) := Int.mul_nonneg h0 hq0
  have hqq : x.2.2 / x.1.n ≤ 524288 := Int.le_trans (Int.ediv_le_self _ hb0) hb1
  have hlt0 : ¬ at' < 0 := by omega
  have hge : ¬ at' ≥ x.1.n := by omega
  have HN := veil hn
  have HG := veil hg
  have HI := veil hi
  have HD := veil hd
  have HNN := veil hN
  rcases hpv with rfl | ⟨g2, c2, rfl, hM2, hc2⟩
  · have hnil := sl_none
    have HST : Hid (∀ W1, Below w.heap.size w W1 → ∀ cs, Bk W1 w.heap.size 117 cs → (∀ (j : Nat) (u : Value), (ndCs (prtM x))[j]? = some u → cs[j]? = some u) → ∀ W2, W2 = W1.setCell ⟨g, i * 10 + 9, none⟩ (.slice (some ⟨w.heap.size, 0, none⟩) 1 1) →
        W2.cell? ⟨g, i * 10 + 9, none⟩ = some (.slice (some ⟨w.heap.size, 0, none⟩) 1 1) ∧ w.heap.size < W2.heap.size ∧ g < W2.heap.size ∧ W2.cell? ⟨w.heap.size, 8, none⟩ = some (.int .i64 (x.2.2 / x.1.n)) ∧
          ∀ w', Below W2.heap.size W2 w' → PtP N0 M w g x 0 (at' * (x.2.2 / x.1.n)) (.returned (.tuple #[.pointer (some ⟨w.heap.size, 0, none⟩), .int .i64 (at' * (x.2.2 / x.1.n))])) w') := fun W1 hb cs hk hc W2 hW2 => by
      obtain ⟨r1, r2, r3, r4, r5⟩ := PtP.new (unveil HN) (unveil HG) (unveil HI) (unveil HNN) (unveil HD) hb (Nat.le_refl _) hk hc 1 (by rw [hpl]; exact Nat.le_refl _) W2 (by rw [hpl]; exact hW2)
      rw [hpl] at r1
      have r8 := (r4 0 _ hp0).2
      simp only [Nat.zero_mul, Nat.zero_add] at r8 r5
      refine ⟨r1, r2, r3, r8, fun w' hw' => ?_⟩
      have := r5 0 (at' * (x.2.2 / x.1.n)) w' hw'
      simpa using this
    have HCS : Hid (∀ (j : Nat) (u : Value), (ndCs (prtM x))[j]? = some u → (ndC y 0 (x.2.2 / x.1.n) (.slice none 0 0))[j]? = some u) := fun j u hu => by
      rw [hprt] at hu
      simpa [ndCs, ndL] using hu
    clear hn hg hi hd hN hin hnd hprt hp0 hof hco hyin hx0 hsh
    generalize PtP N0 M w g x 0 (at' * (x.2.2 / x.1.n)) = PO at *
    generalize ndCs (prtM x) = NC at *
    obtain ⟨Z, hZ⟩ : ∃ Z, at' * (x.2.2 / x.1.n) = Z := ⟨_, rfl⟩
    rw [hZ] at hqm hq HST
    have HZ := veil hZ
    clear hZ
    obtain ⟨QQ, hQQ⟩ : ∃ QQ, x.2.2 / x.1.n = QQ := ⟨_, rfl⟩
    rw [hQQ] at hq0 hqq HZ HST HCS
    have HQQ := veil hQQ
    clear hQQ
    go_enter Try.func74, Try.ntmps74
    go_upto_region 4 with fail
    go_region
    rw [unveil HQQ]
    have HW2 := unveil HST (w.alloc (.cells (ndC y 0 QQ (.slice none 0 0)) 117)).drew ((Below.refl _ w).alloc (Nat.le_refl _) _).drew _ (Bk.new w _ _) (unveil HCS) (((w.setCell ⟨g, i * 10 + 9, none⟩ (.slice (some ⟨w.heap.size, 0, none⟩) 1 1)).alloc (.cells (ndC y 0 QQ (.slice none 0 0)) 117)).drew)
      (by rw [World.setCell_drew, World.setCell_alloc_past _ _ _ _ hglt])
    unfold ndC at HW2
    generalize (((w.setCell ⟨g, i * 10 + 9, none⟩ (.slice (some ⟨w.heap.size, 0, none⟩) 1 1)).alloc (.cells #[.int .i64 y.sh, .int .i64 y.k, .int .i64 y.n, .slice y.op y.of.length y.oc, .slice y.fp y.fs.length y.fc, .bool y.pk, .int .i64 y.al, .int .i64 0, .int .i64 QQ, .slice none 0 0] 117)).drew) = W2 at *
    obtain ⟨r1, r2, r3, r4, r5⟩ := HW2
    have HR5 := veil r5
    clear r5 y0 y1 y2 y3 y4 y5 y6 c7 c8 c9 q0 q1 q2 q3 q4 q5 q6 hfz
    go_wp2_with fail
    go_upto_region 6 with fail
    go_quiet (fail)
    go_wp2_with fail
    rw [unveil HZ, wrp_in (by omega) (by omega)]
    exact unveil HR5 _ (below_drewS (Below.refl _ W2) _)
  · obtain ⟨p7, p8, pl⟩ := (unveil HN).bit hM2 hp0
    simp only at p8
    have hnil := sl_some ⟨g2, 0, none⟩ 1 c2
    have HPO : Hid (∀ w', Below w.heap.size w w' → PtP N0 M w g x 0 (at' * (x.2.2 / x.1.n)) (.returned (.tuple #[.pointer (some ⟨g2, 0 * 10, none⟩), .int .i64 (at' * (x.2.2 / x.1.n))])) w') := fun w' h => PtP.old hn hM2 hd h
    rw [hpl] at c9 hc2
    simp only [Nat.zero_mul, Nat.zero_add] at HPO p8
    clear hn hg hi hd hN hin hnd hprt hp0 hM2 hof hco hyin hx0 hsh p7
    generalize PtP N0 M w g x 0 (at' * (x.2.2 / x.1.n)) = PO at *
    obtain ⟨Z, hZ⟩ : ∃ Z, at' * (x.2.2 / x.1.n) = Z := ⟨_, rfl⟩
    rw [hZ] at hqm hq HPO
    have HZ := veil hZ
    clear hZ
    generalize x.2.2 / x.1.n = QQ at *
    go_enter Try.func74, Try.ntmps74
    go_upto_region 6 with fail
    go_quiet (fail)
    go_wp2_with fail
    rw [unveil HZ, wrp_in (by omega) (by omega)]
    exact unveil HPO _ (below_drewS (Below.refl _ w) _)
end Go.Proofs.Ytkiebejidpebdaa
