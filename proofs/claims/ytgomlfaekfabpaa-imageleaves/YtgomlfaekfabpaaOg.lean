/-
  Package image: the member of a node.
-/
import Derived.Test.YtgomlfaekfabpaaOf
import Derived.BigQuiet
namespace Go.Proofs.Ytgomlfaekfabpaa
open Go Go.RowKit Go.Shelf
set_option linter.unusedVariables false
set_option linter.unusedSimpArgs false

theorem sl_some (a : Addr) (n c : Nat) (W : World) : (binOp .eql 115 (.slice (some a) n c) (.slice none 0 0)).run Try.prog W = .ok (.bool false) W := by kernel_rfl
theorem sl_none (W : World) : (binOp .eql 115 (.slice none 0 0) (.slice none 0 0)).run Try.prog W = .ok (.bool true) W := by kernel_rfl
/-- What element and member tell of a part that is there. -/
def PtP (N0 : Nat) (M : Nat → Option (List (ShT × Int × Int))) (w : World) (g : Nat) (x : ShT × Int × Int) (j : Nat) (b : Int) (e : Ending) (w' : World) : Prop :=
  ∃ M' g2, e = .returned (.tuple #[.pointer (some ⟨g2, j * 10, none⟩), .int .i64 b]) ∧ ExM M M' ∧ NI N0 M' w' ∧ M' g2 = some (prtM x) ∧ w.grownBy w' (some g) ∧ (∀ h, w'.heap.size ≤ h → M' h = none)
/-- The parts that are there already. -/
theorem PtP.old {N0 : Nat} {M : Nat → Option (List (ShT × Int × Int))} {w w' : World} {g g2 j : Nat} {x : ShT × Int × Int} {b : Int} (hn : NI N0 M w) (hM : M g2 = some (prtM x)) (hd : ∀ h, w.heap.size ≤ h → M h = none) (hb : Below w.heap.size w w') : PtP N0 M w g x j b (.returned (.tuple #[.pointer (some ⟨g2, j * 10, none⟩), .int .i64 b])) w' :=
  ⟨M, g2, rfl, fun _ _ h => h, hn.below hb, hM, ⟨(below_grown hb).os, (below_grown hb).tape, (below_grown hb).output, hb.size, fun i hi _ => (below_grown hb).block i hi (by simp)⟩, fun h hh => hd h (Nat.le_trans hb.size hh)⟩
/-- The bit of a part, in its cells. -/
theorem NI.bit {N0 : Nat} {M : Nat → Option (List (ShT × Int × Int))} {W : World} (h : NI N0 M W) {g2 j : Nat} {l : List (ShT × Int × Int)} {y : ShT × Int × Int} (hg : M g2 = some l) (hj : l[j]? = some y) : W.cell? ⟨g2, j * 10 + 7, none⟩ = some (.int .i64 y.2.1) ∧ W.cell? ⟨g2, j * 10 + 8, none⟩ = some (.int .i64 y.2.2) ∧ g2 < W.heap.size := by
  obtain ⟨pv, hn, _⟩ := h.at hg hj
  exact ⟨hn.ten.2.1, hn.ten.2.2.1, hn.lt⟩
set_option maxRecDepth 100000 in
set_option maxHeartbeats 20000000 in
theorem member_yes (N0 : Nat) (M : Nat → Option (List (ShT × Int × Int))) (w : World) (g i k : Nat) (l : List (ShT × Int × Int)) (x y : ShT × Int × Int) (hn : NI N0 M w) (hg : M g = some l) (hi : l[i]? = some x) (hN : N0 ≤ w.heap.size) (hin : x.1.In N0 w)
    (hsh : (x.1.sh == 3) = false) (hme : memL x.1 = ((x.1.ml (meaM 5)).map Prod.snd, 0)) (hfl : x.1.fs.length ≤ 40) (hk : k < x.1.fs.length) (hb : (x.1.fs[k].bits == 0) = false) (hd : ∀ h, w.heap.size ≤ h → M h = none) (hy : (prtM x)[k]? = some y) :
    Calls Try.prog 75 #[.pointer (some ⟨g, i * 10, none⟩), .int .i64 k] w (PtP N0 M w g x k y.2.1) := by
  obtain ⟨pv, hnd, hfz, hpv⟩ := hn.at hg hi
  obtain ⟨⟨y0, y1, y2, y3, y4, y5, y6⟩, c7, c8, c9⟩ := hnd.ten
  obtain ⟨gf, of', hfp, hgf, hcf, _, _⟩ := hin.fs k hk
  obtain ⟨d0, d1, d2, d3, d4, d5, d6, d7, d8⟩ := nine hcf
  have hkl : k < (prtM x).length := (List.getElem?_eq_some_iff.1 hy).1
  have hprt : prtM x = ptsM x.1 := by unfold prtM; rw [if_neg (by rw [hsh]; simp)]
  have HNO := veil (nodes_any x.1 w (hin.mono hN) hme hfl)
  have hglt := hnd.lt
  have hgflt : gf < w.heap.size := Nat.lt_of_lt_of_le hgf hN
  have HN := veil hn
  have HG := veil hg
  have HI := veil hi
  have HD := veil hd
  have HY := veil hy
  have HPRT := veil hprt
  have HNN := veil hN
  have HFL := veil hfl
  have hki : ¬ (k : Int) < 0 := by omega
  have hki2 : ¬ (k : Int) ≥ (x.1.fs.length : Int) := by omega
  rw [← hprt] at HNO
  rw [hfp] at y4
  clear hn hg hi hd hy hprt hN hin hme hfl hcf hnd hsh
  generalize x.1.fs[k] = f at *
  unfold ShT.v ShT.cs at HNO
  rw [hfp] at HNO
  rcases hpv with rfl | ⟨g2, c2, rfl, hM2, hc2⟩
  · have hnil := sl_none
    have HST : Hid (∀ W1 v, W1.ownsRow w.heap.size 117 10 v (prtM x).length (ndCs (prtM x)) → Below w.heap.size w W1 → ∃ g2 c2, v = .slice (some ⟨g2, 0, none⟩) (prtM x).length c2 ∧ g2 < W1.heap.size ∧ g < W1.heap.size ∧ g ≠ g2 ∧ (prtM x).length ≤ c2 ∧ W1.frozen? ⟨g, i * 10 + 9, none⟩ = false ∧ W1.cell? ⟨g, i * 10 + 9, none⟩ = some (.slice none 0 0) ∧
        ∀ W2, W2 = W1.setCell ⟨g, i * 10 + 9, none⟩ (.slice (some ⟨g2, 0, none⟩) (prtM x).length c2) → W2.cell? ⟨g, i * 10 + 9, none⟩ = some (.slice (some ⟨g2, 0, none⟩) (prtM x).length c2) ∧ W2.cell? ⟨g2, k * 10 + 7, none⟩ = some (.int .i64 y.2.1) ∧ g2 < W2.heap.size ∧ g < W2.heap.size ∧
          ∀ w', Below W2.heap.size W2 w' → PtP N0 M w g x k y.2.1 (.returned (.tuple #[.pointer (some ⟨g2, k * 10, none⟩), .int .i64 y.2.1])) w') := fun W1 v hr hb1 => by
      obtain ⟨p, hp⟩ : ∃ p, (prtM x).length = p + 1 := ⟨(prtM x).length - 1, by omega⟩
      have hr' := hr
      rw [hp] at hr'
      rcases hr'.2 with ⟨_, h0⟩ | ⟨g2, c2, cur, rfl, hbg, hgg, hcc, hcm, hcs, hct⟩
      · omega
      · have hgl2 : g2 < W1.heap.size := (Array.getElem?_eq_some_iff.1 hgg).1
        have hn1 := (unveil HN).below hb1
        obtain ⟨pv1, hnd1, hfz1, _⟩ := hn1.at (unveil HG) (unveil HI)
        have hcell1 : W1.cell? ⟨g, i * 10 + 9, none⟩ = some (.slice none 0 0) := (hb1.cell (p := ⟨g, i * 10 + 9, none⟩) hglt).trans c9
        have hadd : NI N0 (addM M g2 (prtM x)) W1 := hn1.add (unveil HD g2 hbg) (Nat.le_trans (unveil HNN) hbg) hgg (fun j u hu => by
          have hct' : cur.toList.take ((p + 1) * 10) = ndCs (prtM x) := hct
          rw [← hct', List.getElem?_take] at hu
          split at hu
          · simpa using hu
          · cases hu)
        have hex := addM_ex (l := prtM x) (unveil HD g2 hbg)
        have hM2 : addM M g2 (prtM x) g2 = some (prtM x) := by unfold addM; rw [if_pos rfl]
        have hset := hadd.set (hex _ _ (unveil HG)) (unveil HI) hM2 (c2 := c2) (by rw [hp]; exact hcc)
        refine ⟨g2, c2, by rw [hp], hgl2, by omega, by omega, by rw [hp]; exact hcc, hfz1, hcell1, fun W2 hW2 => ?_⟩
        subst hW2
        obtain ⟨q7, _, ql⟩ := hset.bit hM2 (unveil HY)
        have hgr : w.grownBy (W1.setCell ⟨g, i * 10 + 9, none⟩ (.slice (some ⟨g2, 0, none⟩) (prtM x).length c2)) (some g) :=
          gr_then ⟨(below_grown hb1).os, (below_grown hb1).tape, (below_grown hb1).output, hb1.size, fun i hi _ => (below_grown hb1).block i hi (by simp)⟩ (gr_set W1 g _ _) (fun r e => by cases e; exact .inr rfl)
        have hcs9 : (W1.setCell ⟨g, i * 10 + 9, none⟩ (.slice (some ⟨g2, 0, none⟩) (prtM x).length c2)).cell? ⟨g, i * 10 + 9, none⟩ = some (.slice (some ⟨g2, 0, none⟩) (prtM x).length c2) := by
          obtain ⟨_, cs, hk, hcn⟩ := hn1.nd g l (unveil HG)
          obtain ⟨pv2, hp2, _⟩ := hcn i x (unveil HI)
          have hlt : i * 10 + 9 < cs.size := (Array.getElem?_eq_some_iff.1 (hp2 9 pv2 rfl)).1
          rw [(hk.set _ _).cell, Array.getElem?_setIfInBounds_self_of_lt hlt]
        have hsz2 : (W1.setCell ⟨g, i * 10 + 9, none⟩ (.slice (some ⟨g2, 0, none⟩) (prtM x).length c2)).heap.size = W1.heap.size := by simp
        refine ⟨hcs9, q7, ql, by rw [hsz2]; omega, fun w' hw' => ⟨addM M g2 (prtM x), g2, rfl, hex, hset.below hw', hM2, gr_then hgr (row := none) (below_grown hw') (fun r e => by cases e), fun h hh => ?_⟩⟩
        have h1 := hw'.size
        rw [hsz2] at h1
        unfold addM
        rw [if_neg (by omega)]
        have h2 := hb1.size
        exact unveil HD h (by omega)
    have hkl2 : (k : Int) < ((prtM x).length : Int) := by omega
    generalize PtP N0 M w g x k y.2.1 = PO at *
    generalize y.2.1 = B at *
    generalize ndCs (prtM x) = NC at *
    generalize (prtM x).length = PL at *
    go_enter Try.func75, Try.ntmps75
    go_upto_region 5 with (go_at_call 89; refine (unveil HNO).mono ?_; rintro e W1 ⟨v1, rfl, hr1, hb1⟩; obtain ⟨g2, c2, rfl, t1, t2, t3, t4, t5, t6, t7⟩ := unveil HST W1 _ hr1 hb1; have HT7 := veil t7; clear t7 hr1 hb1)
    obtain ⟨u1, u2, u3, u4, u5⟩ := unveil HT7 _ rfl
    have HU5 := veil u5
    clear u5
    generalize W1.setCell ⟨g, i * 10 + 9, none⟩ (.slice (some ⟨g2, 0, none⟩) PL c2) = W2 at *
    clear y0 y1 y2 y3 y4 y5 y6 c7 c8 c9 d0 d1 d2 d3 d4 d5 d6 d7 d8 t5 t6
    go_quiet (fail)
    go_wp2_with fail
    exact unveil HU5 _ (below_drewS (Below.refl _ W2) _)
  · obtain ⟨p7, p8, pl⟩ := (unveil HN).bit hM2 (unveil HY)
    have HM2 := veil hM2
    have hc2' : (prtM x).length ≤ c2 := hc2
    have hkl2 : (k : Int) < ((prtM x).length : Int) := by omega
    have HPO : Hid (∀ w', Below w.heap.size w w' → PtP N0 M w g x k y.2.1 (.returned (.tuple #[.pointer (some ⟨g2, k * 10, none⟩), .int .i64 y.2.1])) w') := fun w' h => PtP.old (unveil HN) (unveil HM2) (unveil HD) h
    clear hM2 hc2 HNO
    generalize PtP N0 M w g x k y.2.1 = PO at *
    generalize y.2.1 = B at *
    generalize (prtM x).length = PL at *
    have hnil := sl_some ⟨g2, 0, none⟩ PL c2
    go_enter Try.func75, Try.ntmps75
    go_upto_region 5 with fail
    go_quiet (fail)
    go_wp2_with fail
    exact unveil HPO _ (below_drewS (Below.refl _ w) _)
end Go.Proofs.Ytgomlfaekfabpaa
