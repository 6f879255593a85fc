/-
  Package image: the element of a node.
-/
import Derived.Test.YtgomlfaekfabpaaOh
namespace Go.Proofs.Ytgomlfaekfabpaa
open Go Go.RowKit Go.Shelf
set_option linter.unusedVariables false
set_option linter.unusedSimpArgs false

theorem wrp_in {n : Int} (h : -9223372036854775808 ≤ n) (h2 : n ≤ 9223372036854775807) : wrap64 n = n := by unfold wrap64; omega
/-- What there is once a node's parts were made and written. -/
theorem PtP.new {N0 : Nat} {M : Nat → Option (List (ShT × Int × Int))} {w W1 : World} {g i g2 : Nat} {l : List (ShT × Int × Int)} {x : ShT × Int × Int} {cs : Array Value} (hn : NI N0 M w) (hg : M g = some l) (hi : l[i]? = some x) (hN : N0 ≤ w.heap.size) (hd : ∀ h, w.heap.size ≤ h → M h = none) (hb1 : Below w.heap.size w W1) (hbg : w.heap.size ≤ g2)
    (hgg : Bk W1 g2 117 cs) (hc : ∀ (j : Nat) (u : Value), (ndCs (prtM x))[j]? = some u → cs[j]? = some u) (c2 : Nat) (hc2 : (prtM x).length ≤ c2) (W2 : World) (hW2 : W2 = W1.setCell ⟨g, i * 10 + 9, none⟩ (.slice (some ⟨g2, 0, none⟩) (prtM x).length c2)) :
    W2.cell? ⟨g, i * 10 + 9, none⟩ = some (.slice (some ⟨g2, 0, none⟩) (prtM x).length c2) ∧ g2 < W2.heap.size ∧ g < W2.heap.size ∧ (∀ j y, (prtM x)[j]? = some y → W2.cell? ⟨g2, j * 10 + 7, none⟩ = some (.int .i64 y.2.1) ∧ W2.cell? ⟨g2, j * 10 + 8, none⟩ = some (.int .i64 y.2.2)) ∧
      ∀ j b w', Below W2.heap.size W2 w' → PtP N0 M w g x j b (.returned (.tuple #[.pointer (some ⟨g2, j * 10, none⟩), .int .i64 b])) w' := by
  subst hW2
  have hgl2 := hgg.lt
  have hn1 := hn.below hb1
  have hglt : g < w.heap.size := by obtain ⟨_, c, hk, _⟩ := hn.nd g l hg; exact hk.lt
  have hadd : NI N0 (addM M g2 (prtM x)) W1 := hn1.add (hd g2 hbg) (Nat.le_trans hN hbg) hgg hc
  have hex := addM_ex (l := prtM x) (hd g2 hbg)
  have hM2 : addM M g2 (prtM x) g2 = some (prtM x) := by unfold addM; rw [if_pos rfl]
  have hset := hadd.set (hex _ _ hg) hi hM2 (c2 := c2) hc2
  have hgr : w.grownBy (W1.setCell ⟨g, i * 10 + 9, none⟩ (.slice (some ⟨g2, 0, none⟩) (prtM x).length c2)) (some g) :=
    gr_then ⟨(below_grown hb1).os, (below_grown hb1).tape, (below_grown hb1).output, hb1.size, fun i hi _ => (below_grown hb1).block i hi (by simp)⟩ (gr_set W1 g _ _) (fun r e => by cases e; exact .inr rfl)
  have hcs9 : (W1.setCell ⟨g, i * 10 + 9, none⟩ (.slice (some ⟨g2, 0, none⟩) (prtM x).length c2)).cell? ⟨g, i * 10 + 9, none⟩ = some (.slice (some ⟨g2, 0, none⟩) (prtM x).length c2) := by
    obtain ⟨_, cs', hk, hcn⟩ := hn1.nd g l hg
    obtain ⟨pv2, hp2, _⟩ := hcn i x hi
    have hlt : i * 10 + 9 < cs'.size := (Array.getElem?_eq_some_iff.1 (hp2 9 pv2 rfl)).1
    rw [(hk.set _ _).cell, Array.getElem?_setIfInBounds_self_of_lt hlt]
  have hsz2 : (W1.setCell ⟨g, i * 10 + 9, none⟩ (.slice (some ⟨g2, 0, none⟩) (prtM x).length c2)).heap.size = W1.heap.size := by simp
  have h2 := hb1.size
  refine ⟨hcs9, by rw [hsz2]; exact hgl2, by rw [hsz2]; omega, fun j y hy => ⟨(hset.bit hM2 hy).1, (hset.bit hM2 hy).2.1⟩, fun j b w' hw' => ⟨addM M g2 (prtM x), g2, rfl, hex, hset.below hw', hM2, gr_then hgr (row := none) (below_grown hw') (fun r e => by cases e), fun h hh => ?_⟩⟩
  have h1 := hw'.size
  rw [hsz2] at h1
  unfold addM
  rw [if_neg (by omega)]
  exact hd h (by omega)
set_option maxRecDepth 100000 in
set_option maxHeartbeats 20000000 in
theorem element_yes (N0 : Nat) (M : Nat → Option (List (ShT × Int × Int))) (w : World) (g i : Nat) (at' : Int) (l : List (ShT × Int × Int)) (x : ShT × Int × Int) (y : ShT) (hn : NI N0 M w) (hg : M g = some l) (hi : l[i]? = some x) (hN : N0 ≤ w.heap.size) (hin : x.1.In N0 w)
    (hsh : (x.1.sh == 3) = true) (hof : x.1.of = [y]) (h0 : 0 ≤ at') (h1 : at' < x.1.n) (hnn : x.1.n ≤ 65536) (hb0 : 0 ≤ x.2.2) (hb1 : x.2.2 ≤ 524288) (hq : at' * (x.2.2 / x.1.n) ≤ 524288) (hd : ∀ h, w.heap.size ≤ h → M h = none) :
    Calls Try.prog 74 #[.pointer (some ⟨g, i * 10, none⟩), .int .i64 at'] w (PtP N0 M w g x 0 (at' * (x.2.2 / x.1.n))) := by
  obtain ⟨pv, hnd, hfz, hpv⟩ := hn.at hg hi
  obtain ⟨⟨y0, y1, y2, y3, y4, y5, y6⟩, c7, c8, c9⟩ := hnd.ten
  have hprt : prtM x = [(y, 0, x.2.2 / x.1.n)] := by unfold prtM; rw [if_pos hsh, hof]
  have hpl : (prtM x).length = 1 := by rw [hprt]; rfl
  have hp0 : (prtM x)[0]? = some (y, 0, x.2.2 / x.1.n) := by rw [hprt]; rfl
  obtain ⟨go', oo, hop, hgo, hco, hyin⟩ := hin.of 0 (by rw [hof]; simp)
  have hx0 : x.1.of[0]'(by rw [hof]; simp) = y := by simp [hof]
  rw [hx0] at hco
  simp only [Nat.zero_mul, Nat.add_zero] at hco
  have hol : x.1.of.length = 1 := by rw [hof]; rfl
  rw [hop, hol] at y3
  have hgolt : go' < w.heap.size := Nat.lt_of_lt_of_le hgo hN
  have q0 := hco 0 (by decide)
  have q1 := hco 1 (by decide)
  have q2 := hco 2 (by decide)
  have q3 := hco 3 (by decide)
  have q4 := hco 4 (by decide)
  have q5 := hco 5 (by decide)
  have q6 := hco 6 (by decide)
  unfold ShT.cs at q0 q1 q2 q3 q4 q5 q6
  simp only [List.getElem?_toArray, List.getElem?_cons_succ, List.getElem?_cons_zero, Nat.add_zero] at q0 q1 q2 q3 q4 q5 q6
  have hglt := hnd.lt
  have hq0 : 0 ≤ x.2.2 / x.1.n := Int.ediv_nonneg hb0 (by omega)
  have hqm : 0 ≤ at' * (x.2.2 / x.1.n) := Int.mul_nonneg h0 hq0
  have hqq : x.2.2 / x.1.n ≤ 524288 := Int.le_trans (Int.ediv_le_self _ hb0) hb1
  have hlt0 : ¬ at' < 0 := by omega
  have hge : ¬ at' ≥ x.1.n := by omega
  have HN := veil hn
  have HG := veil hg
  have HI := veil hi
  have HD := veil hd
  have HNN := veil hN
  rcases hpv with rfl | ⟨g2, c2, rfl, hM2, hc2⟩
  · have hnil := sl_none
    have HST : Hid (∀ W1, Below w.heap.size w W1 → ∀ cs, Bk W1 w.heap.size 117 cs → (∀ (j : Nat) (u : Value), (ndCs (prtM x))[j]? = some u → cs[j]? = some u) → ∀ W2, W2 = W1.setCell ⟨g, i * 10 + 9, none⟩ (.slice (some ⟨w.heap.size, 0, none⟩) 1 1) →
        W2.cell? ⟨g, i * 10 + 9, none⟩ = some (.slice (some ⟨w.heap.size, 0, none⟩) 1 1) ∧ w.heap.size < W2.heap.size ∧ g < W2.heap.size ∧ W2.cell? ⟨w.heap.size, 8, none⟩ = some (.int .i64 (x.2.2 / x.1.n)) ∧
          ∀ w', Below W2.heap.size W2 w' → PtP N0 M w g x 0 (at' * (x.2.2 / x.1.n)) (.returned (.tuple #[.pointer (some ⟨w.heap.size, 0, none⟩), .int .i64 (at' * (x.2.2 / x.1.n))])) w') := fun W1 hb cs hk hc W2 hW2 => by
      obtain ⟨r1, r2, r3, r4, r5⟩ := PtP.new (unveil HN) (unveil HG) (unveil HI) (unveil HNN) (unveil HD) hb (Nat.le_refl _) hk hc 1 (by rw [hpl]; exact Nat.le_refl _) W2 (by rw [hpl]; exact hW2)
      rw [hpl] at r1
      have r8 := (r4 0 _ hp0).2
      simp only [Nat.zero_mul, Nat.zero_add] at r8 r5
      refine ⟨r1, r2, r3, r8, fun w' hw' => ?_⟩
      have := r5 0 (at' * (x.2.2 / x.1.n)) w' hw'
      simpa using this
    have HCS : Hid (∀ (j : Nat) (u : Value), (ndCs (prtM x))[j]? = some u → (ndC y 0 (x.2.2 / x.1.n) (.slice none 0 0))[j]? = some u) := fun j u hu => by
      rw [hprt] at hu
      simpa [ndCs, ndL] using hu
    clear hn hg hi hd hN hin hnd hprt hp0 hof hco hyin hx0 hsh
    generalize PtP N0 M w g x 0 (at' * (x.2.2 / x.1.n)) = PO at *
    generalize ndCs (prtM x) = NC at *
    obtain ⟨Z, hZ⟩ : ∃ Z, at' * (x.2.2 / x.1.n) = Z := ⟨_, rfl⟩
    rw [hZ] at hqm hq HST
    have HZ := veil hZ
    clear hZ
    obtain ⟨QQ, hQQ⟩ : ∃ QQ, x.2.2 / x.1.n = QQ := ⟨_, rfl⟩
    rw [hQQ] at hq0 hqq HZ HST HCS
    have HQQ := veil hQQ
    clear hQQ
    go_enter Try.func74, Try.ntmps74
    go_upto_region 4 with fail
    go_region
    rw [unveil HQQ]
    have HW2 := unveil HST (w.alloc (.cells (ndC y 0 QQ (.slice none 0 0)) 117)).drew ((Below.refl _ w).alloc (Nat.le_refl _) _).drew _ (Bk.new w _ _) (unveil HCS) (((w.setCell ⟨g, i * 10 + 9, none⟩ (.slice (some ⟨w.heap.size, 0, none⟩) 1 1)).alloc (.cells (ndC y 0 QQ (.slice none 0 0)) 117)).drew)
      (by rw [World.setCell_drew, World.setCell_alloc_past _ _ _ _ hglt])
    unfold ndC at HW2
    generalize (((w.setCell ⟨g, i * 10 + 9, none⟩ (.slice (some ⟨w.heap.size, 0, none⟩) 1 1)).alloc (.cells #[.int .i64 y.sh, .int .i64 y.k, .int .i64 y.n, .slice y.op y.of.length y.oc, .slice y.fp y.fs.length y.fc, .bool y.pk, .int .i64 y.al, .int .i64 0, .int .i64 QQ, .slice none 0 0] 117)).drew) = W2 at *
    obtain ⟨r1, r2, r3, r4, r5⟩ := HW2
    have HR5 := veil r5
    clear r5 y0 y1 y2 y3 y4 y5 y6 c7 c8 c9 q0 q1 q2 q3 q4 q5 q6 hfz
    go_wp2_with fail
    go_upto_region 6 with fail
    go_quiet (fail)
    go_wp2_with fail
    rw [unveil HZ, wrp_in (by omega) (by omega)]
    exact unveil HR5 _ (below_drewS (Below.refl _ W2) _)
  · obtain ⟨p7, p8, pl⟩ := (unveil HN).bit hM2 hp0
    simp only at p8
    have hnil := sl_some ⟨g2, 0, none⟩ 1 c2
    have HPO : Hid (∀ w', Below w.heap.size w w' → PtP N0 M w g x 0 (at' * (x.2.2 / x.1.n)) (.returned (.tuple #[.pointer (some ⟨g2, 0 * 10, none⟩), .int .i64 (at' * (x.2.2 / x.1.n))])) w') := fun w' h => PtP.old hn hM2 hd h
    rw [hpl] at c9 hc2
    simp only [Nat.zero_mul, Nat.zero_add] at HPO p8
    clear hn hg hi hd hN hin hnd hprt hp0 hM2 hof hco hyin hx0 hsh p7
    generalize PtP N0 M w g x 0 (at' * (x.2.2 / x.1.n)) = PO at *
    obtain ⟨Z, hZ⟩ : ∃ Z, at' * (x.2.2 / x.1.n) = Z := ⟨_, rfl⟩
    rw [hZ] at hqm hq HPO
    have HZ := veil hZ
    clear hZ
    generalize x.2.2 / x.1.n = QQ at *
    go_enter Try.func74, Try.ntmps74
    go_upto_region 6 with fail
    go_quiet (fail)
    go_wp2_with fail
    rw [unveil HZ, wrp_in (by omega) (by omega)]
    exact unveil HPO _ (below_drewS (Below.refl _ w) _)
end Go.Proofs.Ytgomlfaekfabpaa
