/-
  Package shape: walk, of an array.
-/
import Derived.Test.YtgomlfaekfabpaaMc
namespace Go.Proofs.Ytgomlfaekfabpaa
open Go Go.RowKit Go.Shelf
attribute [local go_sem] Oper.semAt_some
set_option linter.unusedVariables false
set_option linter.unusedSimpArgs false

theorem range_pre {full pre : List Mb} {F : Nat → List Mb} {n k : Nat} (h : pre ++ (List.range n).flatMap F <+: full) (hk : k < n) : (pre ++ (List.range k).flatMap F) ++ F k <+: full := by
  refine List.IsPrefix.trans ?_ h
  have hr : (List.range n).flatMap F = (List.range (k + 1)).flatMap F ++ ((List.range (n - (k + 1))).map (fun x => k + 1 + x)).flatMap F := by
    rw [← List.flatMap_append, ← List.range_add]
    congr 2
    omega
  rw [hr, List.range_succ, List.flatMap_append, List.append_assoc, List.append_assoc]
  exact List.prefix_append_right_inj _ |>.2 ((List.prefix_append_right_inj _).2 (by simp))
theorem range_step (pre : List Mb) (F : Nat → List Mb) (k : Nat) : (pre ++ (List.range k).flatMap F) ++ F k = pre ++ (List.range (k + 1)).flatMap F := by
  rw [List.range_succ, List.flatMap_append, List.append_assoc]
  simp
set_option maxRecDepth 100000 in
set_option maxHeartbeats 20000000 in
theorem walk_arr (t x : ShT) (z a fr : Int) (F : Nat → List Mb) (l N0 B0 : Nat) (full pre : List Mb) (J Jx : List Mb → World → Prop) (w : World) (hy : Yd l N0 B0 full J Jx) (h1 : (t.sh == 1) = false) (h2 : (t.sh == 2) = false) (h3 : (t.sh == 3) = true)
    (hof : t.of = [x]) (hn : 1 ≤ t.n) (hn2 : t.n ≤ 65536) (hz : 0 ≤ z) (hz2 : z ≤ 65536) (hnz : ∀ i : Int, 0 ≤ i → i < t.n → i * (8 * z) ≤ 524288) (h0 : 0 ≤ fr) (hf : fr ≤ 268435456) (hin : t.In N0 w)
    (hJ : J pre w) (hB : B0 ≤ w.heap.size) (hN : N0 ≤ w.heap.size) (hpre : pre ++ (List.range t.n.toNat).flatMap F <+: full)
    (hme : ∀ W, x.In W.heap.size W → Calls Try.prog 64 #[x.v] W fun r w' => r = .returned (extV (z, a)) ∧ Below W.heap.size W w')
    (hwk : ∀ (i : Nat) (p : List Mb) (W : World), (i : Int) < t.n → J p W → x.In N0 W → B0 ≤ W.heap.size → N0 ≤ W.heap.size → p ++ F i <+: full → Calls Try.prog 73 #[x.v, .int .i64 (fr + (i : Int) * (8 * z)), .func (.yield l) #[] #[]] W (WkP J Jx N0 B0 full W (p ++ F i))) :
    Calls Try.prog 73 #[t.v, .int .i64 fr, .func (.yield l) #[] #[]] w (WkP J Jx N0 B0 full w (pre ++ (List.range t.n.toNat).flatMap F)) := by
  obtain ⟨g, o, hop, hg, hc, hxin⟩ := hin.of 0 (by rw [hof]; simp)
  have hx0 : t.of[0]'(by rw [hof]; simp) = x := by simp [hof]
  rw [hx0] at hc hxin
  have hol : t.of.length = 1 := by rw [hof]; rfl
  simp only [Nat.zero_mul, Nat.add_zero] at hc
  have HC : Hid (∀ W, WaS N0 B0 l w W t fr → (∀ j, j < 7 → W.cell? ⟨g, o + j, none⟩ = x.cs[j]?) ∧ g < W.heap.size) := fun W h => ⟨fun j hj => (h.yk.be.cell (p := ⟨g, o + j, none⟩) hg).trans (hc j hj), by have := h.yk.size; omega⟩
  have HME : Hid (∀ W, WaS N0 B0 l w W t fr → Calls Try.prog 64 #[x.v] W fun r w' => r = .returned (extV (z, a)) ∧ Below W.heap.size W w') := fun W h => hme W ((hxin.below h.yk.be).mono (Nat.le_trans hN h.yk.size))
  have HWK : Hid (∀ (k : Nat) (W : World), k < t.n.toNat → WaS N0 B0 l w W t fr → J (pre ++ (List.range k).flatMap F) W → Calls Try.prog 73 #[x.v, .int .i64 (fr + (k : Int) * (8 * z)), .func (.yield l) #[] #[]] W (WkP J Jx N0 B0 full W (pre ++ (List.range (k + 1)).flatMap F))) := fun k W hk hS hj => by
    have hp := range_pre hpre hk
    have := hwk k _ W (by omega) hj (hxin.below hS.yk.be) (Nat.le_trans hB hS.yk.size) (Nat.le_trans hN hS.yk.size) hp
    rw [range_step] at this
    exact this
  have HS0 := veil (WaS.new N0 B0 l w t fr hN)
  have HJ0 := veil (hy.aJ.below (((below_new2 w (.cells t.cs 25) (.cells #[.int .i64 fr] 2)).alloc (by simp; omega) (.cells #[.func (.yield l) #[] #[]] 113)).alloc (by simp; omega) (.cells #[.bool false] 4)) hJ)
  have HY := veil hy
  have HN := veil hN
  have HBB := veil hB
  have HNZ := veil hnz
  clear hy hN hB hpre hJ hme hwk hnz hc hx0 hxin hof hin hg
  unfold ShT.v ShT.cs extV at *
  rw [hol, hop] at HS0 HJ0 ⊢
  refine (callsIn_wide (n := 4)).1 ?_
  refine callsIn_of_wp_marks Try.func73 rfl trivial ?_ rfl
  simp only [Try.ntmps73, List.size_toArray, List.length_cons, List.length_nil, Nat.reduceAdd, Nat.reduceSub, Array.replicate_succ, Array.replicate_zero, List.push_toArray, List.append_toArray, List.nil_append, List.cons_append]
  refine wpIn_wide.2 ?_
  go_upto_region 1 with fail
  generalize ((((w.alloc (.cells _ 25)).alloc (.cells #[.int .i64 fr] 2)).alloc (.cells #[.func (.yield l) #[] #[]] 113)).alloc (.cells #[.bool false] 4)) = W0 at HS0 HJ0 ⊢
  obtain ⟨⟨y0, y1, y2, y3, y4, y5, y6⟩, g0, g1, g2, gf⟩ := (unveil HS0).cells
  rw [hop, hol] at y3
  obtain ⟨hcc, hgl⟩ := unveil HC _ (unveil HS0)
  have q0 := hcc 0 (by decide)
  have q1 := hcc 1 (by decide)
  have q2 := hcc 2 (by decide)
  have q3 := hcc 3 (by decide)
  have q4 := hcc 4 (by decide)
  have q5 := hcc 5 (by decide)
  have q6 := hcc 6 (by decide)
  simp only [List.getElem?_toArray, List.getElem?_cons_succ, List.getElem?_cons_zero, Nat.add_zero] at q0 q1 q2 q3 q4 q5 q6
  clear hcc
  have hf := fun W => fldE (.int .i64 z) (.int .i64 a) W
  go_wp2_with (go_at_call 64; refine (unveil HME _ (unveil HS0)).mono ?_; rintro e W1 ⟨rfl, hb1⟩; have HS1 := veil ((unveil HS0).below (unveil HN) hb1); have HJ1 := veil ((unveil HY).aJ.below hb1 (unveil HJ0)); obtain ⟨⟨x0, x1, x2, x3, x4, x5, x6⟩, k0, k1, k2, kf⟩ := (unveil HS1).cells)
  clear y0 y1 y2 y3 y4 y5 y6 g0 g1 g2 gf q0 q1 q2 q3 q4 q5 q6 hgl x0 x1 x2 x3 x4 x5 x6 k0 k1 k2 kf hb1
  go_loopw [41] (fun i wr => ∃ k : Nat, i = .int .i64 k ∧ (k : Int) ≤ t.n ∧ Hid (J (pre ++ (List.range k).flatMap F) wr) ∧ Hid (WaS N0 B0 l w wr t fr)) (fun i wr => t.n.toNat - (intOf i).toNat)
  case atStart => exact ⟨0, rfl, by omega, by rw [List.range_zero, List.flatMap_nil, List.append_nil]; exact HJ1, HS1⟩
  case round =>
    obtain ⟨k, rfl, hk, hJk, hSk⟩ := hrel
    by_cases hlt : (k : Int) < t.n
    · have hki := unveil HNZ k (by omega) hlt
      have hk0 : 0 ≤ (k : Int) * (8 * z) := Int.mul_nonneg (by omega) (by omega)
      have HCK : Hid (∀ W, Hid (WaS N0 B0 l w W t fr) → ((W.cell? ⟨w.heap.size, 3, none⟩ = some (.slice (some ⟨g, o, none⟩) 1 t.oc) ∧ W.cell? ⟨w.heap.size + 1, 0, none⟩ = some (.int .i64 fr) ∧ W.cell? ⟨w.heap.size + 1 + 1, 0, none⟩ = some (.func (.yield l) #[] #[]))) ∧ (W.cell? ⟨g, o, none⟩ = some (.int .i64 x.sh) ∧ W.cell? ⟨g, o + 1, none⟩ = some (.int .i64 x.k) ∧ W.cell? ⟨g, o + 2, none⟩ = some (.int .i64 x.n) ∧ W.cell? ⟨g, o + 3, none⟩ = some (.slice x.op x.of.length x.oc) ∧ W.cell? ⟨g, o + 4, none⟩ = some (.slice x.fp x.fs.length x.fc) ∧ W.cell? ⟨g, o + 5, none⟩ = some (.bool x.pk) ∧ W.cell? ⟨g, o + 6, none⟩ = some (.int .i64 x.al))) := fun W h => by
        obtain ⟨hcc, _⟩ := unveil HC _ (unveil h)
        obtain ⟨⟨y0, y1, y2, y3, y4, y5, y6⟩, g0, g1, g2, gf⟩ := (unveil h).cells
        rw [hop, hol] at y3
        exact ⟨⟨y3, g0, g1⟩, hcc 0 (by decide), hcc 1 (by decide), hcc 2 (by decide), hcc 3 (by decide), hcc 4 (by decide), hcc 5 (by decide), hcc 6 (by decide)⟩
      have HW2 := veil (unveil HWK k wr.drew (by omega) (unveil hSk).drew ((unveil HY).aJ.drew _ _ (unveil hJk)))
      have hkz : ∃ KZ, (k : Int) * (8 * z) = KZ := ⟨_, rfl⟩
      obtain ⟨KZ, hKZ⟩ := hkz
      rw [hKZ] at hki hk0 HW2
      go_upto_region 11 with fail
      refine wp_region_noPanic (wpIn_wide.1 (wpIn_region_mix (ro := none) (n := 0) (fun w' => Hid (WaS N0 B0 l w w' t fr))
        [(0, true), (1, true), (2, true), (3, true), (4, true), (5, true), (6, true), (7, true), (8, true), (9, true), (10, false)]
        11 hmixL (by kernel_rfl) (by kernel_rfl) (by kernel_rfl) (by kernel_rfl) (by kernel_rfl) (by kernel_rfl) (fun _ _ _ _ h => h) (unveil hSk).drew ?_))
      iterate 7 (
        refine mix_pure _ rfl _ (.inl ⟨rfl, fun W hS => (by obtain ⟨⟨y3, g0, g1⟩, q0, q1, q2, q3, q4, q5, q6⟩ := unveil HCK W hS; go_simp; rfl)⟩) (fun B hB => ?_)
        simp only [Act.put, List.setIfInBounds_toArray, List.set_cons_zero, List.set_cons_succ] at hB
        subst hB)
      refine mix_pure _ rfl (.int .i64 KZ) (.inl ⟨rfl, fun W hS => (by go_simp; rw [IntKind.wrap_i64]; omega)⟩) (fun B hB => ?_)
      simp only [List.getElem_toArray, List.getElem_cons_zero, List.getElem_cons_succ, Act.put, List.setIfInBounds_toArray, List.set_cons_zero, List.set_cons_succ] at hB
      subst hB
      refine mix_pure _ rfl (.int .i64 (fr + KZ)) (.inl ⟨rfl, fun W hS => (by go_simp; rw [IntKind.wrap_i64]; omega)⟩) (fun B hB => ?_)
      simp only [List.getElem_toArray, List.getElem_cons_zero, List.getElem_cons_succ, Act.put, List.setIfInBounds_toArray, List.set_cons_zero, List.set_cons_succ] at hB
      subst hB
      refine mix_pure _ rfl _ (.inl ⟨rfl, fun W hS => (by obtain ⟨⟨y3, g0, g1⟩, q0, q1, q2, q3, q4, q5, q6⟩ := unveil HCK W hS; go_simp; rfl)⟩) (fun B hB => ?_)
      simp only [Act.put, List.setIfInBounds_toArray, List.set_cons_zero, List.set_cons_succ] at hB
      subst hB
      refine mix_sole _ rfl (fun K hK => ?_)
      go_simp
      refine ⟨trivial, rfl, (callsIn_wide.2 (unveil HW2)).mono ?_⟩
      rintro e W6 (⟨rfl, hJ6, hk6⟩ | ⟨rfl, hX6, hk6⟩)
      · have HS6 := veil ((unveil hSk).drew.call hk6)
        refine hK _ _ HS6 ?_
        clear hK K
        refine mix_nil ?_
        refine listIn_last rfl (fun K hK => ?_)
        go_simp
        refine hK _ _ ?_
        clear hK K
        go_wp2_with fail
        go_roundw
        case rel => exact ⟨k + 1, by go_num, by omega, hJ6, HS6⟩
        case measure => simp [intOf]; omega
      · have HS6 := veil ((unveil hSk).drew.call hk6)
        refine hK _ _ HS6 ?_
        clear hK K
        refine mix_nil ?_
        refine listIn_last rfl (fun K hK => ?_)
        go_simp
        refine hK _ _ ?_
        clear hK K
        obtain ⟨⟨y0, y1, y2, y3, y4, y5, y6⟩, g0, g1, g2, gf⟩ := (unveil HS6).cells
        go_wp2_with fail
        exact ⟨_, res_w (f := Try.f73) rfl rfl ((unveil HS6).fin (unveil HN) false).1, WkP.end (unveil HY) (unveil HN) (unveil HBB) (unveil HS6) false hX6⟩
    · obtain ⟨⟨y0, y1, y2, y3, y4, y5, y6⟩, g0, g1, g2, gf⟩ := (unveil hSk).cells
      have hkn : t.n.toNat = k := by omega
      have HJK : Hid (J (pre ++ (List.range t.n.toNat).flatMap F) wr) := by rw [hkn]; exact hJk
      clear hkn
      go_wp2_with fail
      exact ⟨_, res_w (f := Try.f73) rfl rfl ((unveil hSk).fin (unveil HN) true).1, WkP.end (unveil HY) (unveil HN) (unveil HBB) (unveil hSk) true (unveil HJK)⟩
end Go.Proofs.Ytgomlfaekfabpaa
