/-
  Package kind: count, the walk.
-/
import Derived.Test.YtmpkgjonbjpohaaGreatDoorHh
namespace Go.Proofs.YtmpkgjonbjpohaaGreatDoor
open Go Go.RowKit Go.Shelf
attribute [local go_sem] Oper.semAt_some
set_option linter.unusedVariables false
set_option linter.unusedSimpArgs false

set_option maxRecDepth 100000 in
set_option maxHeartbeats 4000000 in
theorem count_any (p : Option Addr) (cap : Nat) (l : List (List UInt8)) (w : World) (hl : l.length ≤ 9223372036854775806) (hT : StG w.heap.size w (.slice p l.length cap) l) (hmo : Mo w) (hw0 : 10 < w.heap.size) :
    Calls Tryz.prog 136 #[.slice p l.length cap] w fun e w' => e = .returned (.tuple #[.agg (cntM zTy l).1.cells, .bool ((cntM zTy l).2 && decide (0 < l.length))]) ∧ Below w.heap.size w w' := by
  have HT := veil hT
  have HMO := veil hmo
  obtain ⟨R, hR0⟩ : ∃ R, cntM zTy l = R := ⟨_, rfl⟩
  rw [hR0]
  have HR0 := veil hR0
  clear hR0 hT hmo
  refine (callsIn_wide (n := 4)).1 ?_
  refine callsIn_of_wp_marks Tryz.func136 rfl trivial ?_ rfl
  simp only [Tryz.ntmps136, List.size_toArray, List.length_cons, List.length_nil, Nat.reduceAdd, Nat.reduceSub, Array.replicate_succ, Array.replicate_zero, List.push_toArray, List.append_toArray, List.nil_append, List.cons_append]
  gi_wp2
  refine wpIn_scope_straight ?_
  gi_wp2
  refine wpIn_label ?_
  gi_wp2_with (refine ⟨trivial, ?_⟩; gi_at_call 157; refine (callsIn_wide.2 (kplaced_any p l.length cap _)).mono ?_; rintro e w' ⟨rfl, rfl⟩)
  have hz : ((((w.alloc (.cells #[.int .i64 0, .int .i64 0, .int .i64 0, .int .i64 0, .int .i64 0, .int .i64 0] 171)).alloc (.cells #[.int .i64 0, .int .i64 0, .int .i64 0, .int .i64 0, .int .i64 0, .int .i64 0] 171)).alloc (.cells #[.bool (decide (0 < l.length))] 4)).alloc (.cells #[.slice p l.length cap] 91)).heap.size = w.heap.size + 4 := by simp
  have hbe : Below w.heap.size w ((((w.alloc (.cells #[.int .i64 0, .int .i64 0, .int .i64 0, .int .i64 0, .int .i64 0, .int .i64 0] 171)).alloc (.cells #[.int .i64 0, .int .i64 0, .int .i64 0, .int .i64 0, .int .i64 0, .int .i64 0] 171)).alloc (.cells #[.bool (decide (0 < l.length))] 4)).alloc (.cells #[.slice p l.length cap] 91)) := ((((Below.refl _ w).alloc (Nat.le_refl _) _).alloc (by simp) _).alloc (by simp; omega) _).alloc (by simp; omega) _
  have b0 : TBox ((((w.alloc (.cells #[.int .i64 0, .int .i64 0, .int .i64 0, .int .i64 0, .int .i64 0, .int .i64 0] 171)).alloc (.cells #[.int .i64 0, .int .i64 0, .int .i64 0, .int .i64 0, .int .i64 0, .int .i64 0] 171)).alloc (.cells #[.bool (decide (0 < l.length))] 4)).alloc (.cells #[.slice p l.length cap] 91)) w.heap.size zTy := ((Below.heap_alloc _ _ _ (by simp; omega)).trans ((Below.heap_alloc _ _ _ (by simp; omega)).trans ((Below.heap_alloc _ _ _ (by simp)).trans (World.alloc_heap_new w _))))
  have b1 : TBox ((((w.alloc (.cells #[.int .i64 0, .int .i64 0, .int .i64 0, .int .i64 0, .int .i64 0, .int .i64 0] 171)).alloc (.cells #[.int .i64 0, .int .i64 0, .int .i64 0, .int .i64 0, .int .i64 0, .int .i64 0] 171)).alloc (.cells #[.bool (decide (0 < l.length))] 4)).alloc (.cells #[.slice p l.length cap] 91)) (w.heap.size + 1) zTy := by
    have := (Below.heap_alloc _ (.cells #[.slice p l.length cap] 91) _ (by simp)).trans ((Below.heap_alloc _ (.cells #[.bool (decide (0 < l.length))] 4) _ (by simp)).trans (World.alloc_heap_new (w.alloc (.cells #[.int .i64 0, .int .i64 0, .int .i64 0, .int .i64 0, .int .i64 0, .int .i64 0] 171)) (.cells #[.int .i64 0, .int .i64 0, .int .i64 0, .int .i64 0, .int .i64 0, .int .i64 0] 171)))
    rwa [World.size_alloc] at this
  have b2 : Boxed ((((w.alloc (.cells #[.int .i64 0, .int .i64 0, .int .i64 0, .int .i64 0, .int .i64 0, .int .i64 0] 171)).alloc (.cells #[.int .i64 0, .int .i64 0, .int .i64 0, .int .i64 0, .int .i64 0, .int .i64 0] 171)).alloc (.cells #[.bool (decide (0 < l.length))] 4)).alloc (.cells #[.slice p l.length cap] 91)) (w.heap.size + 2) 4 (.bool (decide (0 < l.length))) := by
    have := (Boxed.new ((w.alloc (.cells #[.int .i64 0, .int .i64 0, .int .i64 0, .int .i64 0, .int .i64 0, .int .i64 0] 171)).alloc (.cells #[.int .i64 0, .int .i64 0, .int .i64 0, .int .i64 0, .int .i64 0, .int .i64 0] 171)) 4 (.bool (decide (0 < l.length)))).alloc (.cells #[.slice p l.length cap] 91)
    rwa [World.size_alloc, World.size_alloc] at this
  have b3 : Boxed ((((w.alloc (.cells #[.int .i64 0, .int .i64 0, .int .i64 0, .int .i64 0, .int .i64 0, .int .i64 0] 171)).alloc (.cells #[.int .i64 0, .int .i64 0, .int .i64 0, .int .i64 0, .int .i64 0, .int .i64 0] 171)).alloc (.cells #[.bool (decide (0 < l.length))] 4)).alloc (.cells #[.slice p l.length cap] 91)) (w.heap.size + 3) 91 (.slice p l.length cap) := by
    have := Boxed.new (((w.alloc (.cells #[.int .i64 0, .int .i64 0, .int .i64 0, .int .i64 0, .int .i64 0, .int .i64 0] 171)).alloc (.cells #[.int .i64 0, .int .i64 0, .int .i64 0, .int .i64 0, .int .i64 0, .int .i64 0] 171)).alloc (.cells #[.bool (decide (0 < l.length))] 4)) 91 (.slice p l.length cap)
    rwa [World.size_alloc, World.size_alloc, World.size_alloc] at this
  generalize ((((w.alloc (.cells #[.int .i64 0, .int .i64 0, .int .i64 0, .int .i64 0, .int .i64 0, .int .i64 0] 171)).alloc (.cells #[.int .i64 0, .int .i64 0, .int .i64 0, .int .i64 0, .int .i64 0, .int .i64 0] 171)).alloc (.cells #[.bool (decide (0 < l.length))] 4)).alloc (.cells #[.slice p l.length cap] 91)) = W0 at *
  generalize hD : decide (0 < l.length) = D at *
  refine wpIn_rangeFunc_ownO (k := 0) rfl (by decide) (gf := 171) (lb := #[.pointer (some ⟨w.heap.size + 1 + 1 + 1, 0, none⟩)]) rfl trivial (enters_of Tryz.func171 (by kernel_rfl) rfl)
    (placed_stops 3 (by decide) (w.heap.size + 3) w.heap.size p cap l hl W0 (by omega) b3 ((unveil HT).below hbe)) Below.trans (fun W lb o o' hlb hlo _ _ => ?kb) (Below.refl _ _) (fun _ => rfl)
    (CrI w l R) (fun c _ W => CrX w R c W) (by rw [hz]; exact CrI.abides w l R) (fun c => by rw [hz]; exact CrX.abides w R c)
    ⟨zTy, b1, by unfold Hid Ty.ok zTy; simp, b0, by rw [hD]; exact b2, hbe, fun rest h => by rw [List.nil_append] at h; rw [h]; exact unveil HR0⟩
    (fun x => { tmps := #[.slice p l.length cap, undef, .pointer (some ⟨w.heap.size, 0, none⟩), .bool false, .pointer (some ⟨w.heap.size + 1, 0, none⟩), .pointer (some ⟨w.heap.size + 1 + 1, 0, none⟩), .int .i64 (plcM x), .bool (thrM x), .slice p l.length cap, .int .i64 l.length, .bool D, .slice p l.length cap, .func (.func 171) #[] #[.pointer (some ⟨w.heap.size + 1 + 1 + 1, 0, none⟩)], .int .i64 (plcM x), .bool (thrM x), undef, undef, undef, undef, undef, undef, undef, undef, undef, undef, undef, undef, undef, undef, undef, undef, undef, undef], defers := [] })
    ?assign ?body ?done ?stop
  case kb =>
    have hlt := (Array.getElem?_eq_some_iff.1 hlo).1
    exact (Below.refl _ W).grown (grownBy_putObj' W lb o') (by omega) (fun r e => by cases e; omega)
  case assign =>
    intro l' x W' K hK
    simp only [encS] at hK ⊢
    gi_wp2
    simpa using hK
  case body =>
    rintro l' pre x W1 hA hno ⟨T, c1, hok, c0, c2, hbe1, hcol⟩ hpre
    rw [hz] at hA hno
    obtain ⟨rest, hrest⟩ := hpre
    have hcol1 := unveil hcol (x :: rest) (by rw [← hrest]; simp)
    obtain ⟨m0, m1, m2, m3, m4, m5⟩ := (unveil HMO).below hbe1 hw0
    obtain ⟨t0, t1, t2, t3, t4, t5⟩ := c1.six
    have f0 := c1.frozen 0
    have f1 := c1.frozen 1
    have f2 := c1.frozen 2
    have f3 := c1.frozen 3
    have f4 := c1.frozen 4
    have f5 := c1.frozen 5
    have d2 := c2.cell
    have e2 := c2.frozen
    have hmix : Tryz.prog.follows .mixedOrders = true := by kernel_rfl
    have hX : T.more x = none → KeepsFrom W0.heap.size W1 (W1.drew.setCell ⟨w.heap.size + 1 + 1, 0, none⟩ (.bool false)) ∧ KeepsO (W0.heap.size + 2) 0 W1 (W1.drew.setCell ⟨w.heap.size + 1 + 1, 0, none⟩ (.bool false)) ∧ CrX w R (.exit 0) (W1.drew.setCell ⟨w.heap.size + 1 + 1, 0, none⟩ (.bool false)) := fun hm =>
      ⟨((KeepsOthers.drew _).from _).trans ((KeepsOthers.setCell _ _ _).from _), (KeepsO.drew _).trans (KeepsO.setCell (.inl (by omega))), rfl, T, (TBox.drewK c1).setCell (by omega) _, (TBox.drewK c0).setCell (by omega) _, Boxed.set _ (BoxedK.drew c2), (drewK hbe1).setCell (p := ⟨w.heap.size + 1 + 1, 0, none⟩) (by show _ ≤ w.heap.size + 1 + 1; omega) _, by
        rw [cntM, hm] at hcol1
        exact hcol1.symm⟩
    have hN : ∀ (T' : Ty) (i : Nat) (v : Value), T.more x = some T' → T.cells.setIfInBounds i v = T'.cells → KeepsFrom W0.heap.size W1 (W1.drew.setCell ⟨w.heap.size + 1, i, none⟩ v) ∧ KeepsO (W0.heap.size + 2) 0 W1 (W1.drew.setCell ⟨w.heap.size + 1, i, none⟩ v) ∧ Below w.heap.size W1 (W1.drew.setCell ⟨w.heap.size + 1, i, none⟩ v) ∧ CrI w l R (pre ++ [x]) (W1.drew.setCell ⟨w.heap.size + 1, i, none⟩ v) := fun T' i v hm hc =>
      ⟨((KeepsOthers.drew _).from _).trans ((KeepsOthers.setCell _ _ _).from _), (KeepsO.drew _).trans (KeepsO.grown (grown_setK _ _ _ _) (fun r e => .inl (by cases e; omega))), (drewK (Below.refl _ W1)).setCell (p := ⟨w.heap.size + 1, i, none⟩) (by show _ ≤ w.heap.size + 1; omega) _, T', (TBox.drewK c1).put i v hc, (more_some hm (unveil hok)).1, (TBox.drewK c0).setCell (by omega) _, BoxedK.setCell (BoxedK.drew c2) (by omega) _, (drewK hbe1).setCell (p := ⟨w.heap.size + 1, i, none⟩) (by show _ ≤ w.heap.size + 1; omega) _, fun rest' h => by
        rw [List.append_assoc] at h
        have := unveil hcol _ h
        rw [← this]
        exact ((more_some hm (unveil hok)).2 _).symm⟩
    have HX := veil hX
    have HN := veil hN
    have HOK := unveil hok
    unfold Ty.ok at HOK
    obtain ⟨⟨o0, p0⟩, ⟨o1, p1⟩, ⟨o2, p2⟩, ⟨o3, p3⟩, ⟨o4, p4⟩, ⟨o5, p5⟩⟩ := HOK
    have hl1 : w.heap.size + 1 < W1.heap.size := c1.lt
    have hl2 : w.heap.size + 1 + 1 < W1.heap.size := c2.lt
    clear hX hN hcol1 hcol hok hno hrest c0 c1 c2
    unfold Ty.more at HX HN
    obtain ⟨tc, ts, tl, ti, tg, tu⟩ := T
    simp only [Ty.cells] at *
    rcases plc_cases x with ⟨hth, hpl⟩ | ⟨hth, hpl⟩
    · rw [hth] at HX HN ⊢
      rw [hpl] at HX HN ⊢
      gi_wp2
      refine wpIn_region_still_round 10 hmix (by kernel_rfl) (by kernel_rfl) ?_
      simp only [List.take_succ_cons, List.take_zero, List.drop_succ_cons, List.drop_zero]
      refine still_first (fun K hK => ?_)
      iterate 10 (refine still_next hK (fun K1 hK1 => ?_); clear hK K; revert K1 hK1; intro K hK; go_simp)
      refine still_last hK ?_
      gi_wp2
      exact unveil HX rfl
    · rcases hpl with hpl | hpl | hpl | hpl | hpl | hpl
      · rw [hth] at HX HN ⊢
        rw [hpl] at HX HN ⊢
        cases hq : tc == 1
        · gi_wp2
          refine wpIn_region_still_round 10 hmix (by kernel_rfl) (by kernel_rfl) ?_
          simp only [List.take_succ_cons, List.take_zero, List.drop_succ_cons, List.drop_zero]
          refine still_first (fun K hK => ?_)
          iterate 10 (refine still_next hK (fun K1 hK1 => ?_); clear hK K; revert K1 hK1; intro K hK; go_simp)
          refine still_last hK ?_
          gi_wp2
          exact unveil HN ⟨tc + 1, ts, tl, ti, tg, tu⟩ 0 _ (by simp [hq]) rfl
        · gi_wp2
          refine wpIn_region_still_round 10 hmix (by kernel_rfl) (by kernel_rfl) ?_
          simp only [List.take_succ_cons, List.take_zero, List.drop_succ_cons, List.drop_zero]
          refine still_first (fun K hK => ?_)
          iterate 10 (refine still_next hK (fun K1 hK1 => ?_); clear hK K; revert K1 hK1; intro K hK; go_simp)
          refine still_last hK ?_
          gi_wp2
          exact unveil HX (by simp [hq])
      · rw [hth] at HX HN ⊢
        rw [hpl] at HX HN ⊢
        cases hq : ts == 1
        · gi_wp2
          refine wpIn_region_still_round 10 hmix (by kernel_rfl) (by kernel_rfl) ?_
          simp only [List.take_succ_cons, List.take_zero, List.drop_succ_cons, List.drop_zero]
          refine still_first (fun K hK => ?_)
          iterate 10 (refine still_next hK (fun K1 hK1 => ?_); clear hK K; revert K1 hK1; intro K hK; go_simp)
          refine still_last hK ?_
          gi_wp2
          exact unveil HN ⟨tc, ts + 1, tl, ti, tg, tu⟩ 1 _ (by simp [hq]) rfl
        · gi_wp2
          refine wpIn_region_still_round 10 hmix (by kernel_rfl) (by kernel_rfl) ?_
          simp only [List.take_succ_cons, List.take_zero, List.drop_succ_cons, List.drop_zero]
          refine still_first (fun K hK => ?_)
          iterate 10 (refine still_next hK (fun K1 hK1 => ?_); clear hK K; revert K1 hK1; intro K hK; go_simp)
          refine still_last hK ?_
          gi_wp2
          exact unveil HX (by simp [hq])
      · rw [hth] at HX HN ⊢
        rw [hpl] at HX HN ⊢
        cases hq : tl == 2
        · gi_wp2
          refine wpIn_region_still_round 10 hmix (by kernel_rfl) (by kernel_rfl) ?_
          simp only [List.take_succ_cons, List.take_zero, List.drop_succ_cons, List.drop_zero]
          refine still_first (fun K hK => ?_)
          iterate 10 (refine still_next hK (fun K1 hK1 => ?_); clear hK K; revert K1 hK1; intro K hK; go_simp)
          refine still_last hK ?_
          gi_wp2
          exact unveil HN ⟨tc, ts, tl + 1, ti, tg, tu⟩ 2 _ (by simp [hq]) rfl
        · gi_wp2
          refine wpIn_region_still_round 10 hmix (by kernel_rfl) (by kernel_rfl) ?_
          simp only [List.take_succ_cons, List.take_zero, List.drop_succ_cons, List.drop_zero]
          refine still_first (fun K hK => ?_)
          iterate 10 (refine still_next hK (fun K1 hK1 => ?_); clear hK K; revert K1 hK1; intro K hK; go_simp)
          refine still_last hK ?_
          gi_wp2
          exact unveil HX (by simp [hq])
      · rw [hth] at HX HN ⊢
        rw [hpl] at HX HN ⊢
        cases hq : ti == 1
        · gi_wp2
          refine wpIn_region_still_round 10 hmix (by kernel_rfl) (by kernel_rfl) ?_
          simp only [List.take_succ_cons, List.take_zero, List.drop_succ_cons, List.drop_zero]
          refine still_first (fun K hK => ?_)
          iterate 10 (refine still_next hK (fun K1 hK1 => ?_); clear hK K; revert K1 hK1; intro K hK; go_simp)
          refine still_last hK ?_
          gi_wp2
          exact unveil HN ⟨tc, ts, tl, ti + 1, tg, tu⟩ 3 _ (by simp [hq]) rfl
        · gi_wp2
          refine wpIn_region_still_round 10 hmix (by kernel_rfl) (by kernel_rfl) ?_
          simp only [List.take_succ_cons, List.take_zero, List.drop_succ_cons, List.drop_zero]
          refine still_first (fun K hK => ?_)
          iterate 10 (refine still_next hK (fun K1 hK1 => ?_); clear hK K; revert K1 hK1; intro K hK; go_simp)
          refine still_last hK ?_
          gi_wp2
          exact unveil HX (by simp [hq])
      · rw [hth] at HX HN ⊢
        rw [hpl] at HX HN ⊢
        cases hq : tg == 1
        · gi_wp2
          refine wpIn_region_still_round 10 hmix (by kernel_rfl) (by kernel_rfl) ?_
          simp only [List.take_succ_cons, List.take_zero, List.drop_succ_cons, List.drop_zero]
          refine still_first (fun K hK => ?_)
          iterate 10 (refine still_next hK (fun K1 hK1 => ?_); clear hK K; revert K1 hK1; intro K hK; go_simp)
          refine still_last hK ?_
          gi_wp2
          exact unveil HN ⟨tc, ts, tl, ti, tg + 1, tu⟩ 4 _ (by simp [hq]) rfl
        · gi_wp2
          refine wpIn_region_still_round 10 hmix (by kernel_rfl) (by kernel_rfl) ?_
          simp only [List.take_succ_cons, List.take_zero, List.drop_succ_cons, List.drop_zero]
          refine still_first (fun K hK => ?_)
          iterate 10 (refine still_next hK (fun K1 hK1 => ?_); clear hK K; revert K1 hK1; intro K hK; go_simp)
          refine still_last hK ?_
          gi_wp2
          exact unveil HX (by simp [hq])
      · rw [hth] at HX HN ⊢
        rw [hpl] at HX HN ⊢
        cases hq : tu == 1
        · gi_wp2
          refine wpIn_region_still_round 10 hmix (by kernel_rfl) (by kernel_rfl) ?_
          simp only [List.take_succ_cons, List.take_zero, List.drop_succ_cons, List.drop_zero]
          refine still_first (fun K hK => ?_)
          iterate 10 (refine still_next hK (fun K1 hK1 => ?_); clear hK K; revert K1 hK1; intro K hK; go_simp)
          refine still_last hK ?_
          gi_wp2
          exact unveil HN ⟨tc, ts, tl, ti, tg, tu + 1⟩ 5 _ (by simp [hq]) rfl
        · gi_wp2
          refine wpIn_region_still_round 10 hmix (by kernel_rfl) (by kernel_rfl) ?_
          simp only [List.take_succ_cons, List.take_zero, List.drop_succ_cons, List.drop_zero]
          refine still_first (fun K hK => ?_)
          iterate 10 (refine still_next hK (fun K1 hK1 => ?_); clear hK K; revert K1 hK1; intro K hK; go_simp)
          refine still_last hK ?_
          gi_wp2
          exact unveil HX (by simp [hq])
  case done =>
    rintro D' W' hD' ⟨T, c1, hok, c0, c2, hbe1, hcol⟩ hK
    have hRR := veil (unveil hcol [] (by simp))
    obtain ⟨t0, t1, t2, t3, t4, t5⟩ := c1.six
    obtain ⟨z0, z1, z2, z3, z4, z5⟩ := c0.six
    have f0 := c0.frozen 0
    have f1 := c0.frozen 1
    have f2 := c0.frozen 2
    have f3 := c0.frozen 3
    have f4 := c0.frozen 4
    have f5 := c0.frozen 5
    have d2 := c2.cell
    rw [hD] at d2
    have HC0 := veil c0
    have HBB := veil hbe1
    have HK := veil hK
    obtain ⟨tc, ts, tl, ti, tg, tu⟩ := T
    simp only [zTy] at *
    have hKlt := (Array.getElem?_eq_some_iff.1 hK).1
    clear c0 c1 c2 hok hcol hK hbe1
    have hfin := count_fin (tc := tc) (ts := ts) (tl := tl) (ti := ti) (tg := tg) (tu := tu) (unveil HC0) (unveil HBB) (unveil HK) (by omega)
    unfold put6K at hfin
    have HF := veil hfin
    clear hfin
    gi_wp2
    gi_region
    all_goals (
      gi_wp2
      obtain ⟨hT6, hK', hb'⟩ := unveil HF
      generalize ((((((W'.setCell ⟨w.heap.size, 0, none⟩ (.int .i64 tc)).setCell ⟨w.heap.size, 1, none⟩ (.int .i64 ts)).setCell ⟨w.heap.size, 2, none⟩ (.int .i64 tl)).setCell ⟨w.heap.size, 3, none⟩ (.int .i64 ti)).setCell ⟨w.heap.size, 4, none⟩ (.int .i64 tg)).setCell ⟨w.heap.size, 5, none⟩ (.int .i64 tu)).drew = W6 at hT6 hK' hb' ⊢
      refine ⟨by simp, .inl ⟨_, _, rfl, run_takeDeferred hK', ?_⟩⟩
      refine ⟨_, res_count rfl (((grownBy_putObj' W6 D' _).block w.heap.size hT6.lt (fun e => by cases e; omega)).trans hT6) rfl, ?_, hb'.grown (grownBy_putObj' W6 D' _) hb'.size (fun r e => by cases e; omega)⟩
      rw [← unveil hRR]
      simp [cntM, Ty.cells, ← hD])
  case stop =>
    rintro D' c pre W' hD' _ ⟨rfl, T, c1, c0, c2, hbe1, hR⟩ hK
    obtain ⟨t0, t1, t2, t3, t4, t5⟩ := c1.six
    obtain ⟨z0, z1, z2, z3, z4, z5⟩ := c0.six
    have f0 := c0.frozen 0
    have f1 := c0.frozen 1
    have f2 := c0.frozen 2
    have f3 := c0.frozen 3
    have f4 := c0.frozen 4
    have f5 := c0.frozen 5
    have d2 := c2.cell
    have HC0 := veil c0
    have HBB := veil hbe1
    have HK := veil hK
    obtain ⟨tc, ts, tl, ti, tg, tu⟩ := T
    simp only [zTy] at *
    have hKlt := (Array.getElem?_eq_some_iff.1 hK).1
    clear c0 c1 c2 hK hbe1
    have hfin := count_fin (tc := tc) (ts := ts) (tl := tl) (ti := ti) (tg := tg) (tu := tu) (unveil HC0) (unveil HBB) (unveil HK) (by omega)
    unfold put6K at hfin
    have HF := veil hfin
    clear hfin
    gi_wp2
    gi_region
    all_goals (
      gi_wp2
      obtain ⟨hT6, hK', hb'⟩ := unveil HF
      generalize ((((((W'.setCell ⟨w.heap.size, 0, none⟩ (.int .i64 tc)).setCell ⟨w.heap.size, 1, none⟩ (.int .i64 ts)).setCell ⟨w.heap.size, 2, none⟩ (.int .i64 tl)).setCell ⟨w.heap.size, 3, none⟩ (.int .i64 ti)).setCell ⟨w.heap.size, 4, none⟩ (.int .i64 tg)).setCell ⟨w.heap.size, 5, none⟩ (.int .i64 tu)).drew = W6 at hT6 hK' hb' ⊢
      refine ⟨by simp, .inl ⟨_, _, rfl, run_takeDeferred hK', ?_⟩⟩
      refine ⟨_, res_count rfl (((grownBy_putObj' W6 D' _).block w.heap.size hT6.lt (fun e => by cases e; omega)).trans hT6) rfl, ?_, hb'.grown (grownBy_putObj' W6 D' _) hb'.size (fun r e => by cases e; omega)⟩
      rw [unveil hR]
      simp [Ty.cells])
end Go.Proofs.YtmpkgjonbjpohaaGreatDoor
