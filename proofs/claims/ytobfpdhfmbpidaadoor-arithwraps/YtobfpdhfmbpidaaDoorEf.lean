/-
  Package arith: numbers of two halves: over.
-/
import Derived.Test.YtobfpdhfmbpidaaDoorEe
import Derived.Test.YtobfpdhfmbpidaaDoorEg
namespace Go.Proofs.YtobfpdhfmbpidaaDoor
open Go Go.RowKit
set_option linter.unusedVariables false
set_option linter.unusedSimpArgs false
set_option maxRecDepth 100000 in
set_option maxHeartbeats 4000000 in
theorem overH (h l h' l' X Y nh nl : Int) (U V : Bool) (w : World) (hY : Y ≠ 0)
    (HSX : Hid (∀ W, Calls Tryd.prog 73 #[.agg #[.int .u64 h, .int .u64 l]] W fun e w' => e = .returned (.int .u64 X) ∧ Below W.heap.size W w'))
    (HSY : Hid (∀ W, Calls Tryd.prog 73 #[.agg #[.int .u64 h', .int .u64 l']] W fun e w' => e = .returned (.int .u64 Y) ∧ Below W.heap.size W w'))
    (HL : Hid (∀ W, Calls Tryd.prog 66 #[.agg #[.int .u64 h, .int .u64 l], .agg #[.int .u64 0, .int .u64 0]] W fun e w' => e = .returned (.bool U) ∧ Below W.heap.size W w'))
    (HV : Hid (∀ W, Calls Tryd.prog 66 #[.agg #[.int .u64 h', .int .u64 l'], .agg #[.int .u64 0, .int .u64 0]] W fun e w' => e = .returned (.bool V) ∧ Below W.heap.size W w'))
    (HN : Hid (∀ W, Calls Tryd.prog 67 #[.agg #[.int .u64 0, .int .u64 (IntKind.u64.wrap (X.tdiv Y))]] W fun e w' => e = .returned (.agg #[.int .u64 nh, .int .u64 nl]) ∧ Below W.heap.size W w')) :
    Calls Tryd.prog 61 #[.agg #[.int .u64 h, .int .u64 l], .agg #[.int .u64 h', .int .u64 l']] w fun e w' => e = .returned (if (U != V) then .agg #[.int .u64 nh, .int .u64 nl] else .agg #[.int .u64 0, .int .u64 (IntKind.u64.wrap (X.tdiv Y))]) ∧ Below w.heap.size w w' := by
  have hS := St3.start w h l h' l'
  have HS0 := veil hS
  clear hS
  go_enter Tryd.func61, Tryd.ntmps61
  go_upto_region 1 with fail
  generalize ((w.alloc (.cells #[.int .u64 h, .int .u64 l] 48)).alloc (.cells #[.int .u64 h', .int .u64 l'] 48)).alloc (.cells #[.int .u64 0, .int .u64 0] 48) = W0 at HS0 ⊢
  obtain ⟨c0, c1⟩ := (unveil HS0).a.two
  obtain ⟨c2, c3⟩ := (unveil HS0).b.two
  have l0 := (unveil HS0).a.lt
  have l1 := (unveil HS0).b.lt
  have l2 := (unveil HS0).c.lt
  go_cut [5] (fun s wx => ∃ Q, s = .pointer (some ⟨Q, 0, none⟩) ∧ Hid (WB wx Q 0 ((IntKind.u64.wrap (X.tdiv Y)))) ∧ Hid (St3 w wx h l h' l'))
  case first =>
    go_region_with (
      go_at_call 73
      first | with_reducible refine (unveil HSX _).mono ?_ | with_reducible refine (unveil HSY _).mono ?_
      rintro e W' ⟨rfl, hb⟩
      have hs : St3 w W' h l h' l' := by
        first
        | exact ((unveil HS0).drew).call hb
        | exact ((unveil HS0).alloc _).drew.call hb
        | (rename St3 w _ h l h' l' => hs; first | exact hs.call hb | exact (hs.alloc _).call hb | exact hs.drew.call hb | exact (hs.alloc _).drew.call hb)
      obtain ⟨c0, c1⟩ := hs.a.two
      obtain ⟨c2, c3⟩ := hs.b.two
      have l0 := hs.a.lt
      have l1 := hs.b.lt
      have l2 := hs.c.lt
      first
      | (rename WB _ _ 0 0 => hq0
         have hq := hq0.below hb hq0.lt
         obtain ⟨d0, d1⟩ := hq.two
         have g0 := hq.frozen 0
         have g1 := hq.frozen 1)
      | (with_reducible have hq := afterNew hb
         obtain ⟨d0, d1⟩ := hq.two
         have g0 := hq.frozen 0
         have g1 := hq.frozen 1)
      | (with_reducible have hq := afterNewD hb
         obtain ⟨d0, d1⟩ := hq.two
         have g0 := hq.frozen 0
         have g1 := hq.frozen 1)
      | skip)
    all_goals (
      go_wp2
      go_meet
      case rel =>
        rename St3 w _ h l h' l' => hs
        first
        | exact ⟨_, rfl, heap_newW _ _, hs.alloc _⟩
        | (rename WB _ _ 0 0 => hq
           exact ⟨_, rfl, hq.put _ _, hs.put (by assumption) _ _⟩))
  case rest =>
    clear c0 c1 c2 c3 l0 l1 l2 HS0 HSX HSY
    obtain ⟨Q, rfl, HQ, HS⟩ := hcut
    have hsx := unveil HS
    obtain ⟨c0, c1⟩ := hsx.a.two
    obtain ⟨c2, c3⟩ := hsx.b.two
    have l0 := hsx.a.lt
    have l1 := hsx.b.lt
    clear hsx
    go_upto_region 2 with fail
    rename World => W1
    refine wp_region_noPanic (wpIn_wide.1 (wpIn_region_mix (ro := none) (n := 0) (fun w' => Hid (St3 w w' h l h' l') ∧ Hid (WB w' Q 0 (IntKind.u64.wrap (X.tdiv Y))))
      [(0, true), (1, true), (3, true), (4, true), (2, false), (5, false)]
      6 hmixW (by kernel_rfl) (by kernel_rfl) (by kernel_rfl) (by kernel_rfl) (by kernel_rfl) (by kernel_rfl) (fun _ _ _ _ h => h) ⟨(unveil HS).drew, HQ⟩ ?_))
    iterate 4 (refine mix_pure _ rfl _ (.inl ⟨rfl, fun W hS => (by obtain ⟨f0, f1⟩ := (unveil hS.1).a.two; obtain ⟨f2, f3⟩ := (unveil hS.1).b.two; go_simp; rfl)⟩) (fun B hB => ?_); simp only [Act.put, List.setIfInBounds_toArray, List.set_cons_zero, List.set_cons_succ] at hB; subst hB)
    refine mix_sole _ rfl (fun K hK => ?_)
    go_simp
    refine ⟨trivial, rfl, (callsIn_wide.2 (unveil HL _)).mono ?_⟩
    rintro e W2 ⟨rfl, hb⟩
    have HS2 := veil ((unveil HS).drew.call hb)
    have HQ2 := veil (WB.below (W := W1.drew) (unveil HQ) hb (unveil HQ).lt)
    refine hK _ _ ⟨HS2, HQ2⟩ ?_
    clear hK K hb HS HQ c0 c1 c2 c3 l0 l1
    refine mix_sole _ rfl (fun K hK => ?_)
    go_simp
    refine ⟨trivial, rfl, (callsIn_wide.2 (unveil HV _)).mono ?_⟩
    rintro e W3 ⟨rfl, hb⟩
    have HS1 := veil ((unveil HS2).call hb)
    have HQ1 := veil ((unveil HQ2).below hb (unveil HQ2).lt)
    refine hK _ _ ⟨HS1, HQ1⟩ ?_
    clear hK K hb HS2 HQ2
    refine mix_nil ?_
    refine listIn_last rfl (fun K hK => ?_)
    go_simp
    refine hK _ _ ?_
    clear hK K
    obtain ⟨q0, q1⟩ := (unveil HQ1).two
    have hr := (unveil HS1).c
    have HRR : Hid (((W3.cell? ⟨w.heap.size + 1 + 1, 0, none⟩ = some (.int .u64 0) ∧ W3.cell? ⟨w.heap.size + 1 + 1, 1, none⟩ = some (.int .u64 0)) ∧ W3.frozen? ⟨w.heap.size + 1 + 1, 0, none⟩ = false ∧ W3.frozen? ⟨w.heap.size + 1 + 1, 1, none⟩ = false)) := ⟨hr.two, hr.frozen 0, hr.frozen 1⟩
    clear hr
    cases hUV : (U != V)
    · obtain ⟨⟨r0, r1⟩, f0, f1⟩ := unveil HRR
      have hUV2 : U = V := by cases U <;> cases V <;> first | rfl | cases hUV
      subst hUV2
      clear hUV
      cases U
      all_goals (
        go_wp2_with fail
        all_goals exact bodyPost_ret (res_w (f := Tryd.f61) rfl rfl ((unveil HS1).c.put _ _) rfl) rfl ⟨by simp, below_putW (unveil HS1).bel (by omega) _ _⟩)
    · have hUV2 : V = !U := by cases U <;> cases V <;> first | rfl | cases hUV
      subst hUV2
      clear hUV HRR
      cases U
      all_goals (
        go_wp2_with fail
        refine (unveil HN _).mono ?_
        rintro e W4 ⟨rfl, hb⟩
        have HS2 := veil ((unveil HS1).call hb)
        have hr := (unveil HS2).c
        obtain ⟨r0, r1⟩ := hr.two
        have f0 := hr.frozen 0
        have f1 := hr.frozen 1
        clear hr hb
        go_wp2_with fail
        all_goals exact bodyPost_ret (res_w (f := Tryd.f61) rfl rfl ((unveil HS2).c.put _ _) rfl) rfl ⟨by simp, below_putW (unveil HS2).bel (by omega) _ _⟩)
end Go.Proofs.YtobfpdhfmbpidaaDoor
