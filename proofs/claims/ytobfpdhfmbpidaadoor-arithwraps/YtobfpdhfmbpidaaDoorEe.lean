/-
  Package arith: numbers of two halves: over, rest.
-/
import Derived.Test.YtobfpdhfmbpidaaDoorEc
namespace Go.Proofs.YtobfpdhfmbpidaaDoor
open Go Go.RowKit
set_option linter.unusedVariables false
set_option linter.unusedSimpArgs false
/-- Two numbers in the first boxes, nothing yet in the third. -/
structure St3 (w W : World) (h l h' l' : Int) : Prop where
  a : WB W w.heap.size h l
  b : WB W (w.heap.size + 1) h' l'
  c : WB W (w.heap.size + 1 + 1) 0 0
  bel : Below w.heap.size w W
theorem St3.call {w A W : World} {h l h' l' : Int} (s : St3 w A h l h' l') (hb : Below A.heap.size A W) : St3 w W h l h' l' :=
  ⟨s.a.below hb s.a.lt, s.b.below hb s.b.lt, s.c.below hb s.c.lt, s.bel.trans (hb.mono s.bel.size)⟩
theorem St3.drew {w A : World} {h l h' l' : Int} (s : St3 w A h l h' l') : St3 w A.drew h l h' l' := ⟨s.a, s.b, s.c, s.bel.drew⟩
theorem St3.alloc {w A : World} {h l h' l' : Int} (s : St3 w A h l h' l') (o : Obj) : St3 w (A.alloc o) h l h' l' := s.call (below_newW A o)
theorem St3.put {w A : World} {h l h' l' : Int} {Q : Nat} (s : St3 w A h l h' l') (hQ : w.heap.size + 1 + 1 < Q) (b u : Int) : St3 w (putW A Q b u) h l h' l' :=
  ⟨(s.a.setCell (by omega) _).setCell (by omega) _, (s.b.setCell (by omega) _).setCell (by omega) _, (s.c.setCell (by omega) _).setCell (by omega) _, below_putW s.bel (by omega) _ _⟩
theorem St3.start (w : World) (h l h' l' : Int) : St3 w (((w.alloc (.cells #[.int .u64 h, .int .u64 l] 48)).alloc (.cells #[.int .u64 h', .int .u64 l'] 48)).alloc (.cells #[.int .u64 0, .int .u64 0] 48)) h l h' l' :=
  ⟨((show WB _ _ _ _ from heap_newW w _).below (below_newW _ _) (by simp)).below (below_newW _ _) (by simp; omega), (show WB _ _ _ _ from heap_new2 w _ _).below (below_newW _ _) (by simp), heap_new3 w _ _ _, below_new3 w _ _ _⟩
theorem afterNew {w W : World} (hb : Below (w.alloc (.cells #[.int .u64 0, .int .u64 0] 48)).heap.size (w.alloc (.cells #[.int .u64 0, .int .u64 0] 48)) W) : WB W w.heap.size 0 0 :=
  WB.below (heap_newW w _) hb (by simp)
theorem afterNewD {w W : World} (hb : Below (w.alloc (.cells #[.int .u64 0, .int .u64 0] 48)).drew.heap.size (w.alloc (.cells #[.int .u64 0, .int .u64 0] 48)).drew W) : WB W w.heap.size 0 0 :=
  WB.below (W := (w.alloc (.cells #[.int .u64 0, .int .u64 0] 48)).drew) (heap_newW w _) hb (by simp)
theorem absI_in {x : Int} (h1 : -18446744073709551616 < x) (h2 : x < 18446744073709551616) : 0 ≤ absI x ∧ absI x < 18446744073709551616 := by unfold absI; split <;> omega
theorem W128_low {z : Int} (h1 : 0 ≤ z) (h2 : z < 18446744073709551616) : W128 z = .agg #[.int .u64 0, .int .u64 z] := by
  unfold W128 wv
  rw [show z / 18446744073709551616 % 18446744073709551616 = 0 by omega, show z % 18446744073709551616 = z by omega]
theorem tmod_abs (x y : Int) : x.tmod y = if x < 0 then -((absI x).tmod (absI y)) else (absI x).tmod (absI y) := by
  have k : ∀ z : Int, z.tmod (absI y) = z.tmod y := by intro z; unfold absI; split <;> simp [Int.tmod_neg]
  rw [k]
  unfold absI
  split <;> simp [Int.neg_tmod]
theorem tdiv_abs (x y : Int) : x.tdiv y = if (decide (x < 0) != decide (y < 0)) then -((absI x).tdiv (absI y)) else (absI x).tdiv (absI y) := by
  unfold absI
  by_cases h1 : x < 0 <;> by_cases h2 : y < 0 <;> simp [h1, h2, Int.neg_tdiv, Int.tdiv_neg]
set_option maxRecDepth 100000 in
set_option maxHeartbeats 4000000 in
theorem restH (h l h' l' X Y nh nl : Int) (U : Bool) (w : World) (hY : Y ≠ 0)
    (HSX : Hid (∀ W, Calls Tryd.prog 73 #[.agg #[.int .u64 h, .int .u64 l]] W fun e w' => e = .returned (.int .u64 X) ∧ Below W.heap.size W w'))
    (HSY : Hid (∀ W, Calls Tryd.prog 73 #[.agg #[.int .u64 h', .int .u64 l']] W fun e w' => e = .returned (.int .u64 Y) ∧ Below W.heap.size W w'))
    (HL : Hid (∀ W, Calls Tryd.prog 66 #[.agg #[.int .u64 h, .int .u64 l], .agg #[.int .u64 0, .int .u64 0]] W fun e w' => e = .returned (.bool U) ∧ Below W.heap.size W w'))
    (HN : Hid (∀ W, Calls Tryd.prog 67 #[.agg #[.int .u64 0, .int .u64 (X.tmod Y)]] W fun e w' => e = .returned (.agg #[.int .u64 nh, .int .u64 nl]) ∧ Below W.heap.size W w')) :
    Calls Tryd.prog 62 #[.agg #[.int .u64 h, .int .u64 l], .agg #[.int .u64 h', .int .u64 l']] w fun e w' => e = .returned (if U then .agg #[.int .u64 nh, .int .u64 nl] else .agg #[.int .u64 0, .int .u64 (X.tmod Y)]) ∧ Below w.heap.size w w' := by
  have hS := St3.start w h l h' l'
  have HS0 := veil hS
  clear hS
  go_enter Tryd.func62, Tryd.ntmps62
  go_upto_region 1 with fail
  generalize ((w.alloc (.cells #[.int .u64 h, .int .u64 l] 48)).alloc (.cells #[.int .u64 h', .int .u64 l'] 48)).alloc (.cells #[.int .u64 0, .int .u64 0] 48) = W0 at HS0 ⊢
  obtain ⟨c0, c1⟩ := (unveil HS0).a.two
  obtain ⟨c2, c3⟩ := (unveil HS0).b.two
  have l0 := (unveil HS0).a.lt
  have l1 := (unveil HS0).b.lt
  have l2 := (unveil HS0).c.lt
  go_cut [5] (fun s wx => ∃ Q, s = .pointer (some ⟨Q, 0, none⟩) ∧ Hid (WB wx Q 0 ((X.tmod Y))) ∧ Hid (St3 w wx h l h' l'))
  case first =>
    go_region_with (
      go_at_call 73
      first | with_reducible refine (unveil HSX _).mono ?_ | with_reducible refine (unveil HSY _).mono ?_
      rintro e W' ⟨rfl, hb⟩
      have hs : St3 w W' h l h' l' := by
        first
        | exact ((unveil HS0).drew).call hb
        | exact ((unveil HS0).alloc _).drew.call hb
        | (rename St3 w _ h l h' l' => hs; first | exact hs.call hb | exact (hs.alloc _).call hb | exact hs.drew.call hb | exact (hs.alloc _).drew.call hb)
      obtain ⟨c0, c1⟩ := hs.a.two
      obtain ⟨c2, c3⟩ := hs.b.two
      have l0 := hs.a.lt
      have l1 := hs.b.lt
      have l2 := hs.c.lt
      first
      | (rename WB _ _ 0 0 => hq0
         have hq := hq0.below hb hq0.lt
         obtain ⟨d0, d1⟩ := hq.two
         have g0 := hq.frozen 0
         have g1 := hq.frozen 1)
      | (with_reducible have hq := afterNew hb
         obtain ⟨d0, d1⟩ := hq.two
         have g0 := hq.frozen 0
         have g1 := hq.frozen 1)
      | (with_reducible have hq := afterNewD hb
         obtain ⟨d0, d1⟩ := hq.two
         have g0 := hq.frozen 0
         have g1 := hq.frozen 1)
      | skip)
    all_goals (
      go_wp2
      go_meet
      case rel =>
        rename St3 w _ h l h' l' => hs
        first
        | exact ⟨_, rfl, heap_newW _ _, hs.alloc _⟩
        | (rename WB _ _ 0 0 => hq
           exact ⟨_, rfl, hq.put _ _, hs.put (by assumption) _ _⟩))
  case rest =>
    clear c0 c1 c2 c3 l0 l1 l2 HS0 HSX HSY
    obtain ⟨Q, rfl, HQ, HS⟩ := hcut
    obtain ⟨c0, c1⟩ := (unveil HS).a.two
    go_wp2_with fail
    refine (unveil HL _).mono ?_
    rintro e W1 ⟨rfl, hb⟩
    have HS1 := veil ((unveil HS).call hb)
    have HQ1 := veil ((unveil HQ).below hb (unveil HQ).lt)
    clear hb HS HQ c0 c1
    obtain ⟨q0, q1⟩ := (unveil HQ1).two
    have hr := (unveil HS1).c
    obtain ⟨r0, r1⟩ := hr.two
    have f0 := hr.frozen 0
    have f1 := hr.frozen 1
    clear hr
    cases U
    · go_wp2_with fail
      exact bodyPost_ret (res_w (f := Tryd.f62) rfl rfl ((unveil HS1).c.put _ _) rfl) rfl ⟨by simp, below_putW (unveil HS1).bel (by omega) _ _⟩
    · clear r0 r1 f0 f1
      go_wp2_with fail
      refine (unveil HN _).mono ?_
      rintro e W2 ⟨rfl, hb⟩
      have HS2 := veil ((unveil HS1).call hb)
      have hr := (unveil HS2).c
      obtain ⟨r0, r1⟩ := hr.two
      have f0 := hr.frozen 0
      have f1 := hr.frozen 1
      clear hr hb
      go_wp2_with fail
      exact bodyPost_ret (res_w (f := Tryd.f62) rfl rfl ((unveil HS2).c.put _ _) rfl) rfl ⟨by simp, below_putW (unveil HS2).bel (by omega) _ _⟩
end Go.Proofs.YtobfpdhfmbpidaaDoor
