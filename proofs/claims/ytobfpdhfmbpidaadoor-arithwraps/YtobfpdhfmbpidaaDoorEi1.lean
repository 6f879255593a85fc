/-
  Package arith: reckon (1).
-/
import Derived.Test.YtobfpdhfmbpidaaDoorEe
import Derived.Test.YtobfpdhfmbpidaaDoorEg
namespace Go.Proofs.YtobfpdhfmbpidaaDoor
open Go Go.RowKit
set_option linter.unusedVariables false
set_option linter.unusedSimpArgs false
set_option maxRecDepth 100000 in
set_option maxHeartbeats 4000000 in
theorem reck1 (h l h' l' rh rl : Int) (w : World)
    (HC : Hid (∀ W, Calls Tryd.prog 58 #[.agg #[.int .u64 h, .int .u64 l], .agg #[.int .u64 h', .int .u64 l']] W fun e w' => e = .returned (.agg #[.int .u64 rh, .int .u64 rl]) ∧ Below W.heap.size W w'))
    : Calls Tryd.prog 49 #[.int .i64 1, .agg #[.int .u64 h, .int .u64 l], .agg #[.int .u64 h', .int .u64 l']] w fun e w' => e = .returned (.agg #[.int .u64 rh, .int .u64 rl]) ∧ Below w.heap.size w w' := by
  have hS := St3.start w h l h' l'
  have HS0 := veil hS
  clear hS
  go_enter Tryd.func49, Tryd.ntmps49
  go_wp2_with fail
  refine (unveil HC _).mono ?_
  rintro e W1 ⟨rfl, hb⟩
  have HS1 := veil ((unveil HS0).call hb)
  have hr := (unveil HS1).c
  obtain ⟨r0, r1⟩ := hr.two
  have f0 := hr.frozen 0
  have f1 := hr.frozen 1
  clear hr hb
  go_wp2
  exact bodyPost_ret (res_w (f := Tryd.f49) rfl rfl ((unveil HS1).c.put _ _) rfl) rfl ⟨rfl, below_putW (unveil HS1).bel (by omega) _ _⟩
set_option maxRecDepth 100000 in
set_option maxHeartbeats 4000000 in
theorem reck2 (h l h' l' rh rl : Int) (w : World)
    (HC : Hid (∀ W, Calls Tryd.prog 59 #[.agg #[.int .u64 h, .int .u64 l], .agg #[.int .u64 h', .int .u64 l']] W fun e w' => e = .returned (.agg #[.int .u64 rh, .int .u64 rl]) ∧ Below W.heap.size W w'))
    : Calls Tryd.prog 49 #[.int .i64 2, .agg #[.int .u64 h, .int .u64 l], .agg #[.int .u64 h', .int .u64 l']] w fun e w' => e = .returned (.agg #[.int .u64 rh, .int .u64 rl]) ∧ Below w.heap.size w w' := by
  have hS := St3.start w h l h' l'
  have HS0 := veil hS
  clear hS
  go_enter Tryd.func49, Tryd.ntmps49
  go_wp2_with fail
  refine (unveil HC _).mono ?_
  rintro e W1 ⟨rfl, hb⟩
  have HS1 := veil ((unveil HS0).call hb)
  have hr := (unveil HS1).c
  obtain ⟨r0, r1⟩ := hr.two
  have f0 := hr.frozen 0
  have f1 := hr.frozen 1
  clear hr hb
  go_wp2
  exact bodyPost_ret (res_w (f := Tryd.f49) rfl rfl ((unveil HS1).c.put _ _) rfl) rfl ⟨rfl, below_putW (unveil HS1).bel (by omega) _ _⟩
set_option maxRecDepth 100000 in
set_option maxHeartbeats 4000000 in
theorem reck3 (h l h' l' rh rl : Int) (w : World)
    (HC : Hid (∀ W, Calls Tryd.prog 60 #[.agg #[.int .u64 h, .int .u64 l], .agg #[.int .u64 h', .int .u64 l']] W fun e w' => e = .returned (.agg #[.int .u64 rh, .int .u64 rl]) ∧ Below W.heap.size W w'))
    : Calls Tryd.prog 49 #[.int .i64 3, .agg #[.int .u64 h, .int .u64 l], .agg #[.int .u64 h', .int .u64 l']] w fun e w' => e = .returned (.agg #[.int .u64 rh, .int .u64 rl]) ∧ Below w.heap.size w w' := by
  have hS := St3.start w h l h' l'
  have HS0 := veil hS
  clear hS
  go_enter Tryd.func49, Tryd.ntmps49
  go_wp2_with fail
  refine (unveil HC _).mono ?_
  rintro e W1 ⟨rfl, hb⟩
  have HS1 := veil ((unveil HS0).call hb)
  have hr := (unveil HS1).c
  obtain ⟨r0, r1⟩ := hr.two
  have f0 := hr.frozen 0
  have f1 := hr.frozen 1
  clear hr hb
  go_wp2
  exact bodyPost_ret (res_w (f := Tryd.f49) rfl rfl ((unveil HS1).c.put _ _) rfl) rfl ⟨rfl, below_putW (unveil HS1).bel (by omega) _ _⟩
set_option maxRecDepth 100000 in
set_option maxHeartbeats 4000000 in
theorem reck4 (h l h' l' rh rl : Int) (w : World)
    (HC : Hid (∀ W, Calls Tryd.prog 61 #[.agg #[.int .u64 h, .int .u64 l], .agg #[.int .u64 h', .int .u64 l']] W fun e w' => e = .returned (.agg #[.int .u64 rh, .int .u64 rl]) ∧ Below W.heap.size W w'))
    : Calls Tryd.prog 49 #[.int .i64 4, .agg #[.int .u64 h, .int .u64 l], .agg #[.int .u64 h', .int .u64 l']] w fun e w' => e = .returned (.agg #[.int .u64 rh, .int .u64 rl]) ∧ Below w.heap.size w w' := by
  have hS := St3.start w h l h' l'
  have HS0 := veil hS
  clear hS
  go_enter Tryd.func49, Tryd.ntmps49
  go_wp2_with fail
  refine (unveil HC _).mono ?_
  rintro e W1 ⟨rfl, hb⟩
  have HS1 := veil ((unveil HS0).call hb)
  have hr := (unveil HS1).c
  obtain ⟨r0, r1⟩ := hr.two
  have f0 := hr.frozen 0
  have f1 := hr.frozen 1
  clear hr hb
  go_wp2
  exact bodyPost_ret (res_w (f := Tryd.f49) rfl rfl ((unveil HS1).c.put _ _) rfl) rfl ⟨rfl, below_putW (unveil HS1).bel (by omega) _ _⟩
end Go.Proofs.YtobfpdhfmbpidaaDoor
