/-
  Package arith: reckon (4).
-/
import Derived.Test.YtobfpdhfmbpidaaDoorEe
import Derived.Test.YtobfpdhfmbpidaaDoorEg
namespace Go.Proofs.YtobfpdhfmbpidaaDoor
open Go Go.RowKit
set_option linter.unusedVariables false
set_option linter.unusedSimpArgs false
set_option maxRecDepth 100000 in
set_option maxHeartbeats 4000000 in
theorem reck11 (h l h' l' : Int) (B : Bool) (w : World)
    (HC : Hid (∀ W, Calls Tryd.prog 66 #[.agg #[.int .u64 h, .int .u64 l], .agg #[.int .u64 h', .int .u64 l']] W fun e w' => e = .returned (.bool B) ∧ Below W.heap.size W w'))
    : Calls Tryd.prog 49 #[.int .i64 11, .agg #[.int .u64 h, .int .u64 l], .agg #[.int .u64 h', .int .u64 l']] w fun e w' => e = .returned (.agg #[.int .u64 0, .int .u64 (tru (B))]) ∧ Below w.heap.size w w' := by
  have hS := St3.start w h l h' l'
  have HS0 := veil hS
  clear hS
  go_enter Tryd.func49, Tryd.ntmps49
  have HT := veil truthW_any
  unfold wv at HT
  go_wp2_with fail
  refine (unveil HC _).mono ?_
  rintro e W1 ⟨rfl, hb⟩
  have HS1 := veil ((unveil HS0).call hb)
  clear hb
  go_wp2_with fail
  refine (unveil HT _ _).mono ?_
  rintro e W2 ⟨rfl, hb⟩
  have HS2 := veil ((unveil HS1).call hb)
  have hr := (unveil HS2).c
  obtain ⟨r0, r1⟩ := hr.two
  have f0 := hr.frozen 0
  have f1 := hr.frozen 1
  clear hr hb
  go_wp2
  exact bodyPost_ret (res_w (f := Tryd.f49) rfl rfl ((unveil HS2).c.put _ _) rfl) rfl ⟨rfl, below_putW (unveil HS2).bel (by omega) _ _⟩
set_option maxRecDepth 100000 in
set_option maxHeartbeats 4000000 in
theorem reck12 (h l h' l' : Int) (B : Bool) (w : World)
    (HC : Hid (∀ W, Calls Tryd.prog 66 #[.agg #[.int .u64 h', .int .u64 l'], .agg #[.int .u64 h, .int .u64 l]] W fun e w' => e = .returned (.bool B) ∧ Below W.heap.size W w'))
    : Calls Tryd.prog 49 #[.int .i64 12, .agg #[.int .u64 h, .int .u64 l], .agg #[.int .u64 h', .int .u64 l']] w fun e w' => e = .returned (.agg #[.int .u64 0, .int .u64 (tru (!B))]) ∧ Below w.heap.size w w' := by
  have hS := St3.start w h l h' l'
  have HS0 := veil hS
  clear hS
  go_enter Tryd.func49, Tryd.ntmps49
  have HT := veil truthW_any
  unfold wv at HT
  go_wp2_with fail
  refine (unveil HC _).mono ?_
  rintro e W1 ⟨rfl, hb⟩
  have HS1 := veil ((unveil HS0).call hb)
  clear hb
  go_wp2_with fail
  refine (unveil HT _ _).mono ?_
  rintro e W2 ⟨rfl, hb⟩
  have HS2 := veil ((unveil HS1).call hb)
  have hr := (unveil HS2).c
  obtain ⟨r0, r1⟩ := hr.two
  have f0 := hr.frozen 0
  have f1 := hr.frozen 1
  clear hr hb
  go_wp2
  exact bodyPost_ret (res_w (f := Tryd.f49) rfl rfl ((unveil HS2).c.put _ _) rfl) rfl ⟨rfl, below_putW (unveil HS2).bel (by omega) _ _⟩
set_option maxRecDepth 100000 in
set_option maxHeartbeats 4000000 in
theorem reck13 (h l h' l' : Int) (w : World)
    : Calls Tryd.prog 49 #[.int .i64 13, .agg #[.int .u64 h, .int .u64 l], .agg #[.int .u64 h', .int .u64 l']] w fun e w' => e = .returned (.agg #[.int .u64 0, .int .u64 (tru (decide (h = h') && decide (l = l')))]) ∧ Below w.heap.size w w' := by
  have hS := St3.start w h l h' l'
  have HS0 := veil hS
  clear hS
  go_enter Tryd.func49, Tryd.ntmps49
  have HT := veil truthW_any
  unfold wv at HT
  go_upto_region 27 with fail
  have hq := wide_eq h l h' l'
  go_wp2_with fail
  refine (unveil HT _ _).mono ?_
  rintro e W1 ⟨rfl, hb⟩
  have HS1 := veil ((unveil HS0).call hb)
  have hr := (unveil HS1).c
  obtain ⟨r0, r1⟩ := hr.two
  have f0 := hr.frozen 0
  have f1 := hr.frozen 1
  clear hr hb
  go_wp2
  exact bodyPost_ret (res_w (f := Tryd.f49) rfl rfl ((unveil HS1).c.put _ _) rfl) rfl ⟨rfl, below_putW (unveil HS1).bel (by omega) _ _⟩
set_option maxRecDepth 100000 in
set_option maxHeartbeats 4000000 in
theorem reck14 (h l h' l' : Int) (w : World)
    : Calls Tryd.prog 49 #[.int .i64 14, .agg #[.int .u64 h, .int .u64 l], .agg #[.int .u64 h', .int .u64 l']] w fun e w' => e = .returned (.agg #[.int .u64 0, .int .u64 (tru (!decide (h = h') || !decide (l = l')))]) ∧ Below w.heap.size w w' := by
  have hS := St3.start w h l h' l'
  have HS0 := veil hS
  clear hS
  go_enter Tryd.func49, Tryd.ntmps49
  have HT := veil truthW_any
  unfold wv at HT
  go_upto_region 29 with fail
  have hq := wide_neq h l h' l'
  go_wp2_with fail
  refine (unveil HT _ _).mono ?_
  rintro e W1 ⟨rfl, hb⟩
  have HS1 := veil ((unveil HS0).call hb)
  have hr := (unveil HS1).c
  obtain ⟨r0, r1⟩ := hr.two
  have f0 := hr.frozen 0
  have f1 := hr.frozen 1
  clear hr hb
  go_wp2
  exact bodyPost_ret (res_w (f := Tryd.f49) rfl rfl ((unveil HS1).c.put _ _) rfl) rfl ⟨rfl, below_putW (unveil HS1).bel (by omega) _ _⟩
set_option maxRecDepth 100000 in
set_option maxHeartbeats 4000000 in
theorem reck17 (h l h' l' : Int) (w : World)
    : Calls Tryd.prog 49 #[.int .i64 17, .agg #[.int .u64 h, .int .u64 l], .agg #[.int .u64 h', .int .u64 l']] w fun e w' => e = .returned (.agg #[.int .u64 0, .int .u64 (tru (decide (h = 0) && decide (l = 0)))]) ∧ Below w.heap.size w w' := by
  have hS := St3.start w h l h' l'
  have HS0 := veil hS
  clear hS
  go_enter Tryd.func49, Tryd.ntmps49
  have HT := veil truthW_any
  unfold wv at HT
  go_upto_region 34 with fail
  have hq := wide_eq h l 0 0
  go_wp2_with fail
  refine (unveil HT _ _).mono ?_
  rintro e W1 ⟨rfl, hb⟩
  have HS1 := veil ((unveil HS0).call hb)
  have hr := (unveil HS1).c
  obtain ⟨r0, r1⟩ := hr.two
  have f0 := hr.frozen 0
  have f1 := hr.frozen 1
  clear hr hb
  go_wp2
  exact bodyPost_ret (res_w (f := Tryd.f49) rfl rfl ((unveil HS1).c.put _ _) rfl) rfl ⟨rfl, below_putW (unveil HS1).bel (by omega) _ _⟩
end Go.Proofs.YtobfpdhfmbpidaaDoor
