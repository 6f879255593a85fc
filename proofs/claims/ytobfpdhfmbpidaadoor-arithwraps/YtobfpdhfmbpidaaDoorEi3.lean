/-
  Package arith: reckon (3).
-/
import Derived.Test.YtobfpdhfmbpidaaDoorEe
import Derived.Test.YtobfpdhfmbpidaaDoorEg
namespace Go.Proofs.YtobfpdhfmbpidaaDoor
open Go Go.RowKit
set_option linter.unusedVariables false
set_option linter.unusedSimpArgs false
set_option maxRecDepth 100000 in
set_option maxHeartbeats 4000000 in
theorem reck8 (h l h' l' : Int) (w : World)
    : Calls Tryd.prog 49 #[.int .i64 8, .agg #[.int .u64 h, .int .u64 l], .agg #[.int .u64 h', .int .u64 l']] w fun e w' => e = .returned (.agg #[.int .u64 (bits .and .u64 h h'), .int .u64 (bits .and .u64 l l')]) ∧ Below w.heap.size w w' := by
  have hS := St3.start w h l h' l'
  have HS0 := veil hS
  clear hS
  go_enter Tryd.func49, Tryd.ntmps49
  go_wp2
  exact bodyPost_ret (res_w (f := Tryd.f49) rfl rfl (heap_new3 w _ _ _) rfl) rfl ⟨rfl, below_new3 w _ _ _⟩
set_option maxRecDepth 100000 in
set_option maxHeartbeats 4000000 in
theorem reck9 (h l h' l' : Int) (w : World)
    : Calls Tryd.prog 49 #[.int .i64 9, .agg #[.int .u64 h, .int .u64 l], .agg #[.int .u64 h', .int .u64 l']] w fun e w' => e = .returned (.agg #[.int .u64 (bits .xor .u64 h h'), .int .u64 (bits .xor .u64 l l')]) ∧ Below w.heap.size w w' := by
  have hS := St3.start w h l h' l'
  have HS0 := veil hS
  clear hS
  go_enter Tryd.func49, Tryd.ntmps49
  go_wp2
  exact bodyPost_ret (res_w (f := Tryd.f49) rfl rfl (heap_new3 w _ _ _) rfl) rfl ⟨rfl, below_new3 w _ _ _⟩
set_option maxRecDepth 100000 in
set_option maxHeartbeats 4000000 in
theorem reck10 (h l h' l' : Int) (w : World)
    : Calls Tryd.prog 49 #[.int .i64 10, .agg #[.int .u64 h, .int .u64 l], .agg #[.int .u64 h', .int .u64 l']] w fun e w' => e = .returned (.agg #[.int .u64 (bits .or .u64 h h'), .int .u64 (bits .or .u64 l l')]) ∧ Below w.heap.size w w' := by
  have hS := St3.start w h l h' l'
  have HS0 := veil hS
  clear hS
  go_enter Tryd.func49, Tryd.ntmps49
  go_wp2
  exact bodyPost_ret (res_w (f := Tryd.f49) rfl rfl (heap_new3 w _ _ _) rfl) rfl ⟨rfl, below_new3 w _ _ _⟩
set_option maxRecDepth 100000 in
set_option maxHeartbeats 4000000 in
theorem reck16 (h l h' l' : Int) (w : World)
    : Calls Tryd.prog 49 #[.int .i64 16, .agg #[.int .u64 h, .int .u64 l], .agg #[.int .u64 h', .int .u64 l']] w fun e w' => e = .returned (.agg #[.int .u64 (bits .xor .u64 IntKind.u64.max h), .int .u64 (bits .xor .u64 IntKind.u64.max l)]) ∧ Below w.heap.size w w' := by
  have hS := St3.start w h l h' l'
  have HS0 := veil hS
  clear hS
  go_enter Tryd.func49, Tryd.ntmps49
  go_wp2
  exact bodyPost_ret (res_w (f := Tryd.f49) rfl rfl (heap_new3 w _ _ _) rfl) rfl ⟨rfl, below_new3 w _ _ _⟩
end Go.Proofs.YtobfpdhfmbpidaaDoor
