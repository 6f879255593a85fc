/-
  The document's own of package arith: shifted.
-/
import Derived.Test.YtobfpdhfmbpidaaDoorGa
namespace Go.Proofs.YtobfpdhfmbpidaaDoor
open Go Go.RowKit
set_option linter.unusedVariables false
set_option linter.unusedSimpArgs false
def rshV (op k a : Int) (n : Nat) : Int := if op == 7 then (if k == 8 then wrap64 (IntKind.u64.wrap a / 2 ^ n) else a / 2 ^ n) else toM (wrap64 (a * 2 ^ n)) k
def rshB (op k a : Int) (n : Nat) : Bool := if op == 7 then true else if unsM k then true else (decide (0 ≤ a) && (toM (wrap64 (a * 2 ^ n)) k / 2 ^ n == a))
set_option maxRecDepth 100000 in
set_option maxHeartbeats 4000000 in
theorem Rshifted_any (op k a : Int) (n : Nat) (w : World) (hn : n < 64) : Calls Tryd.prog 41 #[.int .i64 op, .int .i64 k, .int .i64 a, .int .i64 n] w fun e w' => e = .returned (.tuple #[.int .i64 (rshV op k a n), .bool (rshB op k a n)]) ∧ ∃ m, w' = w.drewN m := by
  have n0 : ¬ (n : Int) < 0 := by omega
  have hm : min n 64 = n := by omega
  have hb : -9223372036854775808 ≤ wrap64 (a * 2 ^ n) ∧ wrap64 (a * 2 ^ n) ≤ 9223372036854775807 := by unfold wrap64; omega
  have HT := veil (fun W => RTo_any (wrap64 (a * 2 ^ n)) k W hb.1 hb.2)
  have HU := veil (RUnsigned_any k)
  clear hb
  unfold rshV rshB
  cases h7 : op == 7
  · generalize toM (wrap64 (a * 2 ^ n)) k = V at *
    generalize erM k = E at *
    generalize unsM k = U at *
    cases U
    · cases h0 : decide (0 ≤ a)
      · go_enter Tryd.func41, Tryd.ntmps41
        go_upto_region 8 with (first
        | (go_at_call 42; refine (unveil HT _).mono ?_; rintro e w' ⟨rfl, hw'⟩; obtain rfl := hw'.symm)
        | (go_at_call 46; refine (unveil HU _).mono ?_; rintro e w' ⟨rfl, hw'⟩; obtain rfl := hw'.symm))
        go_quiet (fail)
        go_wp2
        go_ret2
        exact ⟨by first | rfl | (simp; done) | (simp [h0]; done), _, rfl⟩
      · go_enter Tryd.func41, Tryd.ntmps41
        go_upto_region 8 with (first
        | (go_at_call 42; refine (unveil HT _).mono ?_; rintro e w' ⟨rfl, hw'⟩; obtain rfl := hw'.symm)
        | (go_at_call 46; refine (unveil HU _).mono ?_; rintro e w' ⟨rfl, hw'⟩; obtain rfl := hw'.symm))
        go_quiet (fail)
        go_wp2
        go_ret2
        exact ⟨by first | rfl | (simp; done) | (simp [h0]; done), _, rfl⟩
    · go_enter Tryd.func41, Tryd.ntmps41
      go_wp2_with (first
        | (go_at_call 42; refine (unveil HT _).mono ?_; rintro e w' ⟨rfl, hw'⟩; obtain rfl := hw'.symm)
        | (go_at_call 46; refine (unveil HU _).mono ?_; rintro e w' ⟨rfl, hw'⟩; obtain rfl := hw'.symm))
      go_ret2
      exact ⟨rfl, 0, rfl⟩
  · clear HT HU
    cases h8 : k == 8
    all_goals (
      go_enter Tryd.func41, Tryd.ntmps41
      go_wp2
      go_ret2
      exact ⟨by first | rfl | simp, 0, rfl⟩)
end Go.Proofs.YtobfpdhfmbpidaaDoor
