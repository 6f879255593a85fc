/-
  text.leftOut: how many numbers are left out behind a line.
-/
import Derived.Test.YtncccheaeghbiaaC1
import Derived.Test.YtncccheaeghbiaaPlain4
import Derived.Test.YtncccheaeghbiaaNx
import Derived.Deep.CutRange
import Derived.Deep.RegionWith
import Derived.Deep.DeepCutAuto
namespace Go.Proofs.Ytncccheaeghbiaa
open Go Go.RowKit
set_option linter.unusedVariables false

/-- A slice value that reads as these lines. -/
def Ln (W : World) (v : Value) (l : List (Int × ByteArray)) : Prop :=
  ∃ p cap, v = .slice p l.length cap ∧ ∀ (i : Nat) (h : i < l.length), ∃ g o, p = some ⟨g, o, none⟩ ∧ W.cell? ⟨g, o + i * 2, none⟩ = some (.int .i64 l[i].1) ∧ W.cell? ⟨g, o + i * 2 + 1, none⟩ = some (.string l[i].2)
def gapI (l : List (Int × ByteArray)) (i : Nat) : Nat := if h : i + 1 < l.length then (l[i + 1].1 - l[i].1 - 1).toNat else 0

set_option maxRecDepth 100000 in
set_option maxHeartbeats 2000000 in
theorem leftOut_any (v : Value) (l : List (Int × ByteArray)) (k : Nat) (w : World) (hv : Ln w v l) (hk : k < l.length) (hlen : l.length ≤ 1000000)
    (hok : ∀ h : k + 1 < l.length, 1 ≤ l[k].1 ∧ l[k].1 < l[k + 1].1 ∧ l[k + 1].1 ≤ 1000000) :
    Calls Try.prog 26 #[v, .int .i64 (k : Int)] w fun e w' => e = .returned (.int .i64 (gapI l k : Nat)) ∧ ∃ m, w' = w.drewN m := by
  obtain ⟨p, cap, rfl, hc⟩ := hv
  by_cases hn : k + 1 < l.length
  · obtain ⟨h1, h2, h3⟩ := hok hn
    obtain ⟨g, o, rfl, c0, _⟩ := hc k hk
    obtain ⟨g', o', hge, c1, _⟩ := hc (k + 1) hn
    obtain ⟨rfl, rfl⟩ : g = g' ∧ o = o' := by simpa using hge
    have hgap : gapI l k = (l[k + 1].1 - l[k].1 - 1).toNat := by simp [gapI, hn]
    rw [hgap]
    clear hgap hge hc hok
    generalize l[k].1 = x at *
    generalize l[k + 1].1 = y at *
    rw [show (((y - x - 1).toNat : Nat) : Int) = min (y - x - 1) 2147483647 from by omega]
    have j0 : (0 : Int) ≤ (k : Int) + 1 := by omega
    have j1 : (k : Int) + 1 < (l.length : Int) := by omega
    have j2 : (k : Int) < (l.length : Int) := by omega
    have j3 : (((k : Int) + 1) == (l.length : Int)) = false := by rw [beq_eq_false_iff_ne]; omega
    have j4 : decide (y ≤ x) = false := decide_eq_false (by omega)
    have j5 : IntKind.i64.wrap ((k : Int) + 1) = (k : Int) + 1 := by rw [IntKind.wrap_i64]; omega
    go_enter Try.func26, Try.ntmps26
    go_wp2
    refine wp_region_still_plain 18 (by kernel_rfl) (by kernel_rfl) ?_
    simp only [List.take_succ_cons, List.take_zero, List.drop_succ_cons, List.drop_zero]
    refine still_first (fun K hK => ?_)
    iterate 18 (refine still_next hK (fun K1 hK1 => ?_); clear hK K; revert K1 hK1; intro K hK; go_simp)
    refine still_last hK ?_
    clear hK K
    go_wp2
    refine wp_region_still_plain 15 (by kernel_rfl) (by kernel_rfl) ?_
    simp only [List.take_succ_cons, List.take_zero, List.drop_succ_cons, List.drop_zero]
    refine still_first (fun K hK => ?_)
    iterate 15 (refine still_next hK (fun K1 hK1 => ?_); clear hK K; revert K1 hK1; intro K hK; go_simp)
    refine still_last hK ?_
    clear hK K
    go_wp2
    go_ret
    exact ⟨rfl, 2, rfl⟩
  · have hgap : gapI l k = 0 := by simp [gapI, hn]
    rw [hgap]
    have j3 : (((k : Int) + 1) == (l.length : Int)) = true := by rw [beq_iff_eq]; omega
    have j5 : IntKind.i64.wrap ((k : Int) + 1) = (k : Int) + 1 := by rw [IntKind.wrap_i64]; omega
    clear hc hok hgap hn
    go_enter Try.func26, Try.ntmps26
    go_wp2
    refine wp_region_still_plain 18 (by kernel_rfl) (by kernel_rfl) ?_
    simp only [List.take_succ_cons, List.take_zero, List.drop_succ_cons, List.drop_zero]
    refine still_first (fun K hK => ?_)
    iterate 18 (refine still_next hK (fun K1 hK1 => ?_); clear hK K; revert K1 hK1; intro K hK; go_simp)
    refine still_last hK ?_
    clear hK K
    go_wp2
    go_ret
    exact ⟨rfl, 1, rfl⟩
end Go.Proofs.Ytncccheaeghbiaa
