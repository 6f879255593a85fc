/-
  text.joinedSize: a size that fits, for lines such as TextBack hands on.
-/
import Derived.Test.YtncccheaeghbiaaG1
import Derived.Deep.QuietTactic
import Derived.BigQuiet
namespace Go.Proofs.Ytncccheaeghbiaa
open Go Go.RowKit
set_option linter.unusedVariables false

theorem cell_lt {W : World} {g o : Nat} {v : Value} (h : W.cell? ⟨g, o, none⟩ = some v) : g < W.heap.size := by
  rcases Nat.lt_or_ge g W.heap.size with h1 | h1
  · exact h1
  · simp [World.cell?, Array.getElem?_eq_none h1] at h
theorem Ln.below {W W' : World} {v : Value} {l : List (Int × ByteArray)} (h : Ln W v l) (hb : Below W.heap.size W W') : Ln W' v l := by
  obtain ⟨p, cap, e, hc⟩ := h
  refine ⟨p, cap, e, fun i hi => ?_⟩
  obtain ⟨g, o, e2, c0, c1⟩ := hc i hi
  exact ⟨g, o, e2, (hb.cell (p := ⟨g, o + i * 2, none⟩) (cell_lt c0)).trans c0, (hb.cell (p := ⟨g, o + i * 2 + 1, none⟩) (cell_lt c0)).trans c1⟩

structure Good (l : List (Int × ByteArray)) : Prop where
  n : l.length ≤ 500
  s : ∀ x ∈ l, x.2.size ≤ 100
  ch : ∀ i (h : i + 1 < l.length), 1 ≤ l[i].1 ∧ l[i].1 < l[i + 1].1 ∧ l[i + 1].1 ≤ 1000000 ∧ l[i + 1].1 - l[i].1 ≤ 3
theorem Good.gap {l : List (Int × ByteArray)} (h : Good l) (i : Nat) : gapI l i ≤ 2 := by
  unfold gapI
  split
  · have := h.ch i (by omega); omega
  · omega
theorem Good.left {l : List (Int × ByteArray)} (h : Good l) {v : Value} {k : Nat} {w : World} (hv : Ln w v l) (hk : k < l.length) :
    Calls Try.prog 26 #[v, .int .i64 (k : Int)] w fun e w' => e = .returned (.int .i64 (gapI l k : Nat)) ∧ ∃ m, w' = w.drewN m :=
  leftOut_any v l k w hv hk (by have := h.n; omega) (fun h' => by have := h.ch k h'; exact ⟨this.1, this.2.1, this.2.2.1⟩)

set_option maxRecDepth 100000 in
set_option maxHeartbeats 2000000 in
theorem joinedSize_any (v : Value) (l : List (Int × ByteArray)) (w : World) (hv : Ln w v l) (hg : Good l) :
    Calls Try.prog 24 #[v] w fun e w' => ∃ n : Nat, n ≤ 200000 ∧ e = .returned (.tuple #[.int .i64 (n : Nat), .bool true]) ∧ Below w.heap.size w w' := by
  have hn := hg.n
  have HV := hide hv
  have HG := hide hg
  obtain ⟨p, cap, rfl, hc⟩ := hv
  have HC := hide hc
  clear hc hg
  go_enter Try.func24, Try.ntmps24
  go_wp2
  go_loopw [4, 9] (fun z i wr => ∃ k n : Nat, z = .int .i64 n ∧ i = .int .i64 k ∧ k ≤ l.length ∧ n ≤ 200 * k ∧ Below w.heap.size w wr) (fun z i wr => l.length - (intOf i).toNat)
  case atStart => exact ⟨0, 0, rfl, rfl, Nat.zero_le _, Nat.le_refl _, Below.refl _ _⟩
  case round =>
    obtain ⟨k, n, rfl, rfl, hk, hnk, hbe⟩ := hrel
    have hzr := hbe.size
    by_cases hlt : k < l.length
    · obtain ⟨g, o, rfl, c0, c1⟩ := unhide HC k hlt
      have hgl := cell_lt c0
      have c0' := (hbe.cell (p := ⟨g, o + k * 2, none⟩) hgl).trans c0
      have c1' := (hbe.cell (p := ⟨g, o + k * 2 + 1, none⟩) hgl).trans c1
      have hss := (unhide HG).s l[k] (List.getElem_mem _)
      have hgp := (unhide HG).gap k
      clear c0 c1
      have i1 : (k : Int) < (l.length : Int) := by omega
      have hbe1 := hbe.alloc hzr (.cells #[.int .i64 l[k].1, .string l[k].2] 32)
      have hleft := fun m => (unhide HG).left ((unhide HV).below (below_drewN hbe1 m)) hlt
      have HLEFT := hide hleft
      clear hleft
      generalize hN : l[k].1 = N at *
      generalize hS : l[k].2 = S at *
      have HN := hide hN
      have HS := hide hS
      clear hN hS
      generalize gapI l k = G at *
      go_wp2
      have v1 : S.size ≤ 9223372036854775807 := by omega
      go_quiet ((go_at_call 26; exact Calls.quiet_of (unhide HLEFT _)))
      have d1 : decide ((2147483647 : Int) < (n : Int) + ((S.size : Int) + 2 * (G : Int) + 1)) = false := decide_eq_false (by omega)
      go_wp2
      go_roundw
      case rel => exact ⟨k + 1, n + (S.size + 2 * G + 1), by go_num, by go_num, by omega, by omega, below_drewN hbe1 _⟩
      case measure => simp [intOf]; omega
    · go_wp2
      go_ret2
      exact ⟨n, by omega, rfl, hbe⟩
end Go.Proofs.Ytncccheaeghbiaa
