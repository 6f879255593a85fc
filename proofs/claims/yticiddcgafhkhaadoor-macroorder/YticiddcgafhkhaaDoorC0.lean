/-
  Arguments opened: a list of lines that is handed in.
-/
import Derived.Test.YticiddcgafhkhaaDoorQ5
import Derived.Test.YticiddcgafhkhaaDoorS3
import Derived.Test.YticiddcgafhkhaaDoorCards
import Derived.Test.YticiddcgafhkhaaDoorTie
import Derived.ProofKit
import Derived.SizedLaws
import Derived.LaidMore
import Derived.OpenShut
import Derived.SevenTiedAt
import Derived.Deep.SlicePairs
namespace Go.Proofs.YticiddcgafhkhaaDoor
open Go.ChangeShapes Go.WideShapes Go.ChangeAt Go.RowKit
set_option linter.unusedVariables false

theorem own : ownKnob Tryd.prog.godebug = none := by kernel_rfl
theorem laidOut : laidOutB Tryd.prog = true := by kernel_rfl
theorem cells40 : Tryd.prog.cellsOf 38 = 2 := by kernel_rfl
theorem cells3 : Tryd.prog.cellsOf 3 = 1 := by kernel_rfl
theorem bytes40 : Tryd.prog.bytesOf 38 = 24 := by kernel_rfl
theorem door_met (os : Os) (args : Array Value) : laidMetH Tryd.prog [("burin/token.signs", Rows.laid_burin_token_signs)] ((World.doorLaid Tryd.prog 400 os).forCall (fun _ _ => 0) ⟨#[], args, []⟩).memory :=
  laidMetH_of_parts3 (fuel := 8) (laidMet_of_run' 8 (by kernel_rfl) (by kernel_rfl)) (by kernel_rfl) (by kernel_rfl)
theorem add_plain (b o j : Nat) : (⟨b, o, none⟩ : Addr).add j = ⟨b, o + j, none⟩ := by unfold Addr.add; split <;> simp_all
theorem weightsAll_mem {H : Type} {P : Program} {e : TypeId} : ∀ {l : List (DataW H)} {d : DataW H}, d ∈ l → ∀ n ∈ d.weights P e, n ∈ DataW.weightsAll P e l
  | x :: r, d, h, n, hn => by
    rw [DataW.weightsAll, List.mem_append]
    rcases List.mem_cons.1 h with rfl | h
    · exact .inl hn
    · exact .inr (weightsAll_mem h n hn)

/-- The argument opened: lines lie behind the address. -/
theorem open_lines {H : Type} {enc : TypeId × Value → H} {W : World} {p : Option Addr} {len cap fuel : Nat} {x : DataW H × List MemPlace}
    (h : DataW.trod enc Tryd.prog W 0 (fun _ => true) true fuel 39 [.slice p len cap] = some x) :
    ∃ lf : List (Int × ByteArray), lf.length = len ∧ LnB W.heap.size W (.slice p lf.length cap) lf ∧ ((x.1.weights Tryd.prog 39).all (· ≤ reachBytes) = true → Fits lf ∧ cap * 24 ≤ reachBytes ∧ len ≤ cap) := by
  rcases Go.Deep.open_slice_pairs Tryd.underlying39 Tryd.underlying38 cells40 rfl rfl cells3 cells9 h with ⟨hc, hx⟩ | ⟨a, len', cap', m, k, V0, V1, D0, D1, P0, P1, hc, _, hl, hm, hmm, hx, hall⟩
  · obtain ⟨rfl, rfl, rfl⟩ : p = none ∧ len = 0 ∧ cap = 0 := by simpa using hc
    exact ⟨[], rfl, ⟨none, 0, rfl, fun i hi => by simp at hi⟩, fun _ => ⟨⟨by simp, fun y hy => by simp at hy⟩, by simp, Nat.le_refl _⟩⟩
  · obtain ⟨rfl, rfl, rfl⟩ : p = some a ∧ len = len' ∧ cap = cap' := by simpa using hc
    simp only [if_true] at hmm
    subst hmm
    have key : ∀ i, i < m → ∃ (n : Int) (s : ByteArray), V0 i = .int .i64 n ∧ V1 i = .string s ∧ D1 i = .lit (.string s.data.toList) := fun i hi => by
      obtain ⟨_, _, t0, t1⟩ := hall i hi
      obtain ⟨n, e0, _, _⟩ := DataW.trod_int Tryd.underlying3 t0
      obtain ⟨s, e1, e2, hs⟩ := DataW.trod_string Tryd.underlying9 t1
      simp only [List.cons.injEq, and_true] at e0 e1
      exact ⟨n, s, e0, e1, by simpa using congrArg Prod.fst e2⟩
    refine ⟨(List.range len).map fun i => (match V0 i with | .int _ n => n | _ => 0, match V1 i with | .string s => s | _ => ⟨#[]⟩), by simp, ⟨some a, m, rfl, fun i hi => ?_⟩, fun hw => ?_⟩
    · have hi' : i < len := by simpa using hi
      obtain ⟨c0, c1, _, _⟩ := hall i (by omega)
      obtain ⟨n, s, e0, e1, _⟩ := key i (by omega)
      obtain ⟨b, off, spot⟩ := a
      have c00 := (hall 0 (by omega)).1
      have hspot : spot = none := by simpa [Addr.add] using World.cell?_spot c00
      subst hspot
      rw [add_plain] at c0 c1
      rw [← Nat.add_assoc] at c1
      refine ⟨b, off, rfl, World.block_lt_of_cell? W _ c0, ?_, ?_⟩
      · rw [c0]; simp [e0]
      · rw [c1]; simp [e1]
    · rw [hx] at hw
      simp only [DataW.weights, Tryd.underlying39, List.all_cons, Bool.and_eq_true, decide_eq_true_eq, List.all_append, bytes40] at hw
      obtain ⟨h1, h2, _⟩ := hw
      have hmm : len + (m - len) = m := by omega
      have hcap : m * 24 ≤ reachBytes := by
        simp only [List.length_map, List.length_range] at h1
        rw [hmm] at h1
        exact h1
      refine ⟨⟨?_, fun y hy => ?_⟩, hcap, hl⟩
      · simp [reachBytes] at hcap ⊢; omega
      · obtain ⟨i, hi, rfl⟩ := List.mem_map.1 hy
        have hi' := List.mem_range.1 hi
        obtain ⟨n, s, e0, e1, e2⟩ := key i (by omega)
        simp only [e1]
        have := List.all_eq_true.1 h2 s.data.toList.length (weightsAll_mem (d := .agg [D0 i, D1 i]) (List.mem_map.2 ⟨i, hi, rfl⟩) _ (by
          simp only [DataW.weights, Tryd.underlying38, e2]
          simp [DataW.weightsEach, DataW.weights]))
        have h3 := of_decide_eq_true this
        have e : s.data.toList.length = s.size := by simp
        rw [e, reachBytes] at h3
        omega
end Go.Proofs.YticiddcgafhkhaaDoor
