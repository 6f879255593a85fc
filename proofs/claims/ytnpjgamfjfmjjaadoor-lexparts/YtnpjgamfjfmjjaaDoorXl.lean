/-
  The statements' own shown of layer 7.
-/
import Derived.Test.YtnpjgamfjfmjjaaDoorXk
namespace Go.Proofs.YtnpjgamfjfmjjaaDoor
open Go Go.RowKit
set_option linter.unusedVariables false
set_option linter.unusedSimpArgs false

def shS : List UInt8 := [105, 110, 116, 32, 48, 120, 56, 48, 48, 48, 48, 48, 48, 48, 32, 34, 97, 92, 120, 52, 49, 34, 32, 34, 98, 34]
set_option maxRecDepth 100000 in
theorem shS_is : wsM (lx shS) = ([⟨1, [105, 110, 116], 0, 0, [], 1⟩, ⟨3, [], 2147483648, 6, [], 1⟩, ⟨4, [97, 65, 98], 0, 0, [], 1⟩], 0, [], 0) := by kernel_rfl
theorem shS_ascii : ∀ c ∈ shS, c.toNat < 128 := by decide
theorem lx_ok (s : List UInt8) (hs : s.length < 4294967281) (h : ∀ c ∈ s, c.toNat < 128) : ∀ t ∈ lx s, TokOK t := fun t ht =>
  tokOK_ascii t (Nat.lt_of_le_of_lt (lx_bytes s t ht).1 hs) (fun c hc => h c ((lx_bytes s t ht).2 c hc))
set_option maxRecDepth 100000 in
set_option maxHeartbeats 4000000 in
theorem shown_any (w : World) (hg : Gl w) : Calls Tryd.prog 4 #[] w fun e w' => e = .returned (.bool true) ∧ Below w.heap.size w w' := by
  have HL1 := hide (lexed_any shS w (by decide) hg)
  have hlen := lx_len shS
  have hok := lx_ok shS (by decide) shS_ascii
  have HW : Hid (∀ p cap W, (lx shS).length ≤ cap → TkG W.heap.size W (.slice p (lx shS).length cap) (lx shS) → Gl W → Calls Tryd.prog 5 #[.slice p (lx shS).length cap] W fun e w' => ∃ v', e = .returned (.tuple #[v', .int .i64 0, .string ⟨#[]⟩, .int .i64 0]) ∧
      WdG w'.heap.size w' v' [⟨1, [105, 110, 116], 0, 0, [], 1⟩, ⟨3, [], 2147483648, 6, [], 1⟩, ⟨4, [97, 65, 98], 0, 0, [], 1⟩] ∧ Below W.heap.size W w') := fun p cap W hc hT hG => by
    refine (Words_any p cap (lx shS) W hlen hc hT hok hG).mono ?_
    rintro e w' ⟨v', rfl, hrow, hb⟩
    rw [shS_is] at hrow ⊢
    exact ⟨v', rfl, WdG.of hrow rfl, hb⟩
  generalize lx shS = L at *
  simp only [shS] at HL1
  have HG := hide hg
  clear hlen hok hg
  go_enter Tryd.func4, Tryd.ntmps4
  go_wp2_with fail
  refine (unhide HL1).mono ?_
  rintro e W1 ⟨p1, c1, rfl, hc1, hT1, hb1⟩
  have HW1 := hide (unhide HW p1 c1 W1 hc1 hT1 ((unhide HG).next hb1))
  have HB1 := hide hb1
  clear hT1 HL1 hb1 HW
  go_wp2_with fail
  refine (unhide HW1).mono ?_
  rintro e W2 ⟨v', rfl, hT2, hb2⟩
  have HB2 := hide ((unhide HB1).trans (hb2.mono (unhide HB1).size))
  obtain ⟨p2, c2, rfl, hcc⟩ := hT2
  obtain ⟨g, o, rfl, _, a0, a1, a2, a3, a4, a5⟩ := hcc 0 (by simp)
  obtain ⟨g', o', e1, _, b0, b1, b2, b3, b4, b5⟩ := hcc 1 (by simp)
  obtain ⟨rfl, rfl⟩ : g = g' ∧ o = o' := by simpa using e1
  obtain ⟨g', o', e1, _, d0, d1, d2, d3, d4, d5⟩ := hcc 2 (by simp)
  obtain ⟨rfl, rfl⟩ : g = g' ∧ o = o' := by simpa using e1
  simp only [List.getElem_cons_zero, List.getElem_cons_succ, List.length_cons, List.length_nil, Nat.zero_mul, Nat.one_mul, Nat.add_zero, Nat.reduceMul, Nat.reduceAdd] at a0 b3 d1
  clear a1 a2 a3 a4 a5 b0 b1 b2 b4 b5 d0 d2 d3 d4 d5 hcc hb2 HW1 HB1 e1
  go_wp2
  go_ret
  exact ⟨rfl, unhide HB2⟩
end Go.Proofs.YtnpjgamfjfmjjaaDoor
