/-
  burinlaw01.TextLines answers true for every string, and leaves its argument as it was.
-/
import Derived.Test.YtncccheaeghbiaaE1
import Derived.Test.YtncccheaeghbiaaRows
import Derived.ProofKit
import Derived.OpenShut
namespace Go.Proofs.Ytncccheaeghbiaa.textLines
open Go.ChangeShapes Go.WideShapes Go.ChangeAt Go.RowKit
open Go.ChangeMaps (open_string shut_string)
set_option linter.unusedVariables false

theorem own : ownKnob Try.prog.godebug = none := by kernel_rfl

set_option maxHeartbeats 1000000 in
theorem walk (s : ByteArray) (w : World) (hs : s.size ≤ maxLen) :
    Calls Try.prog 3 #[.string s] w fun e w' => e = .returned (.bool true) ∧ Below w.heap.size w w' := by
  have hlen : s.data.toList.length = s.size := by simp
  have HLEN := hide hlen
  clear hlen
  by_cases hl : 65536 < s.size
  · go_enter Try.func3, Try.ntmps3
    go_wp2_with fail
    refine (shown_any _).mono ?_
    rintro e W1 ⟨rfl, hb1⟩
    go_wp2_with fail
    refine (Lines_long s _ hs hl).mono ?_
    rintro e W2 ⟨rfl, rfl⟩
    go_wp2_with fail
    refine (refLines_long s _ hs hl).mono ?_
    rintro e W2 ⟨rfl, rfl⟩
    have sm := hide (Same_any (.slice none 0 0) (.slice none 0 0) [] [] W2 ⟨none, 0, rfl, fun i hi => by simp at hi⟩ ⟨none, 0, rfl, fun i hi => by simp at hi⟩ (by decide) (by decide))
    go_wp2_with fail
    refine (unhide sm).mono ?_
    rintro e W7 ⟨rfl, m7, rfl⟩
    simp only [decide_true]
    go_wp2
    go_ret
    exact ⟨rfl, below_drewN hb1 _⟩
  · have hll := lines_short s.data.toList
    rw [unhide HLEN] at hll
    go_enter Try.func3, Try.ntmps3
    go_wp2_with fail
    refine (shown_any _).mono ?_
    rintro e W1 ⟨rfl, hb1⟩
    go_wp2_with fail
    refine (Lines_any s _ (by omega)).mono ?_
    rintro e W2 ⟨v1, rfl, r1, hb2⟩
    go_wp2_with fail
    refine (refLines_any s _ (by omega)).mono ?_
    rintro e W3 ⟨v2, rfl, r2, hb3⟩
    have d1 : Rd W3 v1 (Tx.lines s.data.toList) := Rd.of (ownsRow_below r1 hb3)
    have d2 : Rd W3 v2 (Tx.lines s.data.toList) := Rd.of r2
    have hm : (Tx.lines s.data.toList).length ≤ maxLen := by unfold maxLen; omega
    have sm := hide (Same_any _ _ _ _ _ d1 d2 hm hm)
    have bw : Below w.heap.size w W3 := hb1.trans ((hb2.mono hb1.size).trans (hb3.mono (by have := hb1.size; have := hb2.size; omega)))
    go_wp2_with fail
    refine (unhide sm).mono ?_
    rintro e W7 ⟨rfl, m7, rfl⟩
    simp only [decide_true]
    go_wp2
    go_ret
    exact ⟨rfl, below_drewN bw _⟩

theorem contract (H : Type) (enc : TypeId × Value → H) (W : World) (base : Nat) (args : Array Value) (ds gs : List (DataW H)) (before : List MemPlace)
    (hval : ∀ (j : Nat) t v, Try.f3.params[j]? = some t → args[j]? = some v → Value.okWide Try.prog W .any base t v)
    (hW : DataW.Whole enc Try.prog Try.f3.params.toList Rows.textLinesSpec.vars false W args.toList ds gs before) :
    Calls Try.prog 3 args W fun e W' => ∃ v, e = .returned v ∧ Rows.textLinesSpec.post enc Try.prog Try.f3 false true false false W args v W' := by
  have hW' := hW
  obtain ⟨p, q, hA0, hV, rfl, hfz, hnd⟩ := hW
  have hA : DataW.TrodAll enc Try.prog W 0 (fun _ => true) true Try.f3.params.toList args.toList ds p := hA0
  rw [Try.params3] at hA hval
  obtain ⟨v0, vs0, d0, ds0, p0, q0, hargs, rfl, rfl, h0, r0⟩ := trodAll_cons hA
  obtain ⟨rfl, rfl, rfl⟩ := trodAll_nil r0
  obtain rfl : args = #[v0] := by cases args; simp_all
  obtain ⟨rfl, rfl⟩ := trodVars_none hV
  obtain ⟨s, rfl, rfl, rfl, hmax⟩ := open_string Try.underlying9 (hval 0 9 v0 rfl rfl) h0
  clear hA0
  simp only [List.append_nil] at hW'
  refine (walk s W hmax).mono fun e W' ⟨he, hg⟩ => ?_
  subst he
  exact ⟨_, rfl, _, _, _, [], [], [], hW', trodAll_cons_mk (shut_bool Try.underlying4 _) trodAll_mk0, trodAll_cons_mk (shut_string Try.underlying9 hmax) trodAll_mk0, rfl, hg.frame _, fun h => by cases h⟩

set_option maxRecDepth 100000 in
theorem lifted (os : Os) (started : os.Started) (H : Type) (enc : TypeId × Value → H) :
    ReturnsInHanded {} Try.checked os 3 .any (Rows.textLinesSpec.pre6 enc Try.prog Try.f3 Rows.textLinesRow.domain false) (Rows.textLinesSpec.post enc Try.prog Try.f3 false true false false) := by
  refine returnsInHanded_of_change (C := Try.checked) own started (by kernel_rfl) Try.func3
    (ChangeSpec.witness6 (enc := enc) (C := Try.checked) false ⟨#[], #[.string ⟨#[]⟩], []⟩ 8 (by kernel_rfl) (by kernel_rfl) (by kernel_rfl) (by kernel_rfl)) ?_
  intro W base args ds gs before hval hW _ _
  exact contract H enc W base args ds gs before hval hW

theorem proved : Rows.TextLinesSaid :=
  OpenClaim.holds_of_wide 3 Try.f3 rfl rfl rfl rfl rfl rfl rfl ⟨rfl, rfl, rfl, rfl, rfl⟩ rfl rfl rfl rfl rfl (by kernel_rfl) Try.func3 (by kernel_rfl)
    (of_decide_eq_true (by kernel_rfl)) (by unfold Func.isWrapper; first | (rw [if_pos (by decide +kernel)]; kernel_rfl) | (rw [if_neg (by decide +kernel)]; exact ⟨rfl, rfl⟩))
    (fun os started H enc _ => lifted os started H enc)
end Go.Proofs.Ytncccheaeghbiaa.textLines
namespace Go.Proofs.Ytncccheaeghbiaa
theorem textLines_holds : Rows.TextLinesSaid := textLines.proved
end Go.Proofs.Ytncccheaeghbiaa
