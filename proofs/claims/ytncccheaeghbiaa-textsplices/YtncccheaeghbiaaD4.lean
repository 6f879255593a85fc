/-
  burinlaw01.TextSplices answers true for every string and every number, and leaves its arguments as they were.
-/
import Derived.Test.YtncccheaeghbiaaD3
namespace Go.Proofs.Ytncccheaeghbiaa.textSplices
open Go.ChangeShapes Go.WideShapes Go.ChangeAt Go.RowKit
open Go.ChangeMaps (open_string shut_string)
set_option linter.unusedVariables false

set_option maxHeartbeats 4000000 in
theorem walk (s : ByteArray) (z : Int) (w : World) (hs : s.size ≤ maxLen) :
    Calls Try.prog 7 #[.string s, .int .i64 z] w fun e w' => e = .returned (.bool true) ∧ Below w.heap.size w w' := by
  have hs' : s.size ≤ 2 ^ 63 - 1 := hs
  by_cases h1 : 60000 < s.size
  · have d1 : decide ((60000 : Int) < (s.size : Int)) = true := by simp; omega
    go_enter Try.func7, Try.ntmps7
    go_wp2_with fail
    refine (shown_any _).mono ?_
    rintro e W1 ⟨rfl, hb1⟩
    go_wp2
    go_ret
    exact ⟨rfl, hb1⟩
  have d1 : decide ((60000 : Int) < (s.size : Int)) = false := by simp; omega
  by_cases h2 : z < 0
  · have d2 : decide (z < 0) = true := decide_eq_true h2
    go_enter Try.func7, Try.ntmps7
    go_wp2_with fail
    refine (shown_any _).mono ?_
    rintro e W1 ⟨rfl, hb1⟩
    go_wp2
    go_ret
    exact ⟨rfl, hb1⟩
  obtain ⟨n, rfl⟩ : ∃ n : Nat, z = n := ⟨z.toNat, by omega⟩
  clear h2
  have d2 : decide ((n : Int) < 0) = false := by simp
  by_cases h3 : s.size < n
  · have d3 : decide (s.size < n) = true := decide_eq_true h3
    go_enter Try.func7, Try.ntmps7
    go_wp2_with fail
    refine (shown_any _).mono ?_
    rintro e W1 ⟨rfl, hb1⟩
    go_wp2
    go_ret
    exact ⟨rfl, hb1⟩
  have d3 : decide (s.size < n) = false := decide_eq_false h3
  have nI : (n : Int) ≤ (s.size : Int) := by omega
  by_cases h4 : 0 < n ∧ (s.data.toList.take n).getLast? = some 13
  · obtain ⟨hn0, h13⟩ := h4
    have hn1 : n - 1 < s.size := by omega
    rw [take_last s n hn0 (by omega)] at h13
    have g13 : (((s[n - 1]).toNat : Int) == 13) = true := by rw [Option.some.inj h13]; rfl
    clear h13
    go_enter Try.func7, Try.ntmps7
    go_wp2_with fail
    refine (shown_any _).mono ?_
    rintro e W1 ⟨rfl, hb1⟩
    go_wp2
    go_ret
    exact ⟨rfl, hb1⟩
  have hq : ¬ 0 < n ∨ (0 < n ∧ ∃ h : n - 1 < s.size, (((s[n - 1]).toNat : Int) == 13) = false) := by
    by_cases hn0 : 0 < n
    · refine .inr ⟨hn0, by omega, ?_⟩
      refine byte_neq (d := 13) (fun e => h4 ⟨hn0, ?_⟩)
      rw [take_last s n hn0 (by omega), e]
    · exact .inl hn0
  have h13' : (s.data.toList.take n).getLast? ≠ some 13 := by
    intro e
    by_cases hn0 : 0 < n
    · exact h4 ⟨hn0, e⟩
    · have : n = 0 := by omega
      rw [this] at e; simp at e
  clear h4
  by_cases h5 : n = s.size
  · have d5 : ((n : Int) == (s.size : Int)) = true := by rw [beq_iff_eq]; omega
    have H5 := hide h5
    clear h5
    rcases hq with hn0 | ⟨hn0, hn1, g13⟩
    all_goals
      go_enter Try.func7, Try.ntmps7
      go_wp2_with fail
      refine (shown_any _).mono ?_
      rintro e W1 ⟨rfl, hb1⟩
      go_wp2
      go_ret
      exact ⟨rfl, hb1⟩
  have d5 : ((n : Int) == (s.size : Int)) = false := by rw [beq_eq_false_iff_ne]; omega
  have hn : n < s.size := by omega
  by_cases h6 : 0 < n ∧ (s.data.toList.take n).getLast? = some 92 ∧ Tx.ler (s.data.toList.drop n) ≠ 0
  · obtain ⟨hn0, h92, hle⟩ := h6
    have hn1 : n - 1 < s.size := by omega
    have g13 : (((s[n - 1]).toNat : Int) == 13) = false := by
      rcases hq with h | ⟨_, _, h⟩
      · exact absurd hn0 h
      · exact h
    rw [take_last s n hn0 (by omega)] at h92
    have g92 : (((s[n - 1]).toNat : Int) == 92) = true := by rw [Option.some.inj h92]; rfl
    have ht : (((s[n]).toNat : Int) == 10) = true ∨ (((s[n]).toNat : Int) == 10) = false ∧ (((s[n]).toNat : Int) == 13) = true := by
      by_cases h10 : s[n] = 10
      · exact .inl (by rw [h10]; rfl)
      · by_cases h13 : s[n] = 13
        · exact .inr ⟨byte_neq (d := 10) h10, by rw [h13]; rfl⟩
        · exact absurd (by rw [drop_at s n hn, Tx.ler_cons]; simp [h10, h13]) hle
    clear h92 hle hq
    rcases ht with t10 | ⟨t10, t13⟩
    all_goals
      go_enter Try.func7, Try.ntmps7
      go_wp2_with fail
      refine (shown_any _).mono ?_
      rintro e W1 ⟨rfl, hb1⟩
      go_wp2
      go_ret
      exact ⟨rfl, hb1⟩
  refine walk_main s n w (by omega) hn ?_ ?_
  · have hr := Tx.lines_splice (s.data.toList.take n) (s.data.toList.drop n) (by rw [drop_at s n hn]; simp) h13' (fun e => by
      by_cases hn0 : 0 < n
      · exact Classical.byContradiction fun hle => h6 ⟨hn0, e, hle⟩
      · have : n = 0 := by omega
        rw [this] at e; simp at e)
    rw [List.take_append_drop] at hr
    exact hr
  · rcases hq with h | ⟨hn0, hn1, g13⟩
    · exact .inl h
    · refine .inr ⟨hn0, hn1, g13, ?_⟩
      by_cases h92 : s[n - 1] = 92
      · have hle : Tx.ler (s.data.toList.drop n) = 0 := Classical.byContradiction fun hle => h6 ⟨hn0, by rw [take_last s n hn0 (by omega), h92], hle⟩
        rw [drop_at s n hn, Tx.ler_cons] at hle
        refine .inr ⟨byte_neq (d := 10) (fun e => ?_), byte_neq (d := 13) (fun e => ?_)⟩
        · rw [e] at hle; simp at hle
        · rw [e] at hle; simp at hle; split at hle <;> simp at hle
      · exact .inl (byte_neq (d := 92) h92)

theorem contract (H : Type) (enc : TypeId × Value → H) (W : World) (base : Nat) (args : Array Value) (ds gs : List (DataW H)) (before : List MemPlace)
    (hval : ∀ (j : Nat) t v, Try.f7.params[j]? = some t → args[j]? = some v → Value.okWide Try.prog W .any base t v)
    (hW : DataW.Whole enc Try.prog Try.f7.params.toList Rows.textSplicesSpec.vars false W args.toList ds gs before) :
    Calls Try.prog 7 args W fun e W' => ∃ v, e = .returned v ∧ Rows.textSplicesSpec.post enc Try.prog Try.f7 false true false false W args v W' := by
  have hW' := hW
  obtain ⟨p, q, hA0, hV, rfl, hfz, hnd⟩ := hW
  have hA : DataW.TrodAll enc Try.prog W 0 (fun _ => true) true Try.f7.params.toList args.toList ds p := hA0
  rw [Try.params7] at hA hval
  obtain ⟨v0, v1, d0, d1, p0, p1, hargs, rfl, rfl, h0, h1⟩ := trodAll_two hA
  obtain rfl : args = #[v0, v1] := by cases args; simp_all
  obtain ⟨rfl, rfl⟩ := trodVars_none hV
  obtain ⟨a, rfl, rfl, rfl, hma⟩ := open_string Try.underlying9 (hval 0 9 v0 rfl rfl) h0
  obtain ⟨z, rfl, rfl, rfl, hmz⟩ := open_int Try.underlying3 (hval 1 3 v1 rfl rfl) h1
  clear hA0
  simp only [List.append_nil] at hW'
  refine (walk a z W hma).mono fun e W' ⟨he, hg⟩ => ?_
  subst he
  exact ⟨_, rfl, _, _, _, [], [], [], hW', trodAll_cons_mk (shut_bool Try.underlying4 _) trodAll_mk0, trodAll_mk2 (shut_string Try.underlying9 hma) (shut_int Try.underlying3 hmz), rfl, hg.frame _, fun h => by cases h⟩

set_option maxRecDepth 100000 in
theorem lifted (os : Os) (started : os.Started) (H : Type) (enc : TypeId × Value → H) :
    ReturnsInHanded {} Try.checked os 7 .any (Rows.textSplicesSpec.pre6 enc Try.prog Try.f7 Rows.textSplicesRow.domain false) (Rows.textSplicesSpec.post enc Try.prog Try.f7 false true false false) := by
  refine returnsInHanded_of_change (C := Try.checked) own started (by kernel_rfl) Try.func7
    (ChangeSpec.witness6 (enc := enc) (C := Try.checked) false ⟨#[], #[.string ⟨#[]⟩, .int .i64 0], []⟩ 8 (by kernel_rfl) (by kernel_rfl) (by kernel_rfl) (by kernel_rfl)) ?_
  intro W base args ds gs before hval hW _ _
  exact contract H enc W base args ds gs before hval hW

theorem proved : Rows.TextSplicesSaid :=
  OpenClaim.holds_of_wide 7 Try.f7 rfl rfl rfl rfl rfl rfl rfl ⟨rfl, rfl, rfl, rfl, rfl⟩ rfl rfl rfl rfl rfl (by kernel_rfl) Try.func7 (by kernel_rfl)
    (of_decide_eq_true (by kernel_rfl)) (by unfold Func.isWrapper; first | (rw [if_pos (by decide +kernel)]; kernel_rfl) | (rw [if_neg (by decide +kernel)]; exact ⟨rfl, rfl⟩))
    (fun os started H enc _ => lifted os started H enc)
end Go.Proofs.Ytncccheaeghbiaa.textSplices
namespace Go.Proofs.Ytncccheaeghbiaa
theorem textSplices_holds : Rows.TextSplicesSaid := textSplices.proved
end Go.Proofs.Ytncccheaeghbiaa
