/-
  burinlaw01.TextEnds answers true for every string, and leaves its argument as it was.
-/
import Derived.Test.YtncccheaeghbiaaC1
import Derived.Test.YtncccheaeghbiaaPlain2
import Derived.Test.YtncccheaeghbiaaRows
import Derived.ProofKit
import Derived.OpenShut
namespace Go.Proofs.Ytncccheaeghbiaa.textEnds
open Go.ChangeShapes Go.WideShapes Go.ChangeAt Go.RowKit
open Go.ChangeMaps (open_string shut_string)
set_option linter.unusedVariables false

theorem own : ownKnob Try.prog.godebug = none := by kernel_rfl

theorem take_at (s : ByteArray) (k : Nat) (h : k < s.size) : s.data.toList.take (k + 1) = s.data.toList.take k ++ [s[k]] := by
  rw [List.take_succ_eq_append_getElem (by simpa using h)]; rfl

set_option maxHeartbeats 1000000 in
theorem ends_any (s : ByteArray) (n : Nat) (z : Int) (hn : (n = 0 ∧ (z == 1) = false) ∨ (n = 1 ∧ (z == 1) = true)) (w : World) (hs : s.size ≤ 30000) :
    Calls Try.prog 17 #[.string s, .int .i64 z] w fun e w' => e = .returned (.string ⟨(Tx.conv n s.data.toList).toArray⟩) ∧ Below w.heap.size w w' := by
  obtain ⟨i5, hi5, hz5a, hz5b, hz5c⟩ := info_parts Try.info5
  have hlen : s.data.toList.length = s.size := by simp
  have HLEN := hide hlen
  have HN := hide hn
  clear hlen hn
  go_enter Try.func17, Try.ntmps17
  go_wp2
  go_loopw [5, 6] (fun vb i wr => ∃ (k : Nat), i = .int .i64 k ∧ k ≤ s.size ∧ wr.ownsRow w.heap.size 5 1 vb (Tx.conv n (s.data.toList.take k)).length (Lib.byteCells (Tx.conv n (s.data.toList.take k))) ∧ Below w.heap.size w wr) (fun vb i wr => s.size - (intOf i).toNat)
  case atStart => exact ⟨0, rfl, Nat.zero_le _, World.ownsRow_nil _ _ _ _, Below.refl _ _⟩
  case round =>
    obtain ⟨k, rfl, hk, hrb, hbe⟩ := hrel
    have hz := hbe.size
    have hcl := Tx.conv_length n (s.data.toList.take k)
    rw [List.length_take] at hcl
    by_cases hlt : k < s.size
    · have htk := hide (take_at s k hlt)
      by_cases h10 : s[k] = 10
      · have g1 : ((s[k].toNat : Int) != 10) = false := by rw [h10]; rfl
        rcases unhide HN with ⟨rfl, gz⟩ | ⟨rfl, gz⟩
        · have hcv : Hid (Tx.conv 0 (s.data.toList.take (k + 1)) = Tx.conv 0 (s.data.toList.take k) ++ [13]) := by
            rw [Hid, unhide htk, Tx.conv_snoc, h10]; rfl
          go_wp2_with (at_builtin; refine wpList_append_own _ rfl _ _ 38 rfl w.heap.size 5 i5 (.int .u8 0) 1 1 Try.underlying38 hi5 hz5a hz5b hz5c rfl (by decide) _ _ _ rfl (hrb.alloc _) ⟨wr.heap.size, 0, none⟩ 1 1 [.int .u8 13] rfl rfl (one_cell wr _ 5) ?c2 ?c3 ?c4 ?c5 ?_)
          case c2 => first | rfl | (intro u hu; simp at hu; subst hu; rfl)
          case c3 => unfold maxLen; omega
          case c4 => omega
          case c5 => first | omega | (simp; omega)
          intro v' W5 hown' hgrow _
          have hbe' : Below w.heap.size w W5 := (hbe.alloc hz _).grown hgrow (by simp; omega) (fun r e => (row_turn hrb r e).1)
          go_wp2
          go_roundw
          case rel =>
            refine ⟨k + 1, by go_num, by omega, ?_, hbe'⟩
            rw [unhide hcv]
            simpa [Lib.byteCells] using hown'
          case measure => simp [intOf]; omega
        · have hcv : Hid (Tx.conv 1 (s.data.toList.take (k + 1)) = Tx.conv 1 (s.data.toList.take k) ++ [13] ++ [10]) := by
            rw [Hid, unhide htk, Tx.conv_snoc, h10]; simp
          go_wp2_with (at_builtin; refine wpList_append_own _ rfl _ _ 38 rfl w.heap.size 5 i5 (.int .u8 0) 1 1 Try.underlying38 hi5 hz5a hz5b hz5c rfl (by decide) _ _ _ rfl (hrb.alloc _) ⟨wr.heap.size, 0, none⟩ 1 1 [.int .u8 13] rfl rfl (one_cell wr _ 5) ?c2 ?c3 ?c4 ?c5 ?_)
          case c2 => first | rfl | (intro u hu; simp at hu; subst hu; rfl)
          case c3 => unfold maxLen; omega
          case c4 => omega
          case c5 => first | omega | (simp; omega)
          intro v' W5 hown' hgrow _
          have hbe' : Below w.heap.size w W5 := (hbe.alloc hz _).grown hgrow (by simp; omega) (fun r e => (row_turn hrb r e).1)
          have hz5 := hbe'.size
          go_wp2_with (at_builtin; refine wpList_append_own _ rfl _ _ 38 rfl w.heap.size 5 i5 (.int .u8 0) 1 1 Try.underlying38 hi5 hz5a hz5b hz5c rfl (by decide) _ _ _ rfl (hown'.alloc _) ⟨W5.heap.size, 0, none⟩ 1 1 [.int .u8 10] rfl rfl (one_cell W5 _ 5) ?e2 ?e3 ?e4 ?e5 ?_)
          case e2 => first | rfl | (intro u hu; simp at hu; subst hu; rfl)
          case e3 => unfold maxLen; omega
          case e4 => omega
          case e5 => first | omega | (simp; omega)
          intro v2 W6 hown2 hgrow2 _
          have hbe2 : Below w.heap.size w W6 := (hbe'.alloc hz5 _).grown hgrow2 (by simp; omega) (fun r e => (row_turn hown' r e).1)
          go_wp2
          go_roundw
          case rel =>
            refine ⟨k + 1, by go_num, by omega, ?_, hbe2⟩
            rw [unhide hcv]
            simpa [Lib.byteCells] using hown2
          case measure => simp [intOf]; omega
      · have g1 : ((s[k].toNat : Int) != 10) = true := byte_ne (d := 10) h10
        have hcv : Hid (Tx.conv n (s.data.toList.take (k + 1)) = Tx.conv n (s.data.toList.take k) ++ [s[k]]) := by
          rw [Hid, unhide htk, Tx.conv_snoc, if_neg h10]
        clear h10
        go_wp2_with (at_builtin; refine wpList_append_own _ rfl _ _ 38 rfl w.heap.size 5 i5 (.int .u8 0) 1 1 Try.underlying38 hi5 hz5a hz5b hz5c rfl (by decide) _ _ _ rfl (hrb.alloc _) ⟨wr.heap.size, 0, none⟩ 1 1 [.int .u8 (s[k].toNat : Nat)] rfl rfl (one_cell wr _ 5) ?c2 ?c3 ?c4 ?c5 ?_)
        case c2 => first | rfl | (intro u hu; simp at hu; subst hu; rfl)
        case c3 => unfold maxLen; omega
        case c4 => omega
        case c5 => first | omega | (simp; omega)
        intro v' W5 hown' hgrow _
        have hbe' : Below w.heap.size w W5 := (hbe.alloc hz _).grown hgrow (by simp; omega) (fun r e => (row_turn hrb r e).1)
        go_wp2
        go_roundw
        case rel =>
          refine ⟨k + 1, by go_num, by omega, ?_, hbe'⟩
          rw [unhide hcv]
          simpa [Lib.byteCells] using hown'
        case measure => simp [intOf]; omega
    · rw [List.take_of_length_le (by have := unhide HLEN; omega)] at hrb
      have hrun := run_string_row hrb
      go_wp2
      go_ret
      exact ⟨rfl, hbe⟩

set_option maxHeartbeats 1000000 in
theorem walk (s : ByteArray) (w : World) (hs : s.size ≤ maxLen) :
    Calls Try.prog 6 #[.string s] w fun e w' => e = .returned (.bool true) ∧ Below w.heap.size w w' := by
  have hs' : s.size ≤ 2 ^ 63 - 1 := hs
  have hlen : s.data.toList.length = s.size := by simp
  have HLEN := hide hlen
  clear hlen
  by_cases hl : 30000 < s.size
  · have hd : decide ((30000 : Int) < (s.size : Int)) = true := by simp; omega
    go_enter Try.func6, Try.ntmps6
    go_wp2_with fail
    refine (shown_any _).mono ?_
    rintro e W1 ⟨rfl, hb1⟩
    go_wp2
    go_ret
    exact ⟨rfl, hb1⟩
  · have hd : decide ((30000 : Int) < (s.size : Int)) = false := by simp; omega
    go_enter Try.func6, Try.ntmps6
    go_wp2_with fail
    refine (shown_any _).mono ?_
    rintro e W1 ⟨rfl, hb1⟩
    go_wp2
    go_loop [4] (fun i => ∃ k : Nat, i = .int .i64 k ∧ k ≤ s.size ∧ Hid (∀ j (h : j < s.size), j < k → s[j] ≠ 13)) (fun i => s.size - (intOf i).toNat)
    case atStart => exact ⟨0, rfl, Nat.zero_le _, fun j _ hj => by omega⟩
    case round =>
      obtain ⟨k, rfl, hk, hno⟩ := hrel
      by_cases hlt : k < s.size
      · by_cases h13 : s[k] = 13
        · have g1 : ((s[k].toNat : Int) == 13) = true := by rw [h13]; rfl
          go_wp2
          go_ret
          exact ⟨rfl, hb1⟩
        · have g1 : ((s[k].toNat : Int) == 13) = false := byte_neq (d := 13) h13
          have hno2 : Hid (∀ j (h : j < s.size), j < k + 1 → s[j] ≠ 13) := fun j h hj => by
            by_cases e : j = k
            · subst e; exact h13
            · exact unhide hno j h (by omega)
          clear h13
          go_wp2
          go_round
          case rel => exact ⟨k + 1, by go_num, by omega, hno2⟩
          case measure => simp [intOf]; omega
      · have hfree : Hid (∀ c ∈ s.data.toList, c ≠ 13) := fun c hc => by
          obtain ⟨j, hj, rfl⟩ := List.getElem_of_mem hc
          have hj' : j < s.size := by rw [unhide HLEN] at hj; exact hj
          exact unhide hno j hj' (by omega)
        have hc0 : Hid (Tx.lines (Tx.conv 0 s.data.toList) = Tx.lines s.data.toList) := Tx.lines_conv 0 (.inl rfl) _ (unhide hfree)
        have hc1 : Hid (Tx.lines (Tx.conv 1 s.data.toList) = Tx.lines s.data.toList) := Tx.lines_conv 1 (.inr rfl) _ (unhide hfree)
        have z0 : (⟨(Tx.conv 0 s.data.toList).toArray⟩ : ByteArray).size ≤ 65536 := by
          have := Tx.conv_length 0 s.data.toList
          rw [unhide HLEN] at this
          show (Tx.conv 0 s.data.toList).toArray.size ≤ _
          simp; omega
        have z1 : (⟨(Tx.conv 1 s.data.toList).toArray⟩ : ByteArray).size ≤ 65536 := by
          have := Tx.conv_length 1 s.data.toList
          rw [unhide HLEN] at this
          show (Tx.conv 1 s.data.toList).toArray.size ≤ _
          simp; omega
        have hll := lines_short s.data.toList
        rw [unhide HLEN] at hll
        go_wp2_with fail
        refine (Lines_any s _ (by omega)).mono ?_
        rintro e W2 ⟨v1, rfl, r1, hb2⟩
        go_wp2_with fail
        refine (ends_any s 0 0 (.inl ⟨rfl, rfl⟩) _ (by omega)).mono ?_
        rintro e W3 ⟨rfl, hb3⟩
        go_wp2_with fail
        refine (Lines_any _ _ z0).mono ?_
        rintro e W4 ⟨v2, rfl, r2, hb4⟩
        go_wp2_with fail
        refine (ends_any s 1 1 (.inr ⟨rfl, rfl⟩) _ (by omega)).mono ?_
        rintro e W5 ⟨rfl, hb5⟩
        go_wp2_with fail
        refine (Lines_any _ _ z1).mono ?_
        rintro e W6 ⟨v3, rfl, r3, hb6⟩
        replace r2 : W4.ownsRow W3.heap.size 32 2 v2 (Tx.lines s.data.toList).length (lineCells (Tx.lines s.data.toList)) := by
          rw [← unhide hc0]; exact r2
        replace r3 : W6.ownsRow W5.heap.size 32 2 v3 (Tx.lines s.data.toList).length (lineCells (Tx.lines s.data.toList)) := by
          rw [← unhide hc1]; exact r3
        have y2 := hb2.size
        have y3 := hb3.size
        have y4 := hb4.size
        have y5 := hb5.size
        have y6 := hb6.size
        have b26 : Below W2.heap.size W2 W6 := hb3.trans ((hb4.mono y3).trans ((hb5.mono (by omega)).trans (hb6.mono (by omega))))
        have b46 : Below W4.heap.size W4 W6 := hb5.trans (hb6.mono y5)
        have d1 : Rd W6 v1 (Tx.lines s.data.toList) := Rd.of (ownsRow_below r1 b26)
        have d2 : Rd W6 v2 (Tx.lines s.data.toList) := Rd.of (ownsRow_below r2 b46)
        have d3 : Rd W6 v3 (Tx.lines s.data.toList) := Rd.of r3
        have hm : (Tx.lines s.data.toList).length ≤ maxLen := by unfold maxLen; omega
        have s12 := hide (Same_any _ _ _ _ _ d1 d2 hm hm)
        have s13 := fun m => Same_any (w := W6.drewN m) _ _ _ _ d1 d3 hm hm
        have S13 := hide s13
        clear s13
        have bw6 : Below w.heap.size w W6 := hb1.trans ((hb2.mono hb1.size).trans (b26.mono (by have := hb1.size; omega)))
        go_wp2_with fail
        refine (unhide s12).mono ?_
        rintro e W7 ⟨rfl, m7, rfl⟩
        simp only [decide_true]
        go_wp2_with fail
        refine (unhide S13 m7).mono ?_
        rintro e W8 ⟨rfl, m8, rfl⟩
        simp only [decide_true]
        go_wp2
        go_ret
        exact ⟨rfl, below_drewN bw6 _⟩

theorem contract (H : Type) (enc : TypeId × Value → H) (W : World) (base : Nat) (args : Array Value) (ds gs : List (DataW H)) (before : List MemPlace)
    (hval : ∀ (j : Nat) t v, Try.f6.params[j]? = some t → args[j]? = some v → Value.okWide Try.prog W .any base t v)
    (hW : DataW.Whole enc Try.prog Try.f6.params.toList Rows.textEndsSpec.vars false W args.toList ds gs before) :
    Calls Try.prog 6 args W fun e W' => ∃ v, e = .returned v ∧ Rows.textEndsSpec.post enc Try.prog Try.f6 false true false false W args v W' := by
  have hW' := hW
  obtain ⟨p, q, hA0, hV, rfl, hfz, hnd⟩ := hW
  have hA : DataW.TrodAll enc Try.prog W 0 (fun _ => true) true Try.f6.params.toList args.toList ds p := hA0
  rw [Try.params6] at hA hval
  obtain ⟨v0, vs0, d0, ds0, p0, q0, hargs, rfl, rfl, h0, r0⟩ := trodAll_cons hA
  obtain ⟨rfl, rfl, rfl⟩ := trodAll_nil r0
  obtain rfl : args = #[v0] := by cases args; simp_all
  obtain ⟨rfl, rfl⟩ := trodVars_none hV
  obtain ⟨s, rfl, rfl, rfl, hmax⟩ := open_string Try.underlying9 (hval 0 9 v0 rfl rfl) h0
  clear hA0
  simp only [List.append_nil] at hW'
  refine (walk s W hmax).mono fun e W' ⟨he, hg⟩ => ?_
  subst he
  exact ⟨_, rfl, _, _, _, [], [], [], hW', trodAll_cons_mk (shut_bool Try.underlying4 _) trodAll_mk0, trodAll_cons_mk (shut_string Try.underlying9 hmax) trodAll_mk0, rfl, hg.frame _, fun h => by cases h⟩

set_option maxRecDepth 100000 in
theorem lifted (os : Os) (started : os.Started) (H : Type) (enc : TypeId × Value → H) :
    ReturnsInHanded {} Try.checked os 6 .any (Rows.textEndsSpec.pre6 enc Try.prog Try.f6 Rows.textEndsRow.domain false) (Rows.textEndsSpec.post enc Try.prog Try.f6 false true false false) := by
  refine returnsInHanded_of_change (C := Try.checked) own started (by kernel_rfl) Try.func6
    (ChangeSpec.witness6 (enc := enc) (C := Try.checked) false ⟨#[], #[.string ⟨#[]⟩], []⟩ 8 (by kernel_rfl) (by kernel_rfl) (by kernel_rfl) (by kernel_rfl)) ?_
  intro W base args ds gs before hval hW _ _
  exact contract H enc W base args ds gs before hval hW

theorem proved : Rows.TextEndsSaid :=
  OpenClaim.holds_of_wide 6 Try.f6 rfl rfl rfl rfl rfl rfl rfl ⟨rfl, rfl, rfl, rfl, rfl⟩ rfl rfl rfl rfl rfl (by kernel_rfl) Try.func6 (by kernel_rfl)
    (of_decide_eq_true (by kernel_rfl)) (by unfold Func.isWrapper; first | (rw [if_pos (by decide +kernel)]; kernel_rfl) | (rw [if_neg (by decide +kernel)]; exact ⟨rfl, rfl⟩))
    (fun os started H enc _ => lifted os started H enc)
end Go.Proofs.Ytncccheaeghbiaa.textEnds
namespace Go.Proofs.Ytncccheaeghbiaa
theorem textEnds_holds : Rows.TextEndsSaid := textEnds.proved
end Go.Proofs.Ytncccheaeghbiaa
