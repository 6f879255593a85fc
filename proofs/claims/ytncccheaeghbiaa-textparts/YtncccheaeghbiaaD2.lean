/-
  burinlaw01.TextParts answers true for every two strings, and leaves its arguments as they were.
-/
import Derived.Test.YtncccheaeghbiaaC1
import Derived.Test.YtncccheaeghbiaaPlain3
import Derived.Test.YtncccheaeghbiaaRows
import Derived.ProofKit
import Derived.OpenShut
namespace Go.Proofs.Ytncccheaeghbiaa.textParts
open Go.ChangeShapes Go.WideShapes Go.ChangeAt Go.RowKit
open Go.ChangeMaps (open_string shut_string)
set_option linter.unusedVariables false

theorem own : ownKnob Try.prog.godebug = none := by kernel_rfl

theorem row_form {W : World} {base n size : Nat} {e : TypeId} {v : Value} {xs : List Value} (h : W.ownsRow base e size v n xs) : ∃ p cap, v = .slice p n cap := by
  rcases h.2 with ⟨rfl, h0⟩ | ⟨g, cap, cur, rfl, _⟩
  · exact ⟨_, _, by rw [h0]⟩
  · exact ⟨_, _, rfl⟩
theorem row_some {W : World} {base n size : Nat} {e : TypeId} {v : Value} {xs : List Value} (h : W.ownsRow base e size v n xs) (hn : 0 < n) : ∃ g cap, v = .slice (some ⟨g, 0, none⟩) n cap ∧ n ≤ cap ∧ cap ≤ maxLen := by
  rcases h.2 with ⟨rfl, h0⟩ | ⟨g, cap, cur, rfl, _, _, h1, h2, _⟩
  · omega
  · exact ⟨_, _, rfl, h1, h2⟩
theorem Rd.take {W : World} {p : Option Addr} {cap cap' : Nat} {l r : List (Nat × List UInt8)} (h : Rd W (.slice p (l ++ r).length cap) (l ++ r)) : Rd W (.slice p l.length cap') l := by
  obtain ⟨q, c, e, hc⟩ := h
  obtain ⟨rfl, -, rfl⟩ : p = q ∧ (l ++ r).length = (l ++ r).length ∧ cap = c := by simpa using e
  refine ⟨p, cap', rfl, fun i hi => ?_⟩
  obtain ⟨g, hp, h1, h2⟩ := hc i (by simp; omega)
  refine ⟨g, hp, ?_, ?_⟩
  · rw [List.getElem_append_left hi] at h1; exact h1
  · rw [List.getElem_append_left hi] at h2; exact h2

set_option maxHeartbeats 2000000 in
theorem walk_main (a b : ByteArray) (w : World) (ha : a.size ≤ 30000) (hb : b.size ≤ 30000) (h92 : a.data.toList.getLast? ≠ some 92) (h13 : a.data.toList.getLast? ≠ some 13) :
    Calls Try.prog 8 #[.string a, .string b] w fun e w' => e = .returned (.bool true) ∧ Below w.heap.size w w' := by
  have d1 : decide ((30000 : Int) < (a.size : Int)) = false := by simp; omega
  have d2 : decide ((30000 : Int) < (b.size : Int)) = false := by simp; omega
  have dA : (a ++ (⟨#[10]⟩ : ByteArray)).data.toList = a.data.toList ++ [10] := by rw [ByteArray.data_append]; simp
  have dC : ((a ++ (⟨#[10]⟩ : ByteArray)) ++ b).data.toList = (a.data.toList ++ [10]) ++ b.data.toList := by rw [ByteArray.data_append, Array.toList_append, dA]
  have zA : (a ++ (⟨#[10]⟩ : ByteArray)).size = a.size + 1 := by rw [ByteArray.size_append]; rfl
  have zC : ((a ++ (⟨#[10]⟩ : ByteArray)) ++ b).size = a.size + 1 + b.size := by rw [ByteArray.size_append, zA]
  have hparts := Tx.lines_parts a.data.toList b.data.toList h13 h92
  have hpl := Tx.pl_parts a.data.toList b.data.toList
  rw [← dC, ← dA] at hparts hpl
  rw [← Tx.phys_len, ← Tx.phys_len, ← Tx.phys_len] at hpl
  rw [← Tx.phys_len] at hparts
  have p1 := Tx.phys_length (a ++ (⟨#[10]⟩ : ByteArray)).data.toList
  have p2 := Tx.phys_length b.data.toList
  have q1 := lines_short (a ++ (⟨#[10]⟩ : ByteArray)).data.toList
  have q2 := lines_short b.data.toList
  have hnum : Hid (∀ p ∈ Tx.lines b.data.toList, p.1 ≤ b.data.toList.length) := Tx.lines_num b.data.toList
  have lA : (a ++ (⟨#[10]⟩ : ByteArray)).data.toList.length = a.size + 1 := by rw [← zA, Array.length_toList]; rfl
  have lB : b.data.toList.length = b.size := by simp
  rw [lA] at p1 q1
  rw [lB] at p2 q2
  have hne : 0 < (Tx.lines (a ++ (⟨#[10]⟩ : ByteArray)).data.toList).length := by
    rw [dA, Tx.lines_lg]
    cases h : Tx.pl [] (a.data.toList ++ [10]) with
    | nil => exact absurd (Tx.pl_eq_nil.1 h).2 (by simp)
    | cons x L =>
      have key : ∀ (L : List (List UInt8)) (n f : Nat) (w x : List UInt8), 0 < (Tx.lg n f w (x :: L)).length := by
        intro L
        induction L with
        | nil => intro n f w x; simp [Tx.lg]
        | cons y L ih =>
          intro n f w x
          unfold Tx.lg
          split
          · exact ih _ _ _ _
          · simp
      exact key L 0 1 [] x
  have hg : ¬ 0 < a.size ∨ (0 < a.size ∧ ∃ h : a.size - 1 < a.size, (((a[a.size - 1]).toNat : Int) == 92) = false ∧ (((a[a.size - 1]).toNat : Int) == 13) = false) := by
    rcases Nat.eq_zero_or_pos a.size with h0 | h0
    · exact .inl (by omega)
    · refine .inr ⟨h0, by omega, ?_⟩
      have hlast : a.data.toList.getLast? = some (a[a.size - 1]) := by
        rw [List.getLast?_eq_getElem?, List.getElem?_eq_getElem (by simp; omega)]; simp; rfl
      rw [hlast] at h92 h13
      exact ⟨byte_neq (d := 92) (fun e => h92 (by rw [e])), byte_neq (d := 13) (fun e => h13 (by rw [e]))⟩
  have HP := hide hparts
  have HL := hide hpl
  clear hparts hpl h92 h13 dA dC lA lB
  generalize hA : (a ++ (⟨#[10]⟩ : ByteArray)) = A at *
  have HA := hide hA
  clear hA
  generalize hC : A ++ b = C at *
  have HC := hide hC
  clear hC
  have ZA := hide zA
  have ZC := hide zC
  have zA' : A.size ≤ 30001 := by omega
  have zC' : C.size ≤ 60001 := by omega
  clear zA zC
  rcases hg with hd0 | ⟨h0, hh, g1, g2⟩
  all_goals
    go_enter Try.func8, Try.ntmps8
    go_wp2_with fail
    refine (shown_any _).mono ?_
    rintro e W1 ⟨rfl, hb1⟩
    go_wp2_with fail
    rw [unhide HA]
    refine (Lines_any A _ (by omega)).mono ?_
    rintro e W2 ⟨v1, rfl, r1, hb2⟩
    go_wp2_with fail
    refine (Lines_any b _ (by omega)).mono ?_
    rintro e W3 ⟨v2, rfl, r2, hb3⟩
    go_wp2_with fail
    rw [unhide HC]
    refine (Lines_any C _ (by omega)).mono ?_
    rintro e W4 ⟨v3, rfl, r3, hb4⟩
    rw [unhide HP] at r3
    have y1 := hb1.size
    have y2 := hb2.size
    have y3 := hb3.size
    have y4 := hb4.size
    have r1' := ownsRow_below r1 (hb3.trans (hb4.mono y3))
    have r2' := ownsRow_below r2 hb4
    have bw4 : Below w.heap.size w W4 := hb1.trans ((hb2.mono y1).trans ((hb3.mono (by omega)).trans (hb4.mono (by omega))))
    clear r1 r2 hb1 hb2 hb3 hb4 HP
    generalize Tx.lines A.data.toList = LA at *
    generalize Tx.lines b.data.toList = LB at *
    obtain ⟨pa, ca, rfl⟩ := row_form r1'
    obtain ⟨pb, cb, rfl⟩ := row_form r2'
    have hlc : (LA ++ Tx.shift (Tx.phys A.data.toList).length LB).length = LA.length + LB.length := by simp [Tx.shift]
    generalize hLC : LA ++ Tx.shift (Tx.phys A.data.toList).length LB = LC at *
    have HLCE := hide hLC
    clear hLC
    obtain ⟨g3, c3, rfl, hc3, hc3m⟩ := row_some r3 (by omega)
    have hnq : ((LC.length : Int) != (LA.length : Int) + (LB.length : Int)) = false := by rw [hlc]; simp
    have hlc1 : LC.length ≤ 60001 := by omega
    have hlc2 : LA.length ≤ LC.length := by omega
    have HLC := hide hlc
    clear hlc
    have R1 := hide r1'
    have R2 := hide r2'
    have R3 := hide r3
    clear r1' r2' r3
    go_wp2_with fail
    rw [unhide HC]
    have hCm : C.size ≤ maxLen := by unfold maxLen; omega
    have hAm : A.size ≤ maxLen := by unfold maxLen; omega
    have hBm : b.size ≤ maxLen := by unfold maxLen; omega
    refine (Physical_any C _ hCm).mono ?_
    rintro e W5 ⟨rfl, hb5⟩
    go_wp2_with fail
    refine (Physical_any A _ hAm).mono ?_
    rintro e W6 ⟨rfl, hb6⟩
    go_wp2_with fail
    refine (Physical_any b _ hBm).mono ?_
    rintro e W7 ⟨rfl, hb7⟩
    have hcq : (((Tx.phys C.data.toList).length : Int) != ((Tx.phys A.data.toList).length : Int) + ((Tx.phys b.data.toList).length : Int)) = false := by rw [unhide HL]; simp
    generalize hnA : (Tx.phys A.data.toList).length = nA at *
    have HNA := hide hnA
    clear hnA
    go_wp2_with fail
    refine (Physical_any A _ hAm).mono ?_
    rintro e W8 ⟨rfl, hb8⟩
    rw [unhide HNA]
    have y5 := hb5.size
    have y6 := hb6.size
    have y7 := hb7.size
    have y8 := hb8.size
    have b48 : Below W4.heap.size W4 W8 := hb5.trans ((hb6.mono y5).trans ((hb7.mono (by omega)).trans (hb8.mono (by omega))))
    have bw8 : Below w.heap.size w W8 := bw4.trans (b48.mono (by omega))
    have r1 := ownsRow_below (unhide R1) b48
    have r2 := ownsRow_below (unhide R2) b48
    have r3 := ownsRow_below (unhide R3) b48
    have hg3 : g3 < W8.heap.size := (r3.lt g3 rfl).2
    clear R1 R2 R3 hb5 hb6 hb7 hb8
    go_wp2
    have HR2 := hide r2
    have HR3 := hide r3
    have HR1 := hide r1
    clear r1 r2 r3
    go_loopw [13] (fun i wr => ∃ k : Nat, i = .int .i64 k ∧ k ≤ LB.length ∧ Below W8.heap.size W8 wr) (fun i wr => LB.length - (intOf i).toNat)
    case atStart => exact ⟨0, rfl, Nat.zero_le _, Below.refl _ _⟩
    case round =>
      obtain ⟨k, rfl, hk, hbe⟩ := hrel
      have hzr := hbe.size
      by_cases hlt : k < LB.length
      · have hkc : LA.length + k < LC.length := by rw [unhide HLC]; omega
        have hR2 := Rd.of (ownsRow_below (unhide HR2) hbe)
        have hR3 := Rd.of (ownsRow_below (unhide HR3) hbe)
        obtain ⟨pb', cb', e2, hc2⟩ := hR2
        obtain ⟨rfl, -, rfl⟩ : pb = pb' ∧ LB.length = LB.length ∧ cb = cb' := by simpa using e2
        obtain ⟨g2, rfl, x1, x2⟩ := hc2 k hlt
        obtain ⟨p3, c3', e3, hc3'⟩ := hR3
        obtain ⟨rfl, -, rfl⟩ : some ⟨g3, 0, none⟩ = p3 ∧ LC.length = LC.length ∧ c3 = c3' := by simpa using e3
        obtain ⟨g3', hg3', z1, z2⟩ := hc3' (LA.length + k) hkc
        obtain rfl : g3 = g3' := by simpa using hg3'
        have hget : LC[LA.length + k] = (LB[k].1 + nA, LB[k].2) := by
          have := unhide HLCE
          subst this
          rw [List.getElem_append_right (by omega)]
          simp [Tx.shift]
        rw [hget] at z1 z2
        have hx1 : LB[k].1 ≤ 30000 := by
          have := unhide hnum LB[k] (List.getElem_mem hlt)
          simp at this
          omega
        generalize LB[k].1 = xn at *
        generalize LB[k].2 = xs at *
        have z1' : ∀ o, (wr.alloc o).cell? ⟨g3, (LA.length + k) * 2, none⟩ = some (.int .i64 ((xn + nA : Nat) : Int)) := fun o => (World.cell?_of_block (Below.heap_alloc wr o g3 (by omega))).trans z1
        have z2' : ∀ o, (wr.alloc o).cell? ⟨g3, (LA.length + k) * 2 + 1, none⟩ = some (.string ⟨xs.toArray⟩) := fun o => (World.cell?_of_block (Below.heap_alloc wr o g3 (by omega))).trans z2
        clear hc2 hc3' e2 e3 hg3' hget z1 z2
        have hnA : nA ≤ 30001 := by omega
        go_wp2
        obtain ⟨j, hj⟩ : ∃ j, j = LA.length + k := ⟨_, rfl⟩
        rw [← hj] at z1' z2' hkc
        have hw1 : IntKind.i64.wrap (j : Int) = (j : Int) := by rw [IntKind.wrap_i64]; omega
        have hw2 : (LA.length : Int) + (k : Int) = (j : Int) := by omega
        have HJ := hide hj
        clear hj
        refine wp_region_still_plain 8 (by kernel_rfl) (by kernel_rfl) ?_
        simp only [List.take_succ_cons, List.take_zero, List.drop_succ_cons, List.drop_zero]
        repeat still_step
        refine wpStill_nil ?_
        go_wp2
        refine ⟨⟨k + 1, by go_num, by omega, (hbe.alloc hzr _).drew⟩, by simp [intOf]; omega⟩
      · have q1 := ownsRow_below (unhide HR1) hbe
        have q3 := ownsRow_below (unhide HR3) hbe
        have hsub := unhide HLCE
        have s1 : Rd wr (.slice pa LA.length ca) LA := Rd.of q1
        have s3 : Rd wr (.slice (some ⟨g3, 0, none⟩) LA.length c3) LA := by
          have h3 : Rd wr (.slice (some ⟨g3, 0, none⟩) LC.length c3) LC := Rd.of q3
          subst hsub
          exact Rd.take h3
        have hm : LA.length ≤ maxLen := by unfold maxLen; omega
        have SS := hide (Same_any _ _ _ _ _ s3 s1 hm hm)
        have hcap : (LA.length : Int) ≤ (c3 : Int) := by omega
        clear q1 q3 hsub s1 s3
        go_wp2_with fail
        refine (unhide SS).mono ?_
        rintro e W9 ⟨rfl, m9, rfl⟩
        simp only [decide_true]
        go_wp2
        go_ret
        exact ⟨rfl, below_drewN (bw8.trans (hbe.mono (by have := bw8.size; omega))) _⟩

theorem last_at (a : ByteArray) (h0 : 0 < a.size) : a.data.toList.getLast? = some (a[a.size - 1]'(by omega)) := by
  rw [List.getLast?_eq_getElem?, List.getElem?_eq_getElem (by simp; omega)]; simp; rfl

set_option maxHeartbeats 1000000 in
theorem walk (a b : ByteArray) (w : World) (ha : a.size ≤ maxLen) (hb : b.size ≤ maxLen) :
    Calls Try.prog 8 #[.string a, .string b] w fun e w' => e = .returned (.bool true) ∧ Below w.heap.size w w' := by
  have ha' : a.size ≤ 2 ^ 63 - 1 := ha
  have hb' : b.size ≤ 2 ^ 63 - 1 := hb
  by_cases h1 : 30000 < a.size
  · have d1 : decide ((30000 : Int) < (a.size : Int)) = true := by simp; omega
    go_enter Try.func8, Try.ntmps8
    go_wp2_with fail
    refine (shown_any _).mono ?_
    rintro e W1 ⟨rfl, hb1⟩
    go_wp2
    go_ret
    exact ⟨rfl, hb1⟩
  have d1 : decide ((30000 : Int) < (a.size : Int)) = false := by simp; omega
  by_cases h2 : 30000 < b.size
  · have d2 : decide ((30000 : Int) < (b.size : Int)) = true := by simp; omega
    go_enter Try.func8, Try.ntmps8
    go_wp2_with fail
    refine (shown_any _).mono ?_
    rintro e W1 ⟨rfl, hb1⟩
    go_wp2
    go_ret
    exact ⟨rfl, hb1⟩
  have d2 : decide ((30000 : Int) < (b.size : Int)) = false := by simp; omega
  by_cases h92 : a.data.toList.getLast? = some 92
  · have h0 : 0 < a.size := by
      rcases Nat.eq_zero_or_pos a.size with h | h
      · have : a.data.toList = [] := List.length_eq_zero_iff.1 (by simpa using h)
        rw [this] at h92; simp at h92
      · exact h
    rw [last_at a h0] at h92
    have g1 : (((a[a.size - 1]).toNat : Int) == 92) = true := by rw [Option.some.inj h92]; rfl
    clear h92
    go_enter Try.func8, Try.ntmps8
    go_wp2_with fail
    refine (shown_any _).mono ?_
    rintro e W1 ⟨rfl, hb1⟩
    go_wp2
    go_ret
    exact ⟨rfl, hb1⟩
  by_cases h13 : a.data.toList.getLast? = some 13
  · have h0 : 0 < a.size := by
      rcases Nat.eq_zero_or_pos a.size with h | h
      · have : a.data.toList = [] := List.length_eq_zero_iff.1 (by simpa using h)
        rw [this] at h13; simp at h13
      · exact h
    rw [last_at a h0] at h13 h92
    have g1 : (((a[a.size - 1]).toNat : Int) == 92) = false := byte_neq (d := 92) (fun e => h92 (by rw [e]))
    have g2 : (((a[a.size - 1]).toNat : Int) == 13) = true := by rw [Option.some.inj h13]; rfl
    clear h92 h13
    go_enter Try.func8, Try.ntmps8
    go_wp2_with fail
    refine (shown_any _).mono ?_
    rintro e W1 ⟨rfl, hb1⟩
    go_wp2
    go_ret
    exact ⟨rfl, hb1⟩
  exact walk_main a b w (by omega) (by omega) h92 h13

theorem contract (H : Type) (enc : TypeId × Value → H) (W : World) (base : Nat) (args : Array Value) (ds gs : List (DataW H)) (before : List MemPlace)
    (hval : ∀ (j : Nat) t v, Try.f8.params[j]? = some t → args[j]? = some v → Value.okWide Try.prog W .any base t v)
    (hW : DataW.Whole enc Try.prog Try.f8.params.toList Rows.textPartsSpec.vars false W args.toList ds gs before) :
    Calls Try.prog 8 args W fun e W' => ∃ v, e = .returned v ∧ Rows.textPartsSpec.post enc Try.prog Try.f8 false true false false W args v W' := by
  have hW' := hW
  obtain ⟨p, q, hA0, hV, rfl, hfz, hnd⟩ := hW
  have hA : DataW.TrodAll enc Try.prog W 0 (fun _ => true) true Try.f8.params.toList args.toList ds p := hA0
  rw [Try.params8] at hA hval
  obtain ⟨v0, v1, d0, d1, p0, p1, hargs, rfl, rfl, h0, h1⟩ := trodAll_two hA
  obtain rfl : args = #[v0, v1] := by cases args; simp_all
  obtain ⟨rfl, rfl⟩ := trodVars_none hV
  obtain ⟨a, rfl, rfl, rfl, hma⟩ := open_string Try.underlying9 (hval 0 9 v0 rfl rfl) h0
  obtain ⟨b, rfl, rfl, rfl, hmb⟩ := open_string Try.underlying9 (hval 1 9 v1 rfl rfl) h1
  clear hA0
  simp only [List.append_nil] at hW'
  refine (walk a b W hma hmb).mono fun e W' ⟨he, hg⟩ => ?_
  subst he
  exact ⟨_, rfl, _, _, _, [], [], [], hW', trodAll_cons_mk (shut_bool Try.underlying4 _) trodAll_mk0, trodAll_mk2 (shut_string Try.underlying9 hma) (shut_string Try.underlying9 hmb), rfl, hg.frame _, fun h => by cases h⟩

set_option maxRecDepth 100000 in
theorem lifted (os : Os) (started : os.Started) (H : Type) (enc : TypeId × Value → H) :
    ReturnsInHanded {} Try.checked os 8 .any (Rows.textPartsSpec.pre6 enc Try.prog Try.f8 Rows.textPartsRow.domain false) (Rows.textPartsSpec.post enc Try.prog Try.f8 false true false false) := by
  refine returnsInHanded_of_change (C := Try.checked) own started (by kernel_rfl) Try.func8
    (ChangeSpec.witness6 (enc := enc) (C := Try.checked) false ⟨#[], #[.string ⟨#[]⟩, .string ⟨#[]⟩], []⟩ 8 (by kernel_rfl) (by kernel_rfl) (by kernel_rfl) (by kernel_rfl)) ?_
  intro W base args ds gs before hval hW _ _
  exact contract H enc W base args ds gs before hval hW

theorem proved : Rows.TextPartsSaid :=
  OpenClaim.holds_of_wide 8 Try.f8 rfl rfl rfl rfl rfl rfl rfl ⟨rfl, rfl, rfl, rfl, rfl⟩ rfl rfl rfl rfl rfl (by kernel_rfl) Try.func8 (by kernel_rfl)
    (of_decide_eq_true (by kernel_rfl)) (by unfold Func.isWrapper; first | (rw [if_pos (by decide +kernel)]; kernel_rfl) | (rw [if_neg (by decide +kernel)]; exact ⟨rfl, rfl⟩))
    (fun os started H enc _ => lifted os started H enc)
end Go.Proofs.Ytncccheaeghbiaa.textParts
namespace Go.Proofs.Ytncccheaeghbiaa
theorem textParts_holds : Rows.TextPartsSaid := textParts.proved
end Go.Proofs.Ytncccheaeghbiaa
