/-
  burinlaw05.CondSmall: the walk.
-/
import Derived.Test.YtfghfohlcofdpaaDoorGc
import Derived.Laws.BitsLemmas
namespace Go.Proofs.YtfghfohlcofdpaaDoor
open Go Go.RowKit
set_option linter.unusedVariables false
set_option linter.unusedSimpArgs false

theorem add_list (W : World) (a b : List UInt8) (h : a.length + b.length ≤ 9223372036854775807) : (Op.stringOp .add ⟨a.toArray⟩ ⟨b.toArray⟩).run Tryd.prog W = .ok (.string ⟨(a ++ b).toArray⟩) W := by
  have e : ∀ l : List UInt8, (⟨l.toArray⟩ : ByteArray).size = l.length := fun l => by show l.toArray.size = _; simp
  rw [run_string_add_sum W _ _ (by rw [e, e]; exact h), ba_app]
theorem and20 (n : Int) : bits .and .i64 n 1048575 = n % 1048576 := by
  have h20 : (BitVec.ofInt 64 1048575).toNat = 2 ^ 20 - 1 := by decide
  have key : (BitVec.ofInt 64 n &&& BitVec.ofInt 64 1048575).toNat = (n % ((2 ^ 64 : Nat) : Int)).toNat % 2 ^ 20 := by
    rw [BitVec.toNat_and, BitVec.toNat_ofInt, h20, Nat.and_two_pow_sub_one_eq_mod]
  show IntKind.i64.wrap ((BitVec.ofInt 64 n &&& BitVec.ofInt 64 1048575).toNat : Nat) = n % 1048576
  rw [key, IntKind.wrap_i64]
  omega
/-- A line's tokens, and what Eval tells of them. -/
def LexEval (w : World) (S : List UInt8) (R : Value) : Prop := ∀ W, Below w.heap.size w W → Calls Tryd.prog 13 #[.string ⟨S.toArray⟩] W fun e w' => ∃ p n cap, e = .returned (.slice p n cap) ∧ Below W.heap.size W w' ∧
  Hid (Calls Tryd.prog 15 #[.slice p n cap] w' fun e w'' => e = .returned R ∧ Below w'.heap.size w' w'')
theorem lexEval (w : World) (hg : Gl w) (S : List UInt8) (hS : S.length ≤ 140737488355328) (R : Value) (hR : evalV (evM (lx S)) = R) : LexEval w S R := fun W hb => by
  refine (lexedL_any S W hS (hg.next hb)).mono ?_
  rintro e w' ⟨p, cap, rfl, hT, hb'⟩
  exact ⟨p, _, cap, rfl, hb', by rw [← hR]; exact evalLex S hS hT ((hg.next hb).next hb')⟩
set_option maxRecDepth 100000 in
set_option maxHeartbeats 4000000 in
theorem small_walk (a0 b0 : Int) (w : World) (hg : Gl w) :
    Calls Tryd.prog 5 #[.int .i64 a0, .int .i64 b0] w fun e w' => e = .returned (.bool true) ∧ Below w.heap.size w w' := by
  obtain ⟨a, ha, hA⟩ : ∃ a : Nat, a < 1048576 ∧ bits .and .i64 a0 1048575 = (a : Int) := ⟨(a0 % 1048576).toNat, by omega, by rw [and20]; omega⟩
  obtain ⟨b, hb, hB⟩ : ∃ b : Nat, b < 1048576 ∧ bits .and .i64 b0 1048575 = (b : Int) := ⟨(b0 % 1048576).toNat, by omega, by rw [and20]; omega⟩
  have HSH := hide (shown_any w hg)
  have dA : Dn (dgF 8 a) a := dn_dgF 7 a (by omega) (by omega)
  have dB : Dn (dgF 8 b) b := dn_dgF 7 b (by omega) (by omega)
  have HDA := hide (fun W => digits_any a ha W)
  have HDB := hide (fun W => digits_any b hb W)
  have lX := dgF_len 8 a
  have lY := dgF_len 8 b
  generalize dgF 8 a = X at *
  generalize dgF 8 b = Y at *
  obtain ⟨S1, hS1⟩ : ∃ S1 : List UInt8, X ++ ([43] : List UInt8) = S1 := ⟨_, rfl⟩
  have lS1 : S1.length ≤ 9 := by rw [← hS1, List.length_append]; simp; omega
  have qS1 : ∀ W, (Op.stringOp .add ⟨X.toArray⟩ ⟨#[43]⟩).run Tryd.prog W = .ok (.string ⟨S1.toArray⟩) W := fun W => by rw [← hS1]; exact add_list W X ([43] : List UInt8) (by simp; omega)
  obtain ⟨S2, hS2⟩ : ∃ S2 : List UInt8, S1 ++ Y = S2 := ⟨_, rfl⟩
  have lS2 : S2.length ≤ 17 := by rw [← hS2, List.length_append]; omega
  have qS2 : ∀ W, (Op.stringOp .add ⟨S1.toArray⟩ ⟨Y.toArray⟩).run Tryd.prog W = .ok (.string ⟨S2.toArray⟩) W := fun W => by rw [← hS2]; exact add_list W S1 Y (by omega)
  obtain ⟨L1, hL1⟩ : ∃ L1 : List UInt8, X ++ ([60] : List UInt8) = L1 := ⟨_, rfl⟩
  have lL1 : L1.length ≤ 9 := by rw [← hL1, List.length_append]; simp; omega
  have qL1 : ∀ W, (Op.stringOp .add ⟨X.toArray⟩ ⟨#[60]⟩).run Tryd.prog W = .ok (.string ⟨L1.toArray⟩) W := fun W => by rw [← hL1]; exact add_list W X ([60] : List UInt8) (by simp; omega)
  obtain ⟨L2, hL2⟩ : ∃ L2 : List UInt8, L1 ++ Y = L2 := ⟨_, rfl⟩
  have lL2 : L2.length ≤ 17 := by rw [← hL2, List.length_append]; omega
  have qL2 : ∀ W, (Op.stringOp .add ⟨L1.toArray⟩ ⟨Y.toArray⟩).run Tryd.prog W = .ok (.string ⟨L2.toArray⟩) W := fun W => by rw [← hL2]; exact add_list W L1 Y (by omega)
  obtain ⟨P1, hP1⟩ : ∃ P1 : List UInt8, X ++ ([42] : List UInt8) = P1 := ⟨_, rfl⟩
  have lP1 : P1.length ≤ 9 := by rw [← hP1, List.length_append]; simp; omega
  have qP1 : ∀ W, (Op.stringOp .add ⟨X.toArray⟩ ⟨#[42]⟩).run Tryd.prog W = .ok (.string ⟨P1.toArray⟩) W := fun W => by rw [← hP1]; exact add_list W X ([42] : List UInt8) (by simp; omega)
  obtain ⟨P2, hP2⟩ : ∃ P2 : List UInt8, P1 ++ Y = P2 := ⟨_, rfl⟩
  have lP2 : P2.length ≤ 17 := by rw [← hP2, List.length_append]; omega
  have qP2 : ∀ W, (Op.stringOp .add ⟨P1.toArray⟩ ⟨Y.toArray⟩).run Tryd.prog W = .ok (.string ⟨P2.toArray⟩) W := fun W => by rw [← hP2]; exact add_list W P1 Y (by omega)
  obtain ⟨P3, hP3⟩ : ∃ P3 : List UInt8, P2 ++ ([45] : List UInt8) = P3 := ⟨_, rfl⟩
  have lP3 : P3.length ≤ 18 := by rw [← hP3, List.length_append]; simp; omega
  have qP3 : ∀ W, (Op.stringOp .add ⟨P2.toArray⟩ ⟨#[45]⟩).run Tryd.prog W = .ok (.string ⟨P3.toArray⟩) W := fun W => by rw [← hP3]; exact add_list W P2 ([45] : List UInt8) (by simp; omega)
  obtain ⟨P4, hP4⟩ : ∃ P4 : List UInt8, P3 ++ Y = P4 := ⟨_, rfl⟩
  have lP4 : P4.length ≤ 26 := by rw [← hP4, List.length_append]; omega
  have qP4 : ∀ W, (Op.stringOp .add ⟨P3.toArray⟩ ⟨Y.toArray⟩).run Tryd.prog W = .ok (.string ⟨P4.toArray⟩) W := fun W => by rw [← hP4]; exact add_list W P3 Y (by omega)
  obtain ⟨P5, hP5⟩ : ∃ P5 : List UInt8, P4 ++ ([42] : List UInt8) = P5 := ⟨_, rfl⟩
  have lP5 : P5.length ≤ 27 := by rw [← hP5, List.length_append]; simp; omega
  have qP5 : ∀ W, (Op.stringOp .add ⟨P4.toArray⟩ ⟨#[42]⟩).run Tryd.prog W = .ok (.string ⟨P5.toArray⟩) W := fun W => by rw [← hP5]; exact add_list W P4 ([42] : List UInt8) (by simp; omega)
  obtain ⟨P6, hP6⟩ : ∃ P6 : List UInt8, P5 ++ X = P6 := ⟨_, rfl⟩
  have lP6 : P6.length ≤ 35 := by rw [← hP6, List.length_append]; omega
  have qP6 : ∀ W, (Op.stringOp .add ⟨P5.toArray⟩ ⟨X.toArray⟩).run Tryd.prog W = .ok (.string ⟨P6.toArray⟩) W := fun W => by rw [← hP6]; exact add_list W P5 X (by omega)
  obtain ⟨P7, hP7⟩ : ∃ P7 : List UInt8, P6 ++ ([43, 32] : List UInt8) = P7 := ⟨_, rfl⟩
  have lP7 : P7.length ≤ 37 := by rw [← hP7, List.length_append]; simp; omega
  have qP7 : ∀ W, (Op.stringOp .add ⟨P6.toArray⟩ ⟨#[43, 32]⟩).run Tryd.prog W = .ok (.string ⟨P7.toArray⟩) W := fun W => by rw [← hP7]; exact add_list W P6 ([43, 32] : List UInt8) (by simp; omega)
  obtain ⟨P8, hP8⟩ : ∃ P8 : List UInt8, P7 ++ Y = P8 := ⟨_, rfl⟩
  have lP8 : P8.length ≤ 45 := by rw [← hP8, List.length_append]; omega
  have qP8 : ∀ W, (Op.stringOp .add ⟨P7.toArray⟩ ⟨Y.toArray⟩).run Tryd.prog W = .ok (.string ⟨P8.toArray⟩) W := fun W => by rw [← hP8]; exact add_list W P7 Y (by omega)
  obtain ⟨P9, hP9⟩ : ∃ P9 : List UInt8, P8 ++ ([37, 40] : List UInt8) = P9 := ⟨_, rfl⟩
  have lP9 : P9.length ≤ 47 := by rw [← hP9, List.length_append]; simp; omega
  have qP9 : ∀ W, (Op.stringOp .add ⟨P8.toArray⟩ ⟨#[37, 40]⟩).run Tryd.prog W = .ok (.string ⟨P9.toArray⟩) W := fun W => by rw [← hP9]; exact add_list W P8 ([37, 40] : List UInt8) (by simp; omega)
  obtain ⟨Pa, hPa⟩ : ∃ Pa : List UInt8, P9 ++ X = Pa := ⟨_, rfl⟩
  have lPa : Pa.length ≤ 55 := by rw [← hPa, List.length_append]; omega
  have qPa : ∀ W, (Op.stringOp .add ⟨P9.toArray⟩ ⟨X.toArray⟩).run Tryd.prog W = .ok (.string ⟨Pa.toArray⟩) W := fun W => by rw [← hPa]; exact add_list W P9 X (by omega)
  obtain ⟨Pb, hPb⟩ : ∃ Pb : List UInt8, Pa ++ ([43, 49, 41] : List UInt8) = Pb := ⟨_, rfl⟩
  have lPb : Pb.length ≤ 58 := by rw [← hPb, List.length_append]; simp; omega
  have qPb : ∀ W, (Op.stringOp .add ⟨Pa.toArray⟩ ⟨#[43, 49, 41]⟩).run Tryd.prog W = .ok (.string ⟨Pb.toArray⟩) W := fun W => by rw [← hPb]; exact add_list W Pa ([43, 49, 41] : List UInt8) (by simp; omega)
  have e1 : evalV (evM (lx S2)) = .tuple #[.int .u64 ((a : Int) + (b : Int)), .bool false, .int .i64 0] := by
    have : S2 = X ++ 43 :: Y := by rw [← hS2, ← hS1]; simp
    rw [this, sum_is dA dB ha hb]; simp [evalV]
  have e2 : evalV (evM (lx L2)) = .tuple #[.int .u64 (if a < b then 1 else 0), .bool false, .int .i64 0] := by
    have : L2 = X ++ 60 :: Y := by rw [← hL2, ← hL1]; simp
    rw [this, less_is dA dB ha hb]; simp [evalV]
  have e3 : evalV (evM (lx Pb)) = .tuple #[.int .u64 ((b : Int) % ((a : Int) + 1)), .bool false, .int .i64 0] := by
    have : Pb = prodT X Y := by rw [← hPb, ← hPa, ← hP9, ← hP8, ← hP7, ← hP6, ← hP5, ← hP4, ← hP3, ← hP2, ← hP1, prodT]; simp
    rw [this, prod_is dA dB ha hb]; simp [evalV]
  obtain ⟨lv, hlv⟩ : ∃ lv : Int, (if a < b then (1 : Int) else 0) = lv := ⟨_, rfl⟩
  rw [hlv] at e2
  have HLV := hide hlv
  clear hlv
  have HE1 := hide (lexEval w hg S2 (by omega) _ e1)
  have HE2 := hide (lexEval w hg L2 (by omega) _ e2)
  have HE3 := hide (lexEval w hg Pb (by omega) _ e3)
  clear e1 e2 e3 dA dB hg lX lY
  clear lS1 lS2 lL1 lL2 lP1 lP2 lP3 lP4 lP5 lP6 lP7 lP8 lP9 lPa lPb
  clear hS1 hS2 hL1 hL2 hP1 hP2 hP3 hP4 hP5 hP6 hP7 hP8 hP9 hPa hPb
  go_enter Tryd.func5, Tryd.ntmps5
  go_wp2_with fail
  refine (unhide HSH).mono ?_
  rintro e W1 ⟨rfl, hb1⟩
  have HB1 := hide hb1
  clear hb1 HSH
  go_wp2_with fail
  refine (unhide HDA _).mono ?_
  rintro e W2 ⟨rfl, hb2⟩
  have HB2 := hide ((unhide HB1).trans (hb2.mono (unhide HB1).size))
  clear hb2 HB1 HDA
  go_wp2_with fail
  refine (unhide HDB _).mono ?_
  rintro e W3 ⟨rfl, hb3⟩
  have HB3 := hide ((unhide HB2).trans (hb3.mono (unhide HB2).size))
  clear hb3 HB2 HDB
  go_wp2_with fail
  refine (unhide HE1 _ (unhide HB3)).mono ?_
  rintro e W4 ⟨p4, n4, c4, rfl, hb4, H4⟩
  have HB4 := hide ((unhide HB3).trans (hb4.mono (unhide HB3).size))
  clear hb4 HB3 HE1
  go_wp2_with fail
  refine (unhide H4).mono ?_
  rintro e W5 ⟨rfl, hb5⟩
  have HB5 := hide ((unhide HB4).trans (hb5.mono (unhide HB4).size))
  clear hb5 HB4 H4
  go_wp2_with fail
  refine (unhide HE2 _ (unhide HB5)).mono ?_
  rintro e W6 ⟨p6, n6, c6, rfl, hb6, H6⟩
  have HB6 := hide ((unhide HB5).trans (hb6.mono (unhide HB5).size))
  clear hb6 HB5 HE2
  go_wp2_with fail
  refine (unhide H6).mono ?_
  rintro e W7 ⟨rfl, hb7⟩
  have HB7 := hide ((unhide HB6).trans (hb7.mono (unhide HB6).size))
  clear hb7 HB6 H6
  go_wp2_with fail
  refine (unhide HE3 _ (unhide HB7)).mono ?_
  rintro e W8 ⟨p8, n8, c8, rfl, hb8, H8⟩
  have HB8 := hide ((unhide HB7).trans (hb8.mono (unhide HB7).size))
  clear hb8 HB7 HE3
  go_wp2_with fail
  refine (unhide H8).mono ?_
  rintro e W9 ⟨rfl, hb9⟩
  have HB9 := hide ((unhide HB8).trans (hb9.mono (unhide HB8).size))
  clear hb9 HB8 H8
  have hlv := unhide HLV
  clear HLV
  by_cases hab : a < b
  · rw [if_pos hab] at hlv
    subst hlv
    have hab' : (a : Int) < (b : Int) := by omega
    go_wp2
    go_ret
    refine ⟨?_, unhide HB9⟩
    show Ending.returned (.bool ((b : Int) % ((a : Int) + 1) == IntKind.u64.wrap ((b : Int) % ((a : Int) + 1)))) = _
    have h0 : 0 ≤ (b : Int) % ((a : Int) + 1) := Int.emod_nonneg _ (by omega)
    have h1 : (b : Int) % ((a : Int) + 1) < (a : Int) + 1 := Int.emod_lt_of_pos _ (by omega)
    rw [show IntKind.u64.wrap ((b : Int) % ((a : Int) + 1)) = (b : Int) % ((a : Int) + 1) by rw [IntKind.wrap_u64]; omega, beq_self_eq_true]
  · rw [if_neg hab] at hlv
    subst hlv
    have hab' : ¬ (a : Int) < (b : Int) := by omega
    go_wp2
    go_ret
    refine ⟨?_, unhide HB9⟩
    show Ending.returned (.bool ((b : Int) % ((a : Int) + 1) == IntKind.u64.wrap ((b : Int) % ((a : Int) + 1)))) = _
    have h0 : 0 ≤ (b : Int) % ((a : Int) + 1) := Int.emod_nonneg _ (by omega)
    have h1 : (b : Int) % ((a : Int) + 1) < (a : Int) + 1 := Int.emod_lt_of_pos _ (by omega)
    rw [show IntKind.u64.wrap ((b : Int) % ((a : Int) + 1)) = (b : Int) % ((a : Int) + 1) by rw [IntKind.wrap_u64]; omega, beq_self_eq_true]
end Go.Proofs.YtfghfohlcofdpaaDoor
