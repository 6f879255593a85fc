/-
  Package lex: quoted, spelling.
-/
import Derived.Test.YtnpjgamfjfmjjaaGreatDoorXm
namespace Go.Proofs.YtnpjgamfjfmjjaaGreatDoor
open Go Go.RowKit
set_option linter.unusedVariables false
set_option linter.unusedSimpArgs false

def octs (s : List UInt8) : List UInt8 := s.flatMap octE
theorem octs_snoc (s : List UInt8) (c : UInt8) : octs (s ++ [c]) = octs s ++ octE c := by simp [octs]
theorem octs_len (s : List UInt8) : (octs s).length = 4 * s.length := by
  induction s with
  | nil => rfl
  | cons c r ih => simp [octs, octE] at ih ⊢; omega
/-- How a text is shown. -/
def quoM (s : List UInt8) : List UInt8 := 34 :: (octs s ++ [34])
set_option maxRecDepth 100000 in
set_option maxHeartbeats 4000000 in
theorem quoted_any (s : List UInt8) (hs : s.length ≤ 1000000000000) (w : World) : Calls Tryz.prog 44 #[.string ⟨s.toArray⟩] w fun e w' => e = .returned (.string ⟨(quoM s).toArray⟩) ∧ Below w.heap.size w w' := by
  obtain ⟨B, hB⟩ : ∃ B : ByteArray, (⟨s.toArray⟩ : ByteArray) = B := ⟨_, rfl⟩
  have hsz : B.size = s.length := by rw [← hB, len_toArray]
  have hat : ∀ (k : Nat) (h : k < B.size), B[k] = s[k]'(by omega) := fun k h => by subst hB; rfl
  have HAT := hide hat
  have HL : Hid (∀ k, k ≤ s.length → (octs (s.take k)).length ≤ 4000000000000) := fun k hk => by rw [octs_len, List.length_take]; omega
  rw [hB]
  clear hat hB
  have hBu := isB_fresh w
  have hbe := below_new w (.cells #[.pointer none, .slice none 0 0] 59)
  go_enter Tryz.func44, Tryz.ntmps44
  go_upto_region 2 with fail
  generalize (w.alloc _ : World) = W0 at *
  have hlt0 := isB_lt hBu
  have HW1 := hide (Tryz.Builder_WriteByte_k w.heap.size w.heap.size _ 34 W0 hBu (by simp [Lib.byteCells]) (by omega))
  have HB0 := hide hbe
  clear hBu hbe
  go_upto_region 3 with (go_at_call 27; refine (unhide HW1).mono ?_; rintro e W1 ⟨rfl, hB1, hb1, _⟩)
  have HBU : Hid (Lib.IsBuilderF 59 5 w.heap.size w.heap.size (Lib.byteCells (34 :: octs (s.take 0))) W1) := .inr hB1
  have HBE := hide ((unhide HB0).trans (hb1.mono (Nat.le_refl _)))
  clear hB1 hb1 HW1 HB0
  go_wp2
  go_loopg [8] s.length (fun gk i wr => ∃ k : Nat, gk = s.length - k ∧ i = .int .i64 (k : Int) ∧ k ≤ s.length ∧ Hid (Lib.IsBuilderF 59 5 w.heap.size w.heap.size (Lib.byteCells (34 :: octs (s.take k))) wr) ∧ Hid (Below w.heap.size w wr))
  case atStart => exact ⟨0, rfl, rfl, Nat.zero_le _, HBU, HBE⟩
  case round =>
    clear HBU HBE
    obtain ⟨k, rfl, rfl, hk, HBU, HBE⟩ := hrel
    have hzr := (unhide HBE).size
    have hbl := isB_lt (unhide HBU)
    have hle := unhide HL k hk
    by_cases hltk : k < s.length
    · have i1 : (k : Int) < (B.size : Int) := by omega
      have i2 : k < B.size := by omega
      have hbk := unhide HAT k i2
      have hE := escape_any (s[k]) wr
      rw [← hbk] at hE
      have HE := hide hE
      have HNX : Hid (octs (s.take (k + 1)) = octs (s.take k) ++ octE (B[k])) := by rw [Hid, List.take_succ_eq_append_getElem hltk, octs_snoc, hbk]
      have HWS : Hid (∀ W, Below wr.heap.size wr W → Calls Tryz.prog 28 #[.pointer (some ⟨w.heap.size, 0, none⟩), .string ⟨(octE (B[k])).toArray⟩] W fun e w' => (∃ z, e = .returned z) ∧ Lib.IsBuilderF 59 5 w.heap.size w.heap.size (Lib.byteCells (34 :: octs (s.take (k + 1)))) w' ∧ Below w.heap.size W w') := fun W hW => by
        have hB2 := isB_below (unhide HBU) hW
        have hlen : (⟨(octE (B[k])).toArray⟩ : ByteArray).size = 4 := by rw [len_toArray]; rfl
        refine (Tryz.Builder_WriteString_k w.heap.size w.heap.size _ ⟨(octE (B[k])).toArray⟩ W hB2 (by rw [Lib.byteCells_length, hlen]; simp; omega) (Nat.le_trans hzr hW.size)).mono ?_
        rintro e w' ⟨rfl, hb, hbb, _⟩
        refine ⟨⟨_, rfl⟩, ?_, hbb⟩
        rw [strC] at hb
        rw [unhide HNX, ← List.cons_append, byteC_app]
        exact .inr hb
      clear hbk hE HNX
      generalize octE (B[k]) = O at *
      go_wp2_with (first
        | (go_at_call 58; refine (unhide HE).mono ?_; rintro e W1 ⟨rfl, hb1⟩)
        | (go_at_call 28; refine (unhide HWS _ hb1).mono ?_; rintro e W2 ⟨⟨z, rfl⟩, hB2, hb2⟩))
      go_roundg (s.length - (k + 1))
      case measure => omega
      case rel => exact ⟨k + 1, rfl, by go_num, by omega, hB2, ((unhide HBE).trans (hb1.mono hzr)).trans hb2⟩
    · have i1 : ¬ (k : Int) < (B.size : Int) := by omega
      have hkl : k = s.length := by omega
      have HW2 := hide (Tryz.Builder_WriteByte_k w.heap.size w.heap.size _ 34 wr (unhide HBU) (by rw [Lib.byteCells_length]; simp; omega) hzr)
      have HKL := hide hkl
      clear hkl
      go_upto_region 9 with (go_at_call 27; refine (unhide HW2).mono ?_; rintro e W2 ⟨rfl, hB2, hb2, _⟩)
      have hB3 : Lib.IsBuilderF 59 5 w.heap.size w.heap.size (Lib.byteCells (34 :: octs (s.take k) ++ [34])) W2 := by rw [byteC_app]; exact .inr hB2
      have HST := hide (Tryz.Builder_String_any_k w.heap.size w.heap.size _ W2 hB3 (Nat.le_trans hzr hb2.size))
      have HB2 := hide ((unhide HBE).trans hb2)
      clear hB2 hb2 hB3
      go_wp2_with (go_at_call 30; refine (unhide HST).mono ?_; rintro e W3 ⟨rfl, _, hb3, _⟩)
      go_ret
      refine ⟨?_, (unhide HB2).trans hb3⟩
      rw [unhide HKL, List.take_of_length_le (Nat.le_refl _)]
      rfl
/-- How a word is shown. -/
def splM (x : Wd) : List UInt8 := if x.kind == 3 then spiM x.v x.t else if x.kind == 4 then quoM x.s else x.s
set_option maxRecDepth 100000 in
set_option maxHeartbeats 4000000 in
theorem spelling_any (x : Wd) (hs : x.kind = 4 → x.s.length ≤ 1000000000000) (w : World) (hw : 6 < w.heap.size) (htab : Tp w) : Calls Tryz.prog 29 #[wdV x] w fun e w' => e = .returned (.string ⟨(splM x).toArray⟩) ∧ Below w.heap.size w w' := by
  obtain ⟨k, s, v, t, f, line⟩ := x
  have hb0 := below_new w (.cells (wdC ⟨k, s, v, t, f, line⟩).toArray 34)
  have HI := hide (spellInt_any v t _ (Nat.lt_of_lt_of_le hw hb0.size) (htab.below hb0 hw))
  have HQ := hide (fun h : k = 4 => quoted_any s (hs h) (w.alloc (.cells (wdC ⟨k, s, v, t, f, line⟩).toArray 34)))
  have HB := hide hb0
  obtain ⟨R, hR⟩ : ∃ R, splM ⟨k, s, v, t, f, line⟩ = R := ⟨_, rfl⟩
  rw [hR]
  unfold splM at hR
  simp only at hR
  clear hs hw htab hb0
  simp only [wdV, wdC] at *
  cases k3 : k == 3
  · cases k4 : k == 4
    · simp only [k3, k4, Bool.false_eq_true, if_false] at hR
      subst hR
      go_enter Tryz.func29, Tryz.ntmps29
      go_wp2
      go_ret
      exact ⟨rfl, unhide HB⟩
    · simp only [k3, k4, Bool.false_eq_true, if_false, if_true] at hR
      have HQ2 := hide (unhide HQ (by simpa using k4))
      go_enter Tryz.func29, Tryz.ntmps29
      go_wp2_with (go_at_call 44; refine (unhide HQ2).mono ?_; rintro e W1 ⟨rfl, hb1⟩)
      go_ret
      exact ⟨by rw [← hR]; rfl, (unhide HB).trans (hb1.mono (unhide HB).size)⟩
  · simp only [k3, if_true] at hR
    go_enter Tryz.func29, Tryz.ntmps29
    go_wp2_with (go_at_call 43; refine (unhide HI).mono ?_; rintro e W1 ⟨rfl, hb1⟩)
    go_ret
    exact ⟨by rw [← hR]; rfl, (unhide HB).trans (hb1.mono (unhide HB).size)⟩
end Go.Proofs.YtnpjgamfjfmjjaaGreatDoor
