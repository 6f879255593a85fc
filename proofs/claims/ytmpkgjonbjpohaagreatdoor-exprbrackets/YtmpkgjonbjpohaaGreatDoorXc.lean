/-
  Package lex: digits, escapeSize, firstByte.
-/
import Derived.Test.YtmpkgjonbjpohaaGreatDoorXa
import Derived.Test.YtmpkgjonbjpohaaGreatDoorDa
import Derived.Test.YtmpkgjonbjpohaaGreatDoorSh
namespace Go.Proofs.YtmpkgjonbjpohaaGreatDoor
open Go Go.RowKit
set_option linter.unusedVariables false
set_option linter.unusedSimpArgs false

def hexL : List UInt8 := [48, 49, 50, 51, 52, 53, 54, 55, 56, 57, 97, 98, 99, 100, 101, 102, 65, 66, 67, 68, 69, 70]
def octL : List UInt8 := [48, 49, 50, 51, 52, 53, 54, 55]
theorem hexL_is (c : UInt8) : decide (0 ≤ Lib.indexByte hexL c) = digM (c.toNat : Int) 16 := by
  have h : ∀ n : Fin 256, decide (0 ≤ Lib.indexByte hexL (UInt8.ofNat n.1)) = digM ((UInt8.ofNat n.1).toNat : Int) 16 := by decide +kernel
  have := h ⟨c.toNat, c.toNat_lt⟩
  simpa only [UInt8.ofNat_toNat] using this
theorem octL_is (c : UInt8) : decide (0 ≤ Lib.indexByte octL c) = digM (c.toNat : Int) 8 := by
  have h : ∀ n : Fin 256, decide (0 ≤ Lib.indexByte octL (UInt8.ofNat n.1)) = digM ((UInt8.ofNat n.1).toNat : Int) 8 := by decide +kernel
  have := h ⟨c.toNat, c.toNat_lt⟩
  simpa only [UInt8.ofNat_toNat] using this
theorem digN_drop (b : Int) : ∀ (l : List UInt8) (k : Nat) (h : k < l.length), digN b (l.drop k) = if digM (l[k].toNat : Int) b then digN b (l.drop (k + 1)) + 1 else 0 := by
  intro l k h
  rw [List.drop_eq_getElem_cons h, digN]
set_option maxRecDepth 100000 in
set_option maxHeartbeats 4000000 in
theorem digits_of (b : Int) (L : List UInt8) (hL : ∀ c : UInt8, decide (0 ≤ Lib.indexByte L c) = digM (c.toNat : Int) b) (s : List UInt8) (hs : s.length ≤ 140737488355328) (w : World) :
    Calls Tryz.prog 187 #[.string ⟨s.toArray⟩, .string ⟨L.toArray⟩] w fun e w' => e = .returned (.int .i64 (digN b s : Nat)) ∧ w' = w := by
  obtain ⟨B, hB⟩ : ∃ B : ByteArray, (⟨s.toArray⟩ : ByteArray) = B := ⟨_, rfl⟩
  have hsz : B.size = s.length := by rw [← hB, len_toArray]
  have hat : ∀ (k : Nat) (h : k < B.size), B[k] = s[k]'(by omega) := fun k h => by subst hB; rfl
  have HIX : Hid (∀ (c : UInt8) (W : World), Calls Tryz.prog 197 #[.string ⟨L.toArray⟩, .int .u8 (c.toNat : Int)] W fun e w' => e = .returned (.int .i64 (Lib.indexByte L c)) ∧ w' = W) := fun c W => by
    have := Tryz.strings_IndexByte ⟨L.toArray⟩ (c.toNat : Int) W
    simpa using this
  have HL := hide hL
  have H0 : Hid (digN b s = 0 + digN b (s.drop 0)) := by rw [Hid]; simp
  rw [hB]
  have HAT := hide hat
  have HD := hide (digN_drop b s)
  have HE : Hid (∀ k, s.length ≤ k → digN b (s.drop k) = 0) := fun k hk => by rw [List.drop_eq_nil_of_le hk]; rfl
  generalize digN b s = D at *
  clear hL hat hB
  go_enter Tryz.func187, Tryz.ntmps187
  go_wp2
  go_loopg [5] s.length (fun gk i wr => ∃ k : Nat, gk = s.length - k ∧ i = .int .i64 (k : Int) ∧ k ≤ s.length ∧ wr = w ∧ Hid (D = k + digN b (s.drop k)))
  case atStart => exact ⟨0, rfl, rfl, Nat.zero_le _, rfl, unhide H0⟩
  case round =>
    obtain ⟨k, rfl, rfl, hk, rfl, hD⟩ := hrel
    clear H0
    by_cases hlt : k < s.length
    · have i1 : (k : Int) < (B.size : Int) := by omega
      have i2 : k < B.size := by omega
      have hbk := unhide HAT k i2
      have hdk := unhide HD k hlt
      have hix := unhide HIX (B[k])
      have hq := unhide HL (B[k])
      rw [← hbk] at hdk
      have HDK := hide hdk
      have HIK := hide hix
      clear hdk hix hbk
      cases hm : digM (B[k].toNat : Int) b
      · rw [hm] at hq
        have hq' : ¬ 0 ≤ Lib.indexByte L B[k] := of_decide_eq_false hq
        generalize Lib.indexByte L B[k] = Z at *
        have HM := hide hm
        clear hq hm
        go_wp2_with (go_at_call 197; refine (unhide HIK _).mono ?_; rintro e w' ⟨rfl, hw'⟩; obtain rfl := hw'.symm)
        go_ret
        refine ⟨?_, rfl⟩
        have e1 := unhide hD
        rw [unhide HDK, unhide HM] at e1
        simp at e1
        rw [e1]; rfl
      · rw [hm] at hq
        have hq' : 0 ≤ Lib.indexByte L B[k] := of_decide_eq_true hq
        generalize Lib.indexByte L B[k] = Z at *
        have HM := hide hm
        clear hq hm
        go_wp2_with (go_at_call 197; refine (unhide HIK _).mono ?_; rintro e w' ⟨rfl, hw'⟩; obtain rfl := hw'.symm)
        go_roundg (s.length - (k + 1))
        case measure => omega
        case rel =>
          refine ⟨k + 1, rfl, by go_num, by omega, rfl, ?_⟩
          have e1 := unhide hD
          rw [unhide HDK, unhide HM] at e1
          rw [Hid, e1]
          simp
          omega
    · have i1 : ¬ (k : Int) < (B.size : Int) := by omega
      go_wp2
      go_ret
      refine ⟨?_, rfl⟩
      have e1 := unhide hD
      rw [unhide HE k (by omega)] at e1
      rw [e1]; rfl
/-- How many bytes an escape has, with the backslash. -/
def escN : List UInt8 → Nat
  | _ :: c :: r => if c == 120 then 2 + digN 16 r else 1 + max 1 (digN 8 ((c :: r).take 3))
  | _ => 0
set_option maxRecDepth 100000 in
set_option maxHeartbeats 4000000 in
theorem esz_hex (B : ByteArray) (h2 : 2 ≤ B.size) (hm : B.size ≤ 140737488355328) (w : World) (hx : ((B[1].toNat : Int) == 120) = true) (D : Nat) (hD : D ≤ 140737488355328)
    (H : Calls Tryz.prog 187 #[.string (B.extract 2 B.size), .string ⟨#[48, 49, 50, 51, 52, 53, 54, 55, 56, 57, 97, 98, 99, 100, 101, 102, 65, 66, 67, 68, 69, 70]⟩] w fun e w' => e = .returned (.int .i64 (D : Nat)) ∧ w' = w) :
    Calls Tryz.prog 174 #[.string B] w fun e w' => e = .returned (.int .i64 ((2 + D : Nat) : Int)) ∧ w' = w := by
  have HH := hide H
  have i1 : (1 : Int) < (B.size : Int) := by omega
  have i2 : (2 : Int) ≤ (B.size : Int) := by omega
  have i3 : 1 < B.size := by omega
  clear H
  go_enter Tryz.func174, Tryz.ntmps174
  go_wp2_with (go_at_call 187; refine (unhide HH).mono ?_; rintro e w' ⟨rfl, hw'⟩; obtain rfl := hw'.symm)
  go_ret
  exact ⟨by simp, rfl⟩
set_option maxRecDepth 100000 in
set_option maxHeartbeats 4000000 in
theorem esz_oct (B : ByteArray) (h2 : 2 ≤ B.size) (hm : B.size ≤ 140737488355328) (w : World) (hx : ((B[1].toNat : Int) == 120) = false) (D : Nat) (hD : D ≤ 3)
    (H : Calls Tryz.prog 187 #[.string (B.extract 1 (min B.size 4)), .string ⟨#[48, 49, 50, 51, 52, 53, 54, 55]⟩] w fun e w' => e = .returned (.int .i64 (D : Nat)) ∧ w' = w) :
    Calls Tryz.prog 174 #[.string B] w fun e w' => e = .returned (.int .i64 ((1 + max 1 D : Nat) : Int)) ∧ w' = w := by
  have i1 : (1 : Int) < (B.size : Int) := by omega
  have i3 : 1 < B.size := by omega
  have hDc : D = 0 ∨ D = 1 ∨ D = 2 ∨ D = 3 := by omega
  by_cases h4 : B.size ≤ 4
  · rw [Nat.min_eq_left h4] at H
    have i4 : min (B.size : Int) 4 = (B.size : Int) := by omega
    have hsl : (Instr.slice 9 (.string B) (some (.int .i64 1)) (some (.int .i64 (B.size : Int))) none).run Tryz.prog w = .ok (.string (B.extract 1 B.size)) w := by
      have := run_slice_string (P := Tryz.prog) (w := w) 9 B .i64 .i64 1 (B.size : Int) Tryz.underlying9 (by omega) (by omega) (by omega)
      simpa using this
    have HH := hide H
    clear H
    rcases hDc with rfl | rfl | rfl | rfl
    all_goals (
      go_enter Tryz.func174, Tryz.ntmps174
      go_wp2_with (go_at_call 187; refine (unhide HH).mono ?_; rintro e w' ⟨rfl, hw'⟩; obtain rfl := hw'.symm)
      go_ret
      exact ⟨rfl, rfl⟩)
  · rw [Nat.min_eq_right (by omega)] at H
    have i4 : min (B.size : Int) 4 = 4 := by omega
    have i5 : (4 : Int) ≤ (B.size : Int) := by omega
    have HH := hide H
    clear H
    rcases hDc with rfl | rfl | rfl | rfl
    all_goals (
      go_enter Tryz.func174, Tryz.ntmps174
      go_wp2_with (go_at_call 187; refine (unhide HH).mono ?_; rintro e w' ⟨rfl, hw'⟩; obtain rfl := hw'.symm)
      go_ret
      exact ⟨rfl, rfl⟩)
theorem escapeSize_any (s : List UInt8) (hs : s.length ≤ 140737488355328) (h2 : 2 ≤ s.length) (w : World) :
    Calls Tryz.prog 174 #[.string ⟨s.toArray⟩] w fun e w' => e = .returned (.int .i64 (escN s : Nat)) ∧ w' = w := by
  match s, h2 with
  | a :: c :: r, h2 =>
    have hc : ((⟨(a :: c :: r).toArray⟩ : ByteArray)[1]'(by rw [len_toArray]; exact h2)) = c := rfl
    have hx2 : (⟨(a :: c :: r).toArray⟩ : ByteArray).extract 2 (⟨(a :: c :: r).toArray⟩ : ByteArray).size = ⟨r.toArray⟩ := by rw [ext_list, len_toArray]; simp
    have hx4 : (⟨(a :: c :: r).toArray⟩ : ByteArray).extract 1 (min (⟨(a :: c :: r).toArray⟩ : ByteArray).size 4) = ⟨((c :: r).take 3).toArray⟩ := by
      rw [ext_list, len_toArray]
      congr 2
      rcases Nat.le_total (a :: c :: r).length 4 with h | h
      · rw [Nat.min_eq_left h, List.take_of_length_le (Nat.le_refl _), List.take_of_length_le (by simp at h ⊢; omega)]; rfl
      · rw [Nat.min_eq_right h]; rfl
    have H16 := digits_of 16 hexL hexL_is r (by simp at hs; omega) w
    have H8 := digits_of 8 octL octL_is ((c :: r).take 3) (by simp at hs ⊢; omega) w
    rw [← hx2] at H16
    rw [← hx4] at H8
    have hd3 := digN_le 8 ((c :: r).take 3)
    have hdr := digN_le 16 r
    have e1 := byte_eq c 120
    have hsz := len_toArray (a :: c :: r)
    rw [escN]
    cases hq : c == 120
    · simp only [Bool.false_eq_true, if_false]
      refine esz_oct _ (by rw [hsz]; exact h2) (by rw [hsz]; exact hs) w (by rw [hc]; exact e1.symm.trans hq) _ (Nat.le_trans hd3 (by simp; omega)) H8
    · simp only [if_true]
      refine esz_hex _ (by rw [hsz]; exact h2) (by rw [hsz]; exact hs) w (by rw [hc]; exact e1.symm.trans hq) _ (by simp at hs; omega) H16
end Go.Proofs.YtmpkgjonbjpohaaGreatDoor
