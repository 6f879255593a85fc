/-
  token.quotedSize, signSize, measure: the kind and the size of the token that a text begins with.
-/
import Derived.Test.YtaoekfokpbebfaaDoorP3
namespace Go.Proofs.YtaoekfokpbebfaaDoor
open Go Go.RowKit
set_option linter.unusedVariables false
set_option linter.unusedSimpArgs false

def upN (n m : Nat) : Nat := if m = 0 then 0 else m + n
theorem upN_up (n m : Nat) : upN n (Tk.up m) = upN (n + 1) m := by unfold upN Tk.up; split <;> simp_all; omega
theorem qu_esc (q : UInt8) (s : ByteArray) (k : Nat) (h : k < s.size) (hc : s[k] = 92) (n : Nat) : upN n (Tk.quL q false (s.data.toList.drop k)) = upN (n + 2) (Tk.quL q false (s.data.toList.drop (k + 2))) := by
  rw [drop_at s k h, Tk.quL, hc, if_pos (by decide), upN_up]
  by_cases h2 : k + 1 < s.size
  · rw [drop_at s (k + 1) h2, Tk.quL, upN_up]
  · rw [drop_end s (k + 1) (by omega), drop_end s (k + 2) (by omega)]; rfl
theorem qu_end (q : UInt8) (s : ByteArray) (k : Nat) (h : k < s.size) (hc : s[k] ≠ 92) (hq : s[k] = q) : Tk.quL q false (s.data.toList.drop k) = 1 := by
  rw [drop_at s k h, Tk.quL, if_neg (by simpa using hc), if_pos (by simpa using hq)]
theorem qu_go (q : UInt8) (s : ByteArray) (k : Nat) (h : k < s.size) (hc : s[k] ≠ 92) (hq : s[k] ≠ q) (n : Nat) : upN n (Tk.quL q false (s.data.toList.drop k)) = upN (n + 1) (Tk.quL q false (s.data.toList.drop (k + 1))) := by
  rw [drop_at s k h, Tk.quL, if_neg (by simpa using hc), if_neg (by simpa using hq), upN_up]
theorem ne_x {c a : UInt8} (h : c ≠ a) : ((c.toNat : Int) == (a.toNat : Int)) = false := by rw [← byte_eq]; simpa using h
theorem eq_x {c a : UInt8} (h : c = a) : ((c.toNat : Int) == (a.toNat : Int)) = true := by subst h; simp
def qz (s : ByteArray) (h : 0 < s.size) : Nat := if s[0] = 39 ∧ Tk.quL s[0] false (s.data.toList.drop 1) = 1 then 0 else Tk.up (Tk.quL s[0] false (s.data.toList.drop 1))
theorem qq_eq (s : ByteArray) (k : Nat) (h1 : 1 ≤ k) (h : k < s.size) (hq : s[k] = s[0]) : ((s.extract 0 (k + 1)).toList == [39, 39]) = decide (k = 1 ∧ s[0] = 39) := by
  rw [ByteArray.toList_eq, Bool.eq_iff_iff, beq_iff_eq, decide_eq_true_iff]
  have e : (s.extract 0 (k + 1)).data.toList = s.data.toList.take (k + 1) := by rw [ByteArray.data_extract, Array.toList_extract]; simp [List.extract]
  rw [e]
  have h0 := drop_at s 0 (by omega)
  have h2 := drop_at s 1 (by omega)
  simp only [List.drop_zero, Nat.zero_add] at h0 h2
  constructor
  · intro hh
    have hl := congrArg List.length hh
    simp at hl
    have hk : k = 1 := by have : s.size = s.data.toList.length := by simp
                          omega
    subst hk
    rw [h0] at hh
    simp at hh
    exact ⟨rfl, hh.1⟩
  · rintro ⟨rfl, hc⟩
    rw [h0, h2, hq, hc]; rfl

set_option maxHeartbeats 1600000 in
theorem quotedSize_any (s : ByteArray) (w : World) (hs : s.size ≤ 140737488355328) (h0 : 0 < s.size) :
    Calls Tryd.prog 58 #[.string s] w fun e w' => e = .returned (.int .i64 (qz s h0 : Nat)) ∧ w' = w := by
  have HZ : Hid (qz s h0 = if s[0] = 39 ∧ Tk.quL s[0] false (s.data.toList.drop 1) = 1 then 0 else Tk.up (Tk.quL s[0] false (s.data.toList.drop 1))) := rfl
  generalize qz s h0 = Z at *
  generalize hQ : Tk.quL s[0] false (s.data.toList.drop 1) = Q at *
  have HQ := hide hQ
  clear hQ
  go_enter Tryd.func58, Tryd.ntmps58
  go_wp2
  go_loopw [3] (fun i wr => ∃ k : Nat, i = .int .i64 k ∧ 1 ≤ k ∧ k ≤ s.size + 1 ∧ Hid (Q = upN (k - 1) (Tk.quL s[0] false (s.data.toList.drop k))) ∧ wr = w) (fun i wr => s.size + 1 - (intOf i).toNat)
  case atStart => exact ⟨1, rfl, by omega, by omega, by rw [Hid, unhide HQ]; unfold upN; split <;> simp_all, rfl⟩
  case round =>
    obtain ⟨k, rfl, h1, hk, hno, rfl⟩ := hrel
    have hnn := unhide hno
    clear hno
    by_cases hlt : k < s.size
    · have i1 : (k : Int) < (s.size : Int) := by omega
      by_cases hc : s[k] = 92
      · rw [qu_esc _ s k hlt hc] at hnn
        have HN := hide hnn
        have hx : ((s[k].toNat : Int) == 92) = true := eq_x hc
        clear hnn hc
        go_wp2
        go_roundw
        case rel => exact ⟨k + 2, by go_num, by omega, by omega, by rw [Hid, unhide HN, show k - 1 + 2 = k + 2 - 1 by omega], trivial⟩
        case measure => simp [intOf]; omega
      · have hx : ((s[k].toNat : Int) == 92) = false := ne_x hc
        by_cases hq : s[k] = s[0]
        · rw [qu_end _ s k hlt hc hq] at hnn
          have hy : ((s[k].toNat : Int) == (s[0].toNat : Int)) = true := eq_x hq
          have hqq := qq_eq s k h1 hlt hq
          have i2 : (k : Int) + 1 ≤ (s.size : Int) := by omega
          have i3 : (0 : Int) ≤ (k : Int) + 1 := by omega
          by_cases hb : k = 1 ∧ s[0] = 39
          · rw [decide_eq_true hb] at hqq
            have hz : Hid (Z = 0) := by
              rw [Hid, unhide HZ, if_pos]
              refine ⟨hb.2, ?_⟩
              rw [hnn, hb.1]; rfl
            clear hb hq hc hnn
            go_wp2
            go_ret
            exact ⟨by rw [unhide hz]; rfl, rfl⟩
          · rw [decide_eq_false hb] at hqq
            have hz : Hid (Z = k + 1) := by
              have hQk : Q = k := by rw [hnn]; unfold upN; simp; omega
              rw [Hid, unhide HZ, if_neg, hQk]
              · unfold Tk.up; split <;> omega
              · rintro ⟨h39, hq1⟩; exact hb ⟨by omega, h39⟩
            clear hb hq hc hnn
            go_wp2
            go_ret
            exact ⟨by rw [unhide hz]; go_num, rfl⟩
        · rw [qu_go _ s k hlt hc hq] at hnn
          have hy : ((s[k].toNat : Int) == (s[0].toNat : Int)) = false := ne_x hq
          have HN := hide hnn
          clear hnn hc hq
          go_wp2
          go_roundw
          case rel => exact ⟨k + 1, by go_num, by omega, by omega, by rw [Hid, unhide HN, show k - 1 + 1 = k + 1 - 1 by omega], trivial⟩
          case measure => simp [intOf]; omega
    · rw [drop_end s k (by omega)] at hnn
      have hz : Hid (Z = 0) := by
        have hQ0 : Q = 0 := hnn
        rw [Hid, unhide HZ, hQ0]; simp [Tk.up]
      have i1 : ¬ (k : Int) < (s.size : Int) := by omega
      clear hnn
      go_wp2
      go_ret
      exact ⟨by rw [unhide hz]; rfl, rfl⟩

theorem take_min (s : ByteArray) (k : Nat) : (s.extract 0 k).data.toList = s.data.toList.take k := by
  rw [ByteArray.data_extract, Array.toList_extract]; simp [List.extract]
theorem sgL_at {s : List UInt8} {k : Nat} (hk : k ≤ 3) (hl : k ≤ s.length) (h : ∀ j, k < j → j ≤ 3 → j ≤ s.length → Tk.pn (s.take j) = false) :
    Tk.sgL s = if k = 0 then 0 else if Tk.pn (s.take k) then k else Tk.sgL (s.take (k - 1)) := by
  unfold Tk.sgL
  obtain rfl | rfl | rfl | rfl : k = 0 ∨ k = 1 ∨ k = 2 ∨ k = 3 := by omega
  · have h1 := h 1 (by omega) (by omega)
    have h2 := h 2 (by omega) (by omega)
    have h3 := h 3 (by omega) (by omega)
    by_cases l3 : 3 ≤ s.length
    · simp [h1 (by omega), h2 (by omega), h3 l3]
    · by_cases l2 : 2 ≤ s.length
      · simp [h1 (by omega), h2 l2, l3]
      · by_cases l1 : 1 ≤ s.length
        · simp [h1 l1, l2, l3]
        · simp [l1, l2, l3]
  · have h2 := h 2 (by omega) (by omega)
    have h3 := h 3 (by omega) (by omega)
    by_cases l3 : 3 ≤ s.length
    · simp [h2 (by omega), h3 l3, hl]
    · by_cases l2 : 2 ≤ s.length
      · simp [h2 l2, l3, hl]
      · simp [l2, l3, hl]
  · have h3 := h 3 (by omega) (by omega)
    have l1 : 1 ≤ s.length := by omega
    by_cases l3 : 3 ≤ s.length
    · simp [h3 l3, hl, l1, List.take_take]
    · simp [l3, hl, l1, List.take_take]
  · have l1 : 1 ≤ s.length := by omega
    have l2 : 2 ≤ s.length := by omega
    simp [hl, l1, l2, List.take_take]

set_option maxHeartbeats 800000 in
theorem signSize_any (s : ByteArray) (w : World) (hg : Sg w) (hs : s.size ≤ 140737488355328) :
    Calls Tryd.prog 59 #[.string s] w fun e w' => e = .returned (.int .i64 (Tk.sgL s.data.toList : Nat)) ∧ w' = w := by
  have HG := hide hg
  clear hg
  have hlen : s.data.toList.length = s.size := by simp
  have HL := hide hlen
  clear hlen
  have hmin : min (3 : Int) (s.size : Int) = ((min 3 s.size : Nat) : Int) := by omega
  go_enter Tryd.func59, Tryd.ntmps59
  go_wp2
  all_goals
    go_loopw [3] (fun i wr => ∃ k : Nat, i = .int .i64 k ∧ k ≤ 3 ∧ k ≤ s.size ∧ Hid (∀ j, k < j → j ≤ 3 → j ≤ s.size → Tk.pn (s.data.toList.take j) = false) ∧ wr = w) (fun i wr => (intOf i).toNat)
    case atStart => exact ⟨min 3 s.size, by simp only [Value.int.injEq, true_and]; omega, by omega, by omega, fun j h1 h2 h3 => by omega, rfl⟩
    case round =>
      obtain ⟨k, rfl, h3, hk, hno, rfl⟩ := hrel
      have hat := sgL_at (s := s.data.toList) h3 (by rw [unhide HL]; exact hk) (fun j a b c => unhide hno j a b (by rw [unhide HL] at c; exact c))
      by_cases hlt : 0 < k
      · have hp := punct_any (s.extract 0 k) wr (unhide HG) (by unfold maxLen; simp; omega)
        rw [take_min] at hp
        have i1 : (k : Int) ≤ (s.size : Int) := by omega
        cases hc : Tk.pn (s.data.toList.take k)
        · rw [hc] at hp
          have HP := hide hp
          have HC := hide hc
          clear hp hc hat
          go_wp2_with (go_at_call 19; refine (unhide HP).mono ?_; rintro e w' ⟨rfl, rfl⟩)
          go_roundw
          case rel =>
            refine ⟨k - 1, by go_num, by omega, by omega, fun j a b c => ?_, trivial⟩
            by_cases hjk : j = k
            · subst hjk; exact unhide HC
            · exact unhide hno j (by omega) b c
          case measure => simp [intOf]; omega
        · rw [hc] at hp
          have HP := hide hp
          rw [if_neg (by omega), if_pos hc] at hat
          have HA := hide hat
          clear hp hc hat
          go_wp2_with (go_at_call 19; refine (unhide HP).mono ?_; rintro e w' ⟨rfl, rfl⟩)
          go_ret
          exact ⟨by rw [unhide HA]; rfl, rfl⟩
      · rw [if_pos (by omega)] at hat
        have HA := hide hat
        clear hat
        go_wp2
        go_ret
        exact ⟨by rw [unhide HA]; rfl, rfl⟩

end Go.Proofs.YtaoekfokpbebfaaDoor
