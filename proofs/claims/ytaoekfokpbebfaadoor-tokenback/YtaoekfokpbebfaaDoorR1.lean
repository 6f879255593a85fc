/-
  The document's own words: name, quote, sign of a text.
-/
import Derived.Test.YtaoekfokpbebfaaDoorPz
namespace Go.Proofs.YtaoekfokpbebfaaDoor
open Go Go.RowKit
set_option linter.unusedVariables false
set_option linter.unusedSimpArgs false

/-- How many bytes a name has that begins a text. -/
def nmR (s : List UInt8) : Nat := match s with
  | [] => 0
  | c :: r => if Tk.le c then Tk.nmL r + 1 else 0
set_option maxHeartbeats 800000 in
theorem rname_any (s : ByteArray) (w : World) (hs : s.size ≤ maxLen) (h0 : 0 < s.size) :
    Calls Tryd.prog 45 #[.string s] w fun e w' => e = .returned (.int .i64 (nmR s.data.toList : Nat)) ∧ w' = w := by
  have hs' : s.size ≤ 2 ^ 63 - 1 := hs
  have hd0 := drop_at s 0 h0
  simp only [List.drop_zero, Nat.zero_add] at hd0
  have hR : nmR s.data.toList = if Tk.le s[0] then Tk.nmL (s.data.toList.drop 1) + 1 else 0 := by
    conv => lhs; rw [hd0]
    rfl
  generalize nmR s.data.toList = R at *
  have hl := letter_any s[0] w
  have i0 : ((s.size : Int) == 0) = false := by rw [beq_eq_false_iff_ne]; omega
  have i00 : (0 : Int) < (s.size : Int) := by omega
  clear hd0
  cases hc0 : Tk.le s[0]
  · rw [hc0] at hR hl
    have HR := hide hR
    have HL := hide hl
    clear hR hl hc0
    go_enter Tryd.func45, Tryd.ntmps45
    go_wp2_with (go_at_call 60; refine (unhide HL).mono ?_; rintro e w' ⟨rfl, rfl⟩)
    go_ret
    exact ⟨by rw [unhide HR]; rfl, rfl⟩
  · rw [hc0] at hR hl
    simp only [if_true] at hR
    have HR := hide hR
    have HL := hide hl
    clear hR hl hc0
    go_enter Tryd.func45, Tryd.ntmps45
    go_wp2_with (go_at_call 60; refine (unhide HL).mono ?_; rintro e w' ⟨rfl, hw'⟩; obtain rfl := hw'.symm)
    go_loopw [3] (fun i wr => ∃ k : Nat, i = .int .i64 k ∧ 1 ≤ k ∧ k ≤ s.size ∧ Hid (R = k + Tk.nmL (s.data.toList.drop k)) ∧ wr = w) (fun i wr => s.size - (intOf i).toNat)
    case atStart => exact ⟨1, rfl, by omega, by omega, by rw [Hid, unhide HR]; omega, rfl⟩
    case round =>
      obtain ⟨k, rfl, h1, hk, hno, rfl⟩ := hrel
      clear HL
      by_cases hlt : k < s.size
      · have i1 : (k : Int) < (s.size : Int) := by omega
        have hd := drop_at s k hlt
        have hle := letter_any s[k] wr
        have hdg := digit_any s[k] wr
        have hst := unhide hno
        rw [hd, Tk.nmL, Tk.nm] at hst
        have HST := hide hst
        clear hst hd
        cases hc : Tk.le s[k]
        · rw [hc] at hle HST
          cases hc2 : Tk.dg s[k]
          · rw [hc2] at hdg HST
            clear hc hc2
            have HI := hide hle
            have HD := hide hdg
            clear hle hdg
            go_wp2_with (first | (go_at_call 60; refine (unhide HI).mono ?_; rintro e w' ⟨rfl, rfl⟩) | (go_at_call 61; refine (unhide HD).mono ?_; rintro e w' ⟨rfl, rfl⟩))
            go_ret
            have := unhide HST
            simp at this
            exact ⟨by rw [this]; rfl, rfl⟩
          · rw [hc2] at hdg HST
            clear hc hc2
            have HI := hide hle
            have HD := hide hdg
            clear hle hdg
            go_wp2_with (first | (go_at_call 60; refine (unhide HI).mono ?_; rintro e w' ⟨rfl, rfl⟩) | (go_at_call 61; refine (unhide HD).mono ?_; rintro e w' ⟨rfl, rfl⟩))
            go_roundw
            case rel =>
              refine ⟨k + 1, by go_num, by omega, by omega, ?_, trivial⟩
              have := unhide HST
              simp at this
              rw [Hid, this]; omega
            case measure => simp [intOf]; omega
        · rw [hc] at hle HST
          clear hc
          have HI := hide hle
          clear hle hdg
          go_wp2_with (first | (go_at_call 60; refine (unhide HI).mono ?_; rintro e w' ⟨rfl, rfl⟩))
          go_roundw
          case rel =>
            refine ⟨k + 1, by go_num, by omega, by omega, ?_, trivial⟩
            have := unhide HST
            simp at this
            rw [Hid, this]; omega
          case measure => simp [intOf]; omega
      · have hn := drop_end s k (by omega)
        have HN := hide hn
        clear hn
        have i1 : ¬ (k : Int) < (s.size : Int) := by omega
        go_wp2
        go_ret
        have h2 := unhide hno
        exact ⟨by rw [h2, unhide HN]; rfl, rfl⟩

def qr (s : ByteArray) (h : 0 < s.size) : Nat := Tk.up (Tk.quL s[0] false (s.data.toList.drop 1))
set_option maxHeartbeats 1600000 in
theorem rquote_any (s : ByteArray) (w : World) (hs : s.size ≤ 140737488355328) (h0 : 0 < s.size) :
    Calls Tryd.prog 47 #[.string s] w fun e w' => e = .returned (.int .i64 (qr s h0 : Nat)) ∧ ∃ m, w' = w.drewN m := by
  have HZ : Hid (qr s h0 = Tk.up (Tk.quL s[0] false (s.data.toList.drop 1))) := rfl
  generalize qr s h0 = Z at *
  generalize hQ : Tk.quL s[0] false (s.data.toList.drop 1) = Q at *
  have HQ := hide hQ
  clear hQ
  go_enter Tryd.func47, Tryd.ntmps47
  go_wp2
  go_loopw [3] (fun i wr => ∃ k m : Nat, i = .int .i64 k ∧ 1 ≤ k ∧ k ≤ s.size + 1 ∧ Hid (Q = upN (k - 1) (Tk.quL s[0] false (s.data.toList.drop k))) ∧ Hid (wr = w.drewN m)) (fun i wr => s.size + 1 - (intOf i).toNat)
  case atStart => exact ⟨1, 0, rfl, by omega, by omega, by rw [Hid, unhide HQ]; unfold upN; split <;> simp_all, rfl⟩
  case round =>
    obtain ⟨k, m, rfl, h1, hk, hno, hwm⟩ := hrel
    have hnn := unhide hno
    clear hno
    by_cases hlt : k < s.size
    · have i1 : (k : Int) < (s.size : Int) := by omega
      by_cases hc : s[k] = 92
      · rw [qu_esc _ s k hlt hc] at hnn
        have HN := hide hnn
        have hx : ((s[k].toNat : Int) == 92) = true := eq_x hc
        clear hnn hc
        go_wp2
        go_roundw
        case rel => exact ⟨k + 2, m, by go_num, by omega, by omega, by rw [Hid, unhide HN, show k - 1 + 2 = k + 2 - 1 by omega], hwm⟩
        case measure => simp [intOf]; omega
      · have hx : ((s[k].toNat : Int) == 92) = false := ne_x hc
        by_cases hq : s[k] = s[0]
        · rw [qu_end _ s k hlt hc hq] at hnn
          have hy : ((s[k].toNat : Int) == (s[0].toNat : Int)) = true := eq_x hq
          have i00 : (0 : Int) < (s.size : Int) := by omega
          have hz : Hid (Z = k + 1) := by
            have hQk : Q = k := by rw [hnn]; unfold upN; simp; omega
            rw [Hid, unhide HZ, hQk]
            unfold Tk.up; split <;> omega
          clear hq hc hnn
          go_upto_region 6 with fail
          go_quiet (fail)
          go_wp2
          go_ret
          exact ⟨by rw [unhide hz]; go_num, _, Hdrew hwm⟩
        · rw [qu_go _ s k hlt hc hq] at hnn
          have hy : ((s[k].toNat : Int) == (s[0].toNat : Int)) = false := ne_x hq
          have i00 : (0 : Int) < (s.size : Int) := by omega
          have HN := hide hnn
          clear hnn hc hq
          go_upto_region 6 with fail
          go_quiet (fail)
          go_wp2
          go_roundw
          case rel => exact ⟨k + 1, _, by go_num, by omega, by omega, by rw [Hid, unhide HN, show k - 1 + 1 = k + 1 - 1 by omega], hide (Hdrew hwm)⟩
          case measure => simp [intOf]; omega
    · rw [drop_end s k (by omega)] at hnn
      have hz : Hid (Z = 0) := by
        have hQ0 : Q = 0 := hnn
        rw [Hid, unhide HZ, hQ0]; simp [Tk.up]
      have i1 : ¬ (k : Int) < (s.size : Int) := by omega
      clear hnn
      go_wp2
      go_ret
      exact ⟨by rw [unhide hz]; rfl, m, unhide hwm⟩
end Go.Proofs.YtaoekfokpbebfaaDoor
