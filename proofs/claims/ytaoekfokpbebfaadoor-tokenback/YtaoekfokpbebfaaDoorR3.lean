/-
  The document's own words: number of a text.
-/
import Derived.Test.YtaoekfokpbebfaaDoorPz
namespace Go.Proofs.YtaoekfokpbebfaaDoor
open Go Go.RowKit
set_option linter.unusedVariables false
set_option linter.unusedSimpArgs false

/-- How many bytes a number has that begins a text. -/
def nuR (s : List UInt8) : Nat := match s with
  | [] => 0
  | c :: r => if Tk.dg c || (c == 46 && Tk.dig1 r) then Tk.nuL c r + 1 else 0
theorem nu_dot (d : UInt8) (h : Tk.dg d = true) : Tk.nu 46 d = true := by
  unfold Tk.nu Tk.nm
  rw [h]
  have h1 : (d == 43) = false := by rw [beq_eq_false_iff_ne]; rintro rfl; revert h; decide
  have h2 : (d == 45) = false := by rw [beq_eq_false_iff_ne]; rintro rfl; revert h; decide
  simp [h1, h2]
/-- What the byte ahead may be, and what the byte is. -/
theorem ex_cases (a : UInt8) : ((a.toNat : Int) == 101) = true ∧ Tk.ex a = true ∨ ((a.toNat : Int) == 101) = false ∧ ((a.toNat : Int) == 69) = true ∧ Tk.ex a = true ∨
    ((a.toNat : Int) == 101) = false ∧ ((a.toNat : Int) == 69) = false ∧ ((a.toNat : Int) == 112) = true ∧ Tk.ex a = true ∨
    ((a.toNat : Int) == 101) = false ∧ ((a.toNat : Int) == 69) = false ∧ ((a.toNat : Int) == 112) = false ∧ ((a.toNat : Int) == 80) = true ∧ Tk.ex a = true ∨
    ((a.toNat : Int) == 101) = false ∧ ((a.toNat : Int) == 69) = false ∧ ((a.toNat : Int) == 112) = false ∧ ((a.toNat : Int) == 80) = false ∧ Tk.ex a = false := by
  have e : Tk.ex a = (((a.toNat : Int) == 101) || ((a.toNat : Int) == 69) || ((a.toNat : Int) == 112) || ((a.toNat : Int) == 80)) := by
    unfold Tk.ex; rw [byte_eq, byte_eq, byte_eq, byte_eq]; rfl
  rw [e]
  generalize ((a.toNat : Int) == 101) = A
  generalize ((a.toNat : Int) == 69) = B
  generalize ((a.toNat : Int) == 112) = C
  generalize ((a.toNat : Int) == 80) = D
  cases A <;> cases B <;> cases C <;> cases D <;> simp
theorem nu_cases (E : Bool) (a c : UInt8) (hE : Tk.ex a = E) : Tk.le c = true ∧ Tk.nu a c = true ∨ Tk.le c = false ∧ Tk.dg c = true ∧ Tk.nu a c = true ∨
    Tk.le c = false ∧ Tk.dg c = false ∧ ((c.toNat : Int) == 46) = true ∧ Tk.nu a c = true ∨
    Tk.le c = false ∧ Tk.dg c = false ∧ ((c.toNat : Int) == 46) = false ∧ E = false ∧ Tk.nu a c = false ∨
    Tk.le c = false ∧ Tk.dg c = false ∧ ((c.toNat : Int) == 46) = false ∧ E = true ∧ ((c.toNat : Int) == 43) = true ∧ Tk.nu a c = true ∨
    Tk.le c = false ∧ Tk.dg c = false ∧ ((c.toNat : Int) == 46) = false ∧ E = true ∧ ((c.toNat : Int) == 43) = false ∧ ((c.toNat : Int) == 45) = true ∧ Tk.nu a c = true ∨
    Tk.le c = false ∧ Tk.dg c = false ∧ ((c.toNat : Int) == 46) = false ∧ E = true ∧ ((c.toNat : Int) == 43) = false ∧ ((c.toNat : Int) == 45) = false ∧ Tk.nu a c = false := by
  have e46 : ((c.toNat : Int) == 46) = (c == 46) := (byte_eq c 46).symm
  have e43 : ((c.toNat : Int) == 43) = (c == 43) := (byte_eq c 43).symm
  have e45 : ((c.toNat : Int) == 45) = (c == 45) := (byte_eq c 45).symm
  rw [e46, e43, e45]
  have hpm : (c == 43 || c == 45) = true → Tk.le c = false ∧ Tk.dg c = false ∧ (c == 46) = false := by
    intro h
    rw [Bool.or_eq_true, beq_iff_eq, beq_iff_eq] at h
    rcases h with rfl | rfl <;> decide
  unfold Tk.nu Tk.nm
  rw [hE]
  generalize hA : (c == 43) = A at *
  generalize hB : (c == 45) = B at *
  generalize hC : (c == 46) = C at *
  generalize hD : Tk.le c = D at *
  generalize hF : Tk.dg c = F at *
  cases A <;> cases B <;> cases C <;> cases D <;> cases F <;> cases E <;> simp_all

set_option maxRecDepth 100000 in
set_option maxHeartbeats 8000000 in
theorem rnumber_any (s : ByteArray) (w : World) (hs : s.size ≤ maxLen) (h0 : 0 < s.size) :
    Calls Tryd.prog 46 #[.string s] w fun e w' => e = .returned (.int .i64 (nuR s.data.toList : Nat)) ∧ w' = w := by
  have hs' : s.size ≤ 2 ^ 63 - 1 := hs
  have hd0 := drop_at s 0 h0
  simp only [List.drop_zero, Nat.zero_add] at hd0
  have hR : nuR s.data.toList = if Tk.dg s[0] || (s[0] == 46 && Tk.dig1 (s.data.toList.drop 1)) then Tk.nuL s[0] (s.data.toList.drop 1) + 1 else 0 := by
    conv => lhs; rw [hd0]
    rfl
  generalize nuR s.data.toList = R at *
  have e46 : ((s[0].toNat : Int) == 46) = (s[0] == 46) := (byte_eq s[0] 46).symm
  have i00 : (0 : Int) < (s.size : Int) := by omega
  have hcs : (Tk.dg s[0] = true ∧ ((decide ((1 : Int) < (s.size : Int)) = false) ∨ ((1 : Int) < (s.size : Int) ∧ ((s[0].toNat : Int) == 46) = false)) ∧ Hid (∀ h : 0 < s.size, Tk.nuL s[0] (s.data.toList.drop (0 + 1)) + 1 + 0 = R)) ∨
      (Tk.dg s[0] = false ∧ (1 : Int) < (s.size : Int) ∧ ((s[0].toNat : Int) == 46) = true ∧ (∃ h : 1 < s.size, Tk.dg s[1] = true ∧ Hid (∀ h : 1 < s.size, Tk.nuL s[1] (s.data.toList.drop (1 + 1)) + 1 + 1 = R))) ∨
      (Tk.dg s[0] = false ∧ Hid (R = 0) ∧ ((decide ((1 : Int) < (s.size : Int)) = false) ∨ ((1 : Int) < (s.size : Int) ∧ ((s[0].toNat : Int) == 46) = false) ∨ ((1 : Int) < (s.size : Int) ∧ ((s[0].toNat : Int) == 46) = true ∧ ∃ h : 1 < s.size, Tk.dg s[1] = false))) := by
    cases hdg : Tk.dg s[0]
    · rw [hdg] at hR
      simp only [Bool.false_or] at hR
      refine .inr ?_
      by_cases h1 : 1 < s.size
      · have hd1 := drop_at s 1 h1
        rw [hd1, Tk.dig1] at hR
        cases h46 : (s[0] == 46)
        · rw [h46] at hR
          exact .inr ⟨rfl, by rw [Hid, hR]; rfl, .inr (.inl ⟨by omega, by rw [e46, h46]⟩)⟩
        · rw [h46] at hR
          cases hd : Tk.dg s[1]
          · rw [hd] at hR
            exact .inr ⟨rfl, by rw [Hid, hR]; rfl, .inr (.inr ⟨by omega, by rw [e46, h46], h1, hd⟩)⟩
          · rw [hd] at hR
            refine .inl ⟨rfl, by omega, by rw [e46, h46], h1, hd, fun _ => ?_⟩
            have h46' : s[0] = 46 := by simpa using h46
            rw [hR, h46']
            simp only [Bool.and_self, if_true]
            rw [Tk.nuL, nu_dot _ hd, if_pos rfl]
      · have hd1 := drop_end s 1 (by omega)
        rw [hd1] at hR
        simp only [Tk.dig1, Bool.and_false] at hR
        exact .inr ⟨rfl, by rw [Hid, hR]; rfl, .inl (decide_eq_false (by omega))⟩
    · rw [hdg] at hR
      simp only [Bool.true_or, if_true] at hR
      refine .inl ⟨rfl, ?_, fun _ => by rw [hR]⟩
      by_cases h1 : 1 < s.size
      · refine .inr ⟨by omega, ?_⟩
        rw [e46, beq_eq_false_iff_ne]
        intro hh
        rw [hh] at hdg
        revert hdg; decide
      · exact .inl (decide_eq_false (by omega))
  clear hR e46 hd0
  have HD0 := fun W => digit_any s[0] W
  -- the loop, from j + 1 on
  rcases hcs with ⟨hdg, hlen, hno⟩ | ⟨hdg, i1, h46, h1, hdg1, hno⟩ | ⟨hdg, hz, hcs⟩
  · rw [hdg] at HD0
    have HD := hide HD0
    clear HD0 hdg
    rcases hlen with hl | ⟨i1, h46⟩
    · have hsz : s.size = 1 := by have := of_decide_eq_false hl; omega
      have hn := unhide hno h0
      rw [drop_end s (0 + 1) (by omega), Tk.nuL] at hn
      have HN := hide hn
      have i2 : ¬ (1 : Int) < (s.size : Int) := by omega
      clear hn hno
      go_enter Tryd.func46, Tryd.ntmps46
      go_wp2_with (go_at_call 61; refine (unhide HD _).mono ?_; rintro e w' ⟨rfl, hw'⟩; obtain rfl := hw'.symm)
      go_loopg [3] 1 (fun gk i wr => i = .int .i64 1 ∧ wr = w)
      case atStart => exact ⟨rfl, rfl⟩
      case round =>
        obtain ⟨rfl, rfl⟩ := hrel
        go_wp2
        go_ret
        exact ⟨by rw [← unhide HN]; rfl, rfl⟩
    · go_enter Tryd.func46, Tryd.ntmps46
      go_wp2_with (go_at_call 61; refine (unhide HD _).mono ?_; rintro e w' ⟨rfl, hw'⟩; obtain rfl := hw'.symm)
      go_loopg [3] s.size (fun gk i wr => ∃ j : Nat, gk = s.size - j ∧ i = .int .i64 ((j : Int) + 1) ∧ j < s.size ∧ Hid (∀ h : j < s.size, Tk.nuL s[j] (s.data.toList.drop (j + 1)) + 1 + j = R) ∧ wr = w)
      case atStart => exact ⟨0, rfl, rfl, by omega, hno, rfl⟩
      case round =>
        obtain ⟨j, rfl, rfl, hj, hno, rfl⟩ := hrel
        clear HD
        have hnj := unhide hno hj
        by_cases hlt : j + 1 < s.size
        · have j1 : (j : Int) + 1 < (s.size : Int) := by omega
          have j2 : (j : Int) < (s.size : Int) := by omega
          have j3 : (0 : Int) ≤ (j : Int) + 1 := by omega
          have j4 : IntKind.i64.wrap (j : Int) = (j : Int) := by rw [IntKind.wrap_i64]; omega
          have j5 : (0 : Int) < (j : Int) + 1 := by omega
          rw [drop_at s (j + 1) hlt, Tk.nuL] at hnj
          have HNJ := hide hnj
          clear hnj hno
          have hex := ex_cases s[j]
          have hnc := nu_cases _ s[j] s[j + 1] rfl
          have HNC := hide hnc
          clear hnc
          generalize Tk.ex s[j] = E at *
          go_upto_region 7 with fail
          go_cut [4] from 26 to 95 (fun c wx => c = .bool E ∧ wx = wr)
          case first =>
            rcases hex with ⟨e1, rfl⟩ | ⟨e1, e2, rfl⟩ | ⟨e1, e2, e3, rfl⟩ | ⟨e1, e2, e3, e4, rfl⟩ | ⟨e1, e2, e3, e4, rfl⟩
            all_goals
              go_wp2_with fail
              go_meet
              case rel => exact ⟨rfl, rfl⟩
          case rest =>
            obtain ⟨rfl, rfl⟩ := hcut
            clear hex
            have HLE := fun W => letter_any s[j + 1] W
            have HDG := fun W => digit_any s[j + 1] W
            rcases unhide HNC with ⟨e1, e2⟩ | ⟨e1, e3, e2⟩ | ⟨e1, e3, e4, e2⟩ | ⟨e1, e3, e4, rfl, e2⟩ | ⟨e1, e3, e4, rfl, e5, e2⟩ | ⟨e1, e3, e4, rfl, e5, e6, e2⟩ | ⟨e1, e3, e4, rfl, e5, e6, e2⟩
            all_goals
              rw [e2] at HNJ
              try rw [e1] at HLE
              try rw [e3] at HDG
              have HLE' := hide HLE
              have HDG' := hide HDG
              clear HLE HDG e2 HNC
              try clear e3
              clear e1
              try have e7 : ((s[j + 1].toNat : Int) != 46) = true := by simp only [bne, e4, Bool.not_false]
              try have e7 : ((s[j + 1].toNat : Int) != 46) = false := by simp only [bne, e4, Bool.not_true]
              go_wp2_with (first | (go_at_call 60; refine (unhide HLE' _).mono ?_; rintro e w' ⟨rfl, rfl⟩) | (go_at_call 61; refine (unhide HDG' _).mono ?_; rintro e w' ⟨rfl, rfl⟩))
              first
              | (go_roundg (s.size - (j + 1))
                 case measure => omega
                 case rel =>
                   refine ⟨j + 1, rfl, by go_num, by omega, fun h => ?_, by first | rfl | trivial⟩
                   have := unhide HNJ
                   simp only [if_true] at this
                   rw [← this]; omega)
              | (try rw [Exit.noGoto_ret]
                 go_ret
                 have := unhide HNJ
                 simp at this
                 exact ⟨by rw [← this]; go_num, by first | rfl | trivial⟩)
        · rw [drop_end s (j + 1) (by omega), Tk.nuL] at hnj
          have HN := hide hnj
          have j1 : ¬ (j : Int) + 1 < (s.size : Int) := by omega
          have j5 : (0 : Int) < (j : Int) + 1 := by omega
          clear hnj hno
          go_wp2
          go_ret
          have := unhide HN
          exact ⟨by rw [← this]; go_num, rfl⟩
  · rw [hdg] at HD0
    have HD := hide HD0
    have HD1 := fun W => digit_any s[1] W
    rw [hdg1] at HD1
    have HDD := hide HD1
    clear HD0 HD1 hdg hdg1
    have i2 : 1 < s.size := h1
    · go_enter Tryd.func46, Tryd.ntmps46
      go_wp2_with (go_at_call 61; first | (refine (unhide HD _).mono ?_; rintro e w' ⟨rfl, hw'⟩; obtain rfl := hw'.symm) | (refine (unhide HDD _).mono ?_; rintro e w' ⟨rfl, hw'⟩; obtain rfl := hw'.symm))
      go_loopg [3] (s.size - 1) (fun gk i wr => ∃ j : Nat, gk = s.size - j ∧ i = .int .i64 ((j : Int) + 1) ∧ j < s.size ∧ Hid (∀ h : j < s.size, Tk.nuL s[j] (s.data.toList.drop (j + 1)) + 1 + j = R) ∧ wr = w)
      case atStart => exact ⟨1, rfl, rfl, by omega, hno, rfl⟩
      case round =>
        obtain ⟨j, rfl, rfl, hj, hno, rfl⟩ := hrel
        clear HD
        have hnj := unhide hno hj
        by_cases hlt : j + 1 < s.size
        · have j1 : (j : Int) + 1 < (s.size : Int) := by omega
          have j2 : (j : Int) < (s.size : Int) := by omega
          have j3 : (0 : Int) ≤ (j : Int) + 1 := by omega
          have j4 : IntKind.i64.wrap (j : Int) = (j : Int) := by rw [IntKind.wrap_i64]; omega
          have j5 : (0 : Int) < (j : Int) + 1 := by omega
          rw [drop_at s (j + 1) hlt, Tk.nuL] at hnj
          have HNJ := hide hnj
          clear hnj hno
          have hex := ex_cases s[j]
          have hnc := nu_cases _ s[j] s[j + 1] rfl
          have HNC := hide hnc
          clear hnc
          generalize Tk.ex s[j] = E at *
          go_upto_region 7 with fail
          go_cut [4] from 26 to 95 (fun c wx => c = .bool E ∧ wx = wr)
          case first =>
            rcases hex with ⟨e1, rfl⟩ | ⟨e1, e2, rfl⟩ | ⟨e1, e2, e3, rfl⟩ | ⟨e1, e2, e3, e4, rfl⟩ | ⟨e1, e2, e3, e4, rfl⟩
            all_goals
              go_wp2_with fail
              go_meet
              case rel => exact ⟨rfl, rfl⟩
          case rest =>
            obtain ⟨rfl, rfl⟩ := hcut
            clear hex
            have HLE := fun W => letter_any s[j + 1] W
            have HDG := fun W => digit_any s[j + 1] W
            rcases unhide HNC with ⟨e1, e2⟩ | ⟨e1, e3, e2⟩ | ⟨e1, e3, e4, e2⟩ | ⟨e1, e3, e4, rfl, e2⟩ | ⟨e1, e3, e4, rfl, e5, e2⟩ | ⟨e1, e3, e4, rfl, e5, e6, e2⟩ | ⟨e1, e3, e4, rfl, e5, e6, e2⟩
            all_goals
              rw [e2] at HNJ
              try rw [e1] at HLE
              try rw [e3] at HDG
              have HLE' := hide HLE
              have HDG' := hide HDG
              clear HLE HDG e2 HNC
              try clear e3
              clear e1
              try have e7 : ((s[j + 1].toNat : Int) != 46) = true := by simp only [bne, e4, Bool.not_false]
              try have e7 : ((s[j + 1].toNat : Int) != 46) = false := by simp only [bne, e4, Bool.not_true]
              go_wp2_with (first | (go_at_call 60; refine (unhide HLE' _).mono ?_; rintro e w' ⟨rfl, rfl⟩) | (go_at_call 61; refine (unhide HDG' _).mono ?_; rintro e w' ⟨rfl, rfl⟩))
              first
              | (go_roundg (s.size - (j + 1))
                 case measure => omega
                 case rel =>
                   refine ⟨j + 1, rfl, by go_num, by omega, fun h => ?_, by first | rfl | trivial⟩
                   have := unhide HNJ
                   simp only [if_true] at this
                   rw [← this]; omega)
              | (try rw [Exit.noGoto_ret]
                 go_ret
                 have := unhide HNJ
                 simp at this
                 exact ⟨by rw [← this]; go_num, by first | rfl | trivial⟩)
        · rw [drop_end s (j + 1) (by omega), Tk.nuL] at hnj
          have HN := hide hnj
          have j1 : ¬ (j : Int) + 1 < (s.size : Int) := by omega
          have j5 : (0 : Int) < (j : Int) + 1 := by omega
          clear hnj hno
          go_wp2
          go_ret
          have := unhide HN
          exact ⟨by rw [← this]; go_num, rfl⟩
  · rw [hdg] at HD0
    have HD := hide HD0
    clear HD0 hdg
    rcases hcs with hl | ⟨i1, h46⟩ | ⟨i1, h46, h1, hdg1⟩
    · go_enter Tryd.func46, Tryd.ntmps46
      go_wp2_with (go_at_call 61; refine (unhide HD _).mono ?_; rintro e w' ⟨rfl, hw'⟩; obtain rfl := hw'.symm)
      go_loopg [3] 1 (fun gk i wr => i = .int .i64 0 ∧ wr = w)
      case atStart => exact ⟨rfl, rfl⟩
      case round =>
        obtain ⟨rfl, rfl⟩ := hrel
        go_wp2
        go_ret
        exact ⟨by rw [unhide hz]; rfl, rfl⟩
    · go_enter Tryd.func46, Tryd.ntmps46
      go_wp2_with (go_at_call 61; refine (unhide HD _).mono ?_; rintro e w' ⟨rfl, hw'⟩; obtain rfl := hw'.symm)
      go_loopg [3] 1 (fun gk i wr => i = .int .i64 0 ∧ wr = w)
      case atStart => exact ⟨rfl, rfl⟩
      case round =>
        obtain ⟨rfl, rfl⟩ := hrel
        go_wp2
        go_ret
        exact ⟨by rw [unhide hz]; rfl, rfl⟩
    · have i2 : 1 < s.size := h1
      have HD1 := fun W => digit_any s[1] W
      rw [hdg1] at HD1
      have HDD := hide HD1
      clear HD1 hdg1
      go_enter Tryd.func46, Tryd.ntmps46
      go_wp2_with (go_at_call 61; first | (refine (unhide HD _).mono ?_; rintro e w' ⟨rfl, hw'⟩; obtain rfl := hw'.symm) | (refine (unhide HDD _).mono ?_; rintro e w' ⟨rfl, hw'⟩; obtain rfl := hw'.symm))
      go_loopg [3] 1 (fun gk i wr => i = .int .i64 0 ∧ wr = w)
      case atStart => exact ⟨rfl, rfl⟩
      case round =>
        obtain ⟨rfl, rfl⟩ := hrel
        go_wp2
        go_ret
        exact ⟨by rw [unhide hz]; rfl, rfl⟩
end Go.Proofs.YtaoekfokpbebfaaDoor
