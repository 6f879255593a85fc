/-
  token.measure: the kind and the size of the token that a text begins with.
-/
import Derived.Test.YtmpkgjonbjpohaaGreatDoorPa
namespace Go.Proofs.YtmpkgjonbjpohaaGreatDoor
open Go Go.RowKit
set_option linter.unusedVariables false
set_option linter.unusedSimpArgs false

theorem ms_nu (s : ByteArray) (h0 : 0 < s.size) (h : (Tk.dg s[0] || (s[0] == 46 && Tk.dig1 (s.data.toList.drop 1))) = true) : Tk.ms s.data.toList = (2, Tk.nuL s[0] (s.data.toList.drop 1) + 1) := by
  have hd := drop_at s 0 h0
  simp only [List.drop_zero, Nat.zero_add] at hd
  rw [hd, Tk.ms, ← hd, if_pos h]
theorem ms_rest (s : ByteArray) (h0 : 0 < s.size) (h : (Tk.dg s[0] || (s[0] == 46 && Tk.dig1 (s.data.toList.drop 1))) = false) : Tk.ms s.data.toList =
    if Tk.nm s[0] then (1, Tk.nmL (s.data.toList.drop 1) + 1) else if s[0] = 39 then (3, qz s h0) else if s[0] = 34 then (4, qz s h0)
    else if 0 < Tk.sgL s.data.toList then (5, Tk.sgL s.data.toList) else (6, 1) := by
  have hd := drop_at s 0 h0
  simp only [List.drop_zero, Nat.zero_add] at hd
  conv => lhs; rw [hd, Tk.ms, ← hd]
  rw [if_neg (by rw [h]; decide)]
  unfold qz
  split
  · rfl
  · by_cases h39 : s[0] = 39
    · simp [h39]
    · by_cases h34 : s[0] = 34
      · simp [h34]
      · simp [h39, h34]

def cas (N : Bool) (x : Int) (nm q sg : Nat) : Nat × Nat := if N then (1, nm) else if x == 39 then (3, q) else if x == 34 then (4, q) else if 0 < sg then (5, sg) else (6, 1)
def pairV (p : Nat × Nat) : Value := .tuple #[.int .i64 (p.1 : Nat), .int .i64 (p.2 : Nat)]
set_option maxHeartbeats 16000000 in
theorem measure_x (s : ByteArray) (w : World) (h0 : 0 < s.size) (hs : s.size ≤ 140737488355328) (D N : Bool) (nu nm q sg : Nat)
    (HD : Hid (∀ w, Calls Tryz.prog 140 #[.int .u8 (s[0].toNat : Int)] w fun e w' => e = .returned (.bool D) ∧ w' = w))
    (HN : Hid (Calls Tryz.prog 142 #[.int .u8 (s[0].toNat : Int)] w fun e w' => e = .returned (.bool N) ∧ w' = w))
    (HNU : Hid (Calls Tryz.prog 141 #[.string s] w fun e w' => e = .returned (.int .i64 (nu : Nat)) ∧ ∃ m, w' = w.drewN m))
    (HNM : Hid (Calls Tryz.prog 143 #[.string s] w fun e w' => e = .returned (.int .i64 (nm : Nat)) ∧ w' = w))
    (HQU : Hid (Calls Tryz.prog 144 #[.string s] w fun e w' => e = .returned (.int .i64 (q : Nat)) ∧ w' = w))
    (HSG : Hid (Calls Tryz.prog 145 #[.string s] w fun e w' => e = .returned (.int .i64 (sg : Nat)) ∧ w' = w))
    (B : Bool) (hB : (B = false ∧ ¬ 1 < s.size) ∨ (B = false ∧ 1 < s.size ∧ ((s[0].toNat : Int) == 46) = false) ∨
      (1 < s.size ∧ ((s[0].toNat : Int) == 46) = true ∧ ∃ h : 1 < s.size, Hid (Calls Tryz.prog 140 #[.int .u8 (s[1].toNat : Int)] w fun e w' => e = .returned (.bool B) ∧ w' = w))) :
    Calls Tryz.prog 129 #[.string s] w fun e w' => e = .returned (pairV (if D || B then (2, nu) else cas N (s[0].toNat : Int) nm q sg)) ∧ ∃ m, w' = w.drewN m := by
  have i0 : (0 : Int) < (s.size : Int) := by omega
  cases D
  · have hcs : (B = true ∧ (1 : Int) < (s.size : Int) ∧ ((s[0].toNat : Int) == 46) = true ∧ ∃ h : 1 < s.size, Hid (Calls Tryz.prog 140 #[.int .u8 (s[1].toNat : Int)] w fun e w' => e = .returned (.bool B) ∧ w' = w)) ∨
        (B = false ∧ (decide ((1 : Int) < (s.size : Int)) = false ∨ ((1 : Int) < (s.size : Int) ∧ ((s[0].toNat : Int) == 46) = false) ∨
        ((1 : Int) < (s.size : Int) ∧ ((s[0].toNat : Int) == 46) = true ∧ ∃ h : 1 < s.size, Hid (Calls Tryz.prog 140 #[.int .u8 (s[1].toNat : Int)] w fun e w' => e = .returned (.bool B) ∧ w' = w)))) := by
      rcases hB with ⟨h1, h2⟩ | ⟨h1, h2, h3⟩ | ⟨h1, h2, h3⟩
      · exact .inr ⟨h1, .inl (decide_eq_false (by omega))⟩
      · exact .inr ⟨h1, .inr (.inl ⟨by omega, h3⟩)⟩
      · cases B
        · exact .inr ⟨rfl, .inr (.inr ⟨by omega, h2, h3⟩)⟩
        · exact .inl ⟨rfl, by omega, h2, h3⟩
    clear hB
    rcases hcs with ⟨rfl, i1, h46, h1', HB⟩ | ⟨rfl, hcs⟩
    · have i2 : 1 < s.size := h1'
      go_enter Tryz.func129, Tryz.ntmps129
      go_wp2_with (first | (go_at_call 140; first | (with_reducible refine (unhide HB).mono ?_; rintro e w' ⟨rfl, rfl⟩) | (with_reducible refine (unhide HD _).mono ?_; rintro e w' ⟨rfl, rfl⟩)) | (go_at_call 141; refine (unhide HNU).mono ?_; rintro e w' ⟨rfl, m, rfl⟩))
      go_ret2
      exact ⟨rfl, m, rfl⟩
    · have hcas : (N = true ∧ cas N (s[0].toNat : Int) nm q sg = (1, nm)) ∨ (N = false ∧ ((s[0].toNat : Int) == 39) = true ∧ cas N (s[0].toNat : Int) nm q sg = (3, q)) ∨
          (N = false ∧ ((s[0].toNat : Int) == 39) = false ∧ ((s[0].toNat : Int) == 34) = true ∧ cas N (s[0].toNat : Int) nm q sg = (4, q)) ∨
          (N = false ∧ ((s[0].toNat : Int) == 39) = false ∧ ((s[0].toNat : Int) == 34) = false ∧ 0 < sg ∧ cas N (s[0].toNat : Int) nm q sg = (5, sg)) ∨
          (N = false ∧ ((s[0].toNat : Int) == 39) = false ∧ ((s[0].toNat : Int) == 34) = false ∧ sg = 0 ∧ cas N (s[0].toNat : Int) nm q sg = (6, 1)) := by
        unfold cas
        cases N
        · cases h39 : ((s[0].toNat : Int) == 39)
          · cases h34 : ((s[0].toNat : Int) == 34)
            · by_cases hs0 : 0 < sg
              · simp [hs0]
              · simp [hs0]; omega
            · simp
          · simp
        · simp
      rw [show (if (false || false) = true then (2, nu) else cas N (s[0].toNat : Int) nm q sg) = cas N (s[0].toNat : Int) nm q sg from rfl]
      generalize cas N (s[0].toNat : Int) nm q sg = C at *
      rcases hcs with hsz | ⟨i1, h46⟩ | ⟨i1, h46, h1', HB⟩
      · rcases hcas with ⟨rfl, rfl⟩ | ⟨rfl, h39, rfl⟩ | ⟨rfl, h39, h34, rfl⟩ | ⟨rfl, h39, h34, hsg, rfl⟩ | ⟨rfl, h39, h34, rfl, rfl⟩
        all_goals
          go_enter Tryz.func129, Tryz.ntmps129
          go_wp2_with (first | (go_at_call 140; refine (unhide HD _).mono ?_; rintro e w' ⟨rfl, rfl⟩) | (go_at_call 142; refine (unhide HN).mono ?_; rintro e w' ⟨rfl, rfl⟩) | (go_at_call 143; refine (unhide HNM).mono ?_; rintro e w' ⟨rfl, rfl⟩) | (go_at_call 144; refine (unhide HQU).mono ?_; rintro e w' ⟨rfl, rfl⟩) | (go_at_call 145; refine (unhide HSG).mono ?_; rintro e w' ⟨rfl, rfl⟩))
          go_ret2
          exact ⟨rfl, 0, rfl⟩
      · rcases hcas with ⟨rfl, rfl⟩ | ⟨rfl, h39, rfl⟩ | ⟨rfl, h39, h34, rfl⟩ | ⟨rfl, h39, h34, hsg, rfl⟩ | ⟨rfl, h39, h34, rfl, rfl⟩
        all_goals
          go_enter Tryz.func129, Tryz.ntmps129
          go_wp2_with (first | (go_at_call 140; refine (unhide HD _).mono ?_; rintro e w' ⟨rfl, rfl⟩) | (go_at_call 142; refine (unhide HN).mono ?_; rintro e w' ⟨rfl, rfl⟩) | (go_at_call 143; refine (unhide HNM).mono ?_; rintro e w' ⟨rfl, rfl⟩) | (go_at_call 144; refine (unhide HQU).mono ?_; rintro e w' ⟨rfl, rfl⟩) | (go_at_call 145; refine (unhide HSG).mono ?_; rintro e w' ⟨rfl, rfl⟩))
          go_ret2
          exact ⟨rfl, 0, rfl⟩
      · have i2 : 1 < s.size := h1'
        rcases hcas with ⟨rfl, rfl⟩ | ⟨rfl, h39, rfl⟩ | ⟨rfl, h39, h34, rfl⟩ | ⟨rfl, h39, h34, hsg, rfl⟩ | ⟨rfl, h39, h34, rfl, rfl⟩
        all_goals
          go_enter Tryz.func129, Tryz.ntmps129
          go_wp2_with (first | (go_at_call 140; first | (with_reducible refine (unhide HB).mono ?_; rintro e w' ⟨rfl, rfl⟩) | (with_reducible refine (unhide HD _).mono ?_; rintro e w' ⟨rfl, rfl⟩)) | (go_at_call 142; refine (unhide HN).mono ?_; rintro e w' ⟨rfl, rfl⟩) | (go_at_call 143; refine (unhide HNM).mono ?_; rintro e w' ⟨rfl, rfl⟩) | (go_at_call 144; refine (unhide HQU).mono ?_; rintro e w' ⟨rfl, rfl⟩) | (go_at_call 145; refine (unhide HSG).mono ?_; rintro e w' ⟨rfl, rfl⟩))
          go_ret2
          exact ⟨rfl, 0, rfl⟩
  · clear hB
    go_enter Tryz.func129, Tryz.ntmps129
    go_wp2_with (first | (go_at_call 140; refine (unhide HD _).mono ?_; rintro e w' ⟨rfl, rfl⟩) | (go_at_call 141; refine (unhide HNU).mono ?_; rintro e w' ⟨rfl, m, rfl⟩))
    go_ret2
    exact ⟨rfl, m, rfl⟩

end Go.Proofs.YtmpkgjonbjpohaaGreatDoor
