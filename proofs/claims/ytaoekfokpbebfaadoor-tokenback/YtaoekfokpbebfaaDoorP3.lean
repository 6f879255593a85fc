/-
  token.nameSize, numberSize, quotedSize, signSize, measure: the kind and the size of the token that a text begins with.
-/
import Derived.Test.YtaoekfokpbebfaaDoorP2
import Derived.Deep.QuietTactic
import Derived.BigQuiet
namespace Go.Proofs.YtaoekfokpbebfaaDoor
open Go Go.RowKit
set_option linter.unusedVariables false
set_option linter.unusedSimpArgs false

theorem drop_at (s : ByteArray) (k : Nat) (h : k < s.size) : s.data.toList.drop k = s[k] :: s.data.toList.drop (k + 1) := by
  have hl : k < s.data.toList.length := by simpa using h
  rw [List.drop_eq_getElem_cons hl]
  congr 1
theorem drop_end (s : ByteArray) (k : Nat) (h : s.size ≤ k) : s.data.toList.drop k = [] := List.drop_eq_nil_of_le (by simpa using h)

set_option maxHeartbeats 800000 in
theorem nameSize_any (s : ByteArray) (w : World) (hs : s.size ≤ maxLen) (h0 : 0 < s.size) :
    Calls Tryd.prog 57 #[.string s] w fun e w' => e = .returned (.int .i64 ((Tk.nmL (s.data.toList.drop 1) + 1 : Nat) : Int)) ∧ w' = w := by
  have hs' : s.size ≤ 2 ^ 63 - 1 := hs
  go_enter Tryd.func57, Tryd.ntmps57
  go_wp2
  go_loopw [3] (fun i wr => ∃ k : Nat, i = .int .i64 k ∧ 1 ≤ k ∧ k ≤ s.size ∧ Hid (Tk.nmL (s.data.toList.drop 1) + 1 = k + Tk.nmL (s.data.toList.drop k)) ∧ wr = w) (fun i wr => s.size - (intOf i).toNat)
  case atStart => exact ⟨1, rfl, by omega, by omega, by rw [Hid]; omega, rfl⟩
  case round =>
    obtain ⟨k, rfl, h1, hk, hno, rfl⟩ := hrel
    by_cases hlt : k < s.size
    · have i1 : (k : Int) < (s.size : Int) := by omega
      have hd := drop_at s k hlt
      have hin := inName_any s[k] wr
      have hst : Tk.nmL (s.data.toList.drop k) = if Tk.nm s[k] then Tk.nmL (s.data.toList.drop (k + 1)) + 1 else 0 := by rw [hd, Tk.nmL]
      have HST := hide hst
      clear hst hd
      cases hc : Tk.nm s[k]
      · rw [hc] at hin HST
        clear hc
        have HI := hide hin
        clear hin
        go_wp2_with (go_at_call 56; refine (unhide HI).mono ?_; rintro e w' ⟨rfl, rfl⟩)
        go_ret
        have := unhide HST
        have h2 := unhide hno
        simp at this
        exact ⟨by rw [h2, this]; rfl, rfl⟩
      · rw [hc] at hin HST
        clear hc
        have HI := hide hin
        clear hin
        go_wp2_with (go_at_call 56; refine (unhide HI).mono ?_; rintro e w' ⟨rfl, rfl⟩)
        go_roundw
        case rel =>
          refine ⟨k + 1, by go_num, by omega, by omega, ?_, trivial⟩
          have := unhide HST
          have h2 := unhide hno
          simp only [if_true] at this
          rw [Hid, h2, this]; omega
        case measure => simp [intOf]; omega
    · have hn := drop_end s k (by omega)
      have HN := hide hn
      clear hn
      go_wp2
      go_ret
      have h2 := unhide hno
      exact ⟨by rw [h2, unhide HN]; rfl, rfl⟩

theorem drewN2 (w : World) (m n : Nat) : (w.drewN m).drewN n = w.drewN (m + n) := World.drewN_drewN w m n
theorem Hdrew {w wr : World} {m n : Nat} (h : Hid (wr = w.drewN m)) : wr.drewN n = w.drewN (m + n) := by rw [unhide h]; exact World.drewN_drewN w m n
theorem quiet_same {P : Program} {f : Nat} {args : Array Value} {w : World} {v : Value} (h : Calls P f args w fun e w' => e = .returned v ∧ w' = w) : Calls P f args w fun e w' => e = .returned v ∧ ∃ m, w' = w.drewN m :=
  h.mono fun e w' ⟨h1, h2⟩ => ⟨h1, 0, h2⟩

set_option maxHeartbeats 800000 in
theorem numberSize_any (s : ByteArray) (w : World) (hs : s.size ≤ maxLen) (h0 : 0 < s.size) :
    Calls Tryd.prog 55 #[.string s] w fun e w' => e = .returned (.int .i64 ((Tk.nuL s[0] (s.data.toList.drop 1) + 1 : Nat) : Int)) ∧ ∃ m, w' = w.drewN m := by
  have hs' : s.size ≤ 2 ^ 63 - 1 := hs
  generalize hR : Tk.nuL s[0] (s.data.toList.drop 1) + 1 = R
  have HR := hide hR
  clear hR
  go_enter Tryd.func55, Tryd.ntmps55
  go_wp2
  go_loopw [3] (fun i wr => ∃ j m : Nat, i = .int .i64 ((j : Int) + 1) ∧ j < s.size ∧ Hid (∀ h : j < s.size, Tk.nuL s[j] (s.data.toList.drop (j + 1)) + 1 + j = R) ∧ Hid (wr = w.drewN m)) (fun i wr => s.size - (intOf i).toNat)
  case atStart => exact ⟨0, 0, rfl, by omega, fun _ => unhide HR, hide rfl⟩
  case round =>
    obtain ⟨j, m, rfl, hj, hno, hwm⟩ := hrel
    have hnj := unhide hno hj
    by_cases hlt : j + 1 < s.size
    · have i1 : (j : Int) + 1 < (s.size : Int) := by omega
      have i2 : (j : Int) < (s.size : Int) := by omega
      have i3 : (0 : Int) ≤ (j : Int) + 1 := by omega
      have i4 : IntKind.i64.wrap (j : Int) = (j : Int) := by rw [IntKind.wrap_i64]; omega
      have hd := drop_at s (j + 1) hlt
      have hin := fun W => inNumber_any s[j] s[j + 1] W
      rw [hd, Tk.nuL] at hnj
      have HST := hide hnj
      clear hnj hd hno
      cases hc : Tk.nu s[j] s[j + 1]
      · rw [hc] at HST
        simp only [hc] at hin
        clear hc
        have HI := hide hin
        clear hin
        go_upto_region 2 with fail
        go_quiet ((go_at_call 62; exact Calls.quiet_of_same (unhide HI _)))
        go_wp2
        go_ret
        have := unhide HST
        simp at this
        exact ⟨by rw [← this]; go_num, _, Hdrew hwm⟩
      · rw [hc] at HST
        simp only [hc] at hin
        clear hc
        have HI := hide hin
        clear hin
        go_upto_region 2 with fail
        go_quiet ((go_at_call 62; exact Calls.quiet_of_same (unhide HI _)))
        go_wp2
        go_roundw
        case rel =>
          refine ⟨j + 1, _, by go_num, by omega, fun h => ?_, hide (Hdrew hwm)⟩
          have := unhide HST
          simp only [if_true] at this
          rw [← this]; omega
        case measure => simp [intOf]; omega
    · have hn := drop_end s (j + 1) (by omega)
      rw [hn, Tk.nuL] at hnj
      have HN := hide hnj
      have i1 : ¬ (j : Int) + 1 < (s.size : Int) := by omega
      clear hn hnj hno
      go_upto_region 2 with fail
      go_quiet (fail)
      go_wp2
      go_ret
      have := unhide HN
      exact ⟨by rw [← this]; go_num, _, Hdrew hwm⟩
end Go.Proofs.YtaoekfokpbebfaaDoor
