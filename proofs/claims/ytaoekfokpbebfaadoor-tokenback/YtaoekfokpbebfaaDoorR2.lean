/-
  The document's own words: Punct, sign of a text.
-/
import Derived.Test.YtaoekfokpbebfaaDoorPz
namespace Go.Proofs.YtaoekfokpbebfaaDoor
open Go Go.RowKit
set_option linter.unusedVariables false
set_option linter.unusedSimpArgs false

/-- Pieces that end in a blank, one behind the other: is a text one of them? -/
def pw (s : List UInt8) : List UInt8 → List UInt8 → Bool
  | _, [] => false
  | cur, c :: r => if c = 32 then (if cur = s then true else pw s [] r) else pw s (cur ++ [c]) r
def pcs : List UInt8 → List UInt8 → List (List UInt8)
  | _, [] => []
  | cur, c :: r => if c = 32 then cur :: pcs [] r else pcs (cur ++ [c]) r
theorem pw_pcs (s : List UInt8) : ∀ l cur, pw s cur l = (pcs cur l).contains s
  | [], cur => rfl
  | c :: r, cur => by
    rw [pw, pcs]
    split
    · rw [List.contains_cons, pw_pcs s r]
      by_cases h : cur = s
      · simp [h]
      · simp [h, Ne.symm h]
    · exact pw_pcs s r _
def SGB : ByteArray := ⟨#[46, 46, 46, 32, 60, 60, 61, 32, 62, 62, 61, 32, 45, 62, 32, 43, 43, 32, 45, 45, 32, 60, 60, 32, 62, 62, 32, 60, 61, 32, 62, 61, 32, 61, 61, 32, 33, 61, 32, 38, 38, 32, 124, 124, 32, 42, 61, 32, 47, 61, 32, 37, 61, 32, 43, 61, 32, 45, 61, 32, 38, 61, 32, 94, 61, 32, 124, 61, 32, 35, 35, 32, 91, 32, 93, 32, 40, 32, 41, 32, 123, 32, 125, 32, 46, 32, 38, 32, 42, 32, 43, 32, 45, 32, 126, 32, 33, 32, 47, 32, 37, 32, 60, 32, 62, 32, 94, 32, 124, 32, 63, 32, 58, 32, 59, 32, 61, 32, 44, 32, 35, 32]⟩
theorem pw_signs (s : List UInt8) : pw s [] SGB.data.toList = Tk.pn s := by
  rw [pw_pcs, Tk.pn, Bool.eq_iff_iff, List.contains_iff_mem, List.contains_iff_mem]
  have h1 : (pcs [] SGB.data.toList).all (fun x => Tk.signs.contains x) = true := by decide +kernel
  have h2 : Tk.signs.all (fun x => (pcs [] SGB.data.toList).contains x) = true := by decide +kernel
  rw [List.all_eq_true] at h1 h2
  exact ⟨fun h => by simpa using h1 s h, fun h => by simpa using h2 s h⟩
theorem ext_data (S : ByteArray) (f k : Nat) : (S.extract f k).data.toList = (S.data.toList.drop f).take (k - f) := by
  rw [ByteArray.data_extract, Array.toList_extract]
theorem ext_snoc (S : ByteArray) (f k : Nat) (hf : f ≤ k) (hk : k < S.size) : (S.data.toList.drop f).take (k + 1 - f) = (S.data.toList.drop f).take (k - f) ++ [S[k]] := by
  have hl : k - f < (S.data.toList.drop f).length := by
    have e : S.data.size = S.size := rfl
    simp; omega
  rw [show k + 1 - f = k - f + 1 by omega, List.take_succ_eq_append_getElem hl]
  congr 2
  rw [List.getElem_drop]
  have : f + (k - f) = k := by omega
  simp only [this]
  rfl

set_option maxRecDepth 100000 in
set_option maxHeartbeats 800000 in
theorem rpunct_x (S s : ByteArray) (w : World) (hS : S = ⟨#[46, 46, 46, 32, 60, 60, 61, 32, 62, 62, 61, 32, 45, 62, 32, 43, 43, 32, 45, 45, 32, 60, 60, 32, 62, 62, 32, 60, 61, 32, 62, 61, 32, 61, 61, 32, 33, 61, 32, 38, 38, 32, 124, 124, 32, 42, 61, 32, 47, 61, 32, 37, 61, 32, 43, 61, 32, 45, 61, 32, 38, 61, 32, 94, 61, 32, 124, 61, 32, 35, 35, 32, 91, 32, 93, 32, 40, 32, 41, 32, 123, 32, 125, 32, 46, 32, 38, 32, 42, 32, 43, 32, 45, 32, 126, 32, 33, 32, 47, 32, 37, 32, 60, 32, 62, 32, 94, 32, 124, 32, 63, 32, 58, 32, 59, 32, 61, 32, 44, 32, 35, 32]⟩) (hz : S.size = 122) (R : Bool) (hR : pw s.data.toList [] S.data.toList = R) :
    Calls Tryd.prog 20 #[.string s] w fun e w' => e = .returned (.bool R) ∧ w' = w := by
  have HR := hide hR
  have HS := hide hS
  clear hR hS
  go_enter Tryd.func20, Tryd.ntmps20
  go_wp2
  go_loopw [3, 4] (fun fv i wr => ∃ k f : Nat, fv = .int .i64 f ∧ i = .int .i64 k ∧ k ≤ 122 ∧ f ≤ k ∧ Hid (pw s.data.toList ((S.data.toList.drop f).take (k - f)) (S.data.toList.drop k) = R) ∧ wr = w) (fun _ i wr => 122 - (intOf i).toNat)
  case atStart => exact ⟨0, 0, rfl, rfl, by omega, by omega, by rw [Hid]; simpa using unhide HR, rfl⟩
  case round =>
    obtain ⟨k, f, rfl, rfl, hk, hfk, hpw, rfl⟩ := hrel
    clear HR
    by_cases hlt : k < 122
    · have i1 : (k : Int) < 122 := by omega
      have hkS : k < S.size := by omega
      have hp := unhide hpw
      rw [drop_at S k hkS, pw] at hp
      by_cases hc : S[k] = 32
      · have hx : ((S[k].toNat : Int) == 32) = true := eq_x hc
        rw [if_pos hc] at hp
        have he : ((S.extract f k).toList == s.toList) = decide ((S.data.toList.drop f).take (k - f) = s.data.toList) := by
          rw [ByteArray.toList_eq, ByteArray.toList_eq, ext_data, Bool.eq_iff_iff]; simp
        have hsl : (Instr.slice 9 (.string S) (some (.int .i64 (f : Int))) (some (.int .i64 (k : Int))) none).run Tryd.prog wr = .ok (.string (S.extract f k)) wr := by
          have := run_slice_string (P := Tryd.prog) (w := wr) 9 S .i64 .i64 (f : Int) (k : Int) Tryd.underlying9 (by omega) (by omega) (by omega)
          simpa using this
        by_cases hq : (S.data.toList.drop f).take (k - f) = s.data.toList
        · rw [if_pos hq] at hp
          rw [decide_eq_true hq] at he
          have HP := hide hp
          have hSS := unhide HS
          clear hp hq hc hpw HS
          subst hSS
          go_wp2
          go_ret
          exact ⟨by rw [← unhide HP]; rfl, rfl⟩
        · rw [if_neg hq] at hp
          rw [decide_eq_false hq] at he
          have HP : Hid (pw s.data.toList ((S.data.toList.drop (k + 1)).take (k + 1 - (k + 1))) (S.data.toList.drop (k + 1)) = R) := by
            rw [Hid, Nat.sub_self, List.take_zero]; exact hp
          have hSS := unhide HS
          clear hp hq hc hpw HS
          subst hSS
          go_wp2
          go_roundw
          case rel => exact ⟨k + 1, k + 1, by go_num, by go_num, by omega, by omega, HP, trivial⟩
          case measure => simp [intOf]; omega
      · have hx : ((S[k].toNat : Int) == 32) = false := ne_x hc
        rw [if_neg hc, ← ext_snoc S f k hfk hkS] at hp
        have HP := hide hp
        have hSS := unhide HS
        clear hp hc hpw HS
        subst hSS
        go_wp2
        go_roundw
        case rel => exact ⟨k + 1, f, by go_num, by go_num, by omega, by omega, HP, trivial⟩
        case measure => simp [intOf]; omega
    · have hp := unhide hpw
      rw [drop_end S k (by omega), pw] at hp
      have HP := hide hp
      clear hp hpw HS
      have i1 : ¬ (k : Int) < 122 := by omega
      go_wp2
      go_ret
      exact ⟨by rw [← unhide HP]; rfl, rfl⟩
theorem rpunct_any (s : ByteArray) (w : World) : Calls Tryd.prog 20 #[.string s] w fun e w' => e = .returned (.bool (Tk.pn s.data.toList)) ∧ w' = w :=
  rpunct_x SGB s w rfl rfl _ (pw_signs _)

set_option maxHeartbeats 800000 in
theorem rsign_any (s : ByteArray) (w : World) (hs : s.size ≤ 140737488355328) :
    Calls Tryd.prog 48 #[.string s] w fun e w' => e = .returned (.int .i64 (Tk.sgL s.data.toList : Nat)) ∧ w' = w := by
  have hlen : s.data.toList.length = s.size := by simp
  have HL := hide hlen
  clear hlen
  have hmin : min (3 : Int) (s.size : Int) = ((min 3 s.size : Nat) : Int) := by omega
  go_enter Tryd.func48, Tryd.ntmps48
  go_wp2
  all_goals
    go_loopw [3] (fun i wr => ∃ k : Nat, i = .int .i64 k ∧ k ≤ 3 ∧ k ≤ s.size ∧ Hid (∀ j, k < j → j ≤ 3 → j ≤ s.size → Tk.pn (s.data.toList.take j) = false) ∧ wr = w) (fun i wr => (intOf i).toNat)
    case atStart => exact ⟨min 3 s.size, by simp only [Value.int.injEq, true_and]; omega, by omega, by omega, fun j h1 h2 h3 => by omega, rfl⟩
    case round =>
      obtain ⟨k, rfl, h3, hk, hno, rfl⟩ := hrel
      have hat := sgL_at (s := s.data.toList) h3 (by rw [unhide HL]; exact hk) (fun j a b c => unhide hno j a b (by rw [unhide HL] at c; exact c))
      by_cases hlt : 0 < k
      · have hp := rpunct_any (s.extract 0 k) wr
        rw [take_min] at hp
        have i1 : (k : Int) ≤ (s.size : Int) := by omega
        cases hc : Tk.pn (s.data.toList.take k)
        · rw [hc] at hp
          have HP := hide hp
          have HC := hide hc
          clear hp hc hat
          go_wp2_with (go_at_call 20; refine (unhide HP).mono ?_; rintro e w' ⟨rfl, rfl⟩)
          go_roundw
          case rel =>
            refine ⟨k - 1, by go_num, by omega, by omega, fun j a b c => ?_, trivial⟩
            by_cases hjk : j = k
            · subst hjk; exact unhide HC
            · exact unhide hno j (by omega) b c
          case measure => simp [intOf]; omega
        · rw [hc] at hp
          have HP := hide hp
          rw [if_neg (by omega), if_pos hc] at hat
          have HA := hide hat
          clear hp hc hat
          go_wp2_with (go_at_call 20; refine (unhide HP).mono ?_; rintro e w' ⟨rfl, rfl⟩)
          go_ret
          exact ⟨by rw [unhide HA]; rfl, rfl⟩
      · rw [if_pos (by omega)] at hat
        have HA := hide hat
        clear hat
        go_wp2
        go_ret
        exact ⟨by rw [unhide HA]; rfl, rfl⟩
end Go.Proofs.YtaoekfokpbebfaaDoor
