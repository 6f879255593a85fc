/-
  The document's own words: name, quote, sign of a text.
  The document's own words: Punct, sign of a text.
  The document's own words: number of a text.
  The document's own words: first, the token that begins a text.
-/
import Derived.Test.YtnpjgamfjfmjjaaGreatDoorPa
import Derived.Test.YtnpjgamfjfmjjaaGreatDoorP6
namespace Go.Proofs.YtnpjgamfjfmjjaaGreatDoor
open Go Go.RowKit
set_option linter.unusedVariables false
set_option linter.unusedSimpArgs false

set_option maxHeartbeats 800000 in
theorem digit_x (x : Int) (w : World) : Calls Tryz.prog 102 #[.int .u8 x] w fun e w' => e = .returned (.bool (decide (48 ≤ x) && decide (x ≤ 57))) ∧ w' = w := by
  cases h1 : decide ((48 : Int) ≤ x) <;> cases h2 : decide (x ≤ 57)
  all_goals
    go_enter Tryz.func102, Tryz.ntmps102
    go_wp2
    go_ret
    exact ⟨rfl, rfl⟩
theorem digit_any (c : UInt8) (w : World) : Calls Tryz.prog 102 #[byteV c] w fun e w' => e = .returned (.bool (Tk.dg c)) ∧ w' = w := by
  rw [dg_x]; exact digit_x _ w
set_option maxHeartbeats 800000 in
theorem blank_x (x : Int) (w : World) : Calls Tryz.prog 72 #[.int .u8 x] w fun e w' => e = .returned (.bool (x == 32 || x == 9 || x == 11 || x == 12)) ∧ w' = w := by
  cases h1 : x == 32 <;> cases h2 : x == 9 <;> cases h3 : x == 11 <;> cases h4 : x == 12
  all_goals
    go_enter Tryz.func72, Tryz.ntmps72
    go_wp2
    go_ret
    exact ⟨rfl, rfl⟩
theorem blank_any (c : UInt8) (w : World) : Calls Tryz.prog 72 #[byteV c] w fun e w' => e = .returned (.bool (Tk.bl c)) ∧ w' = w := by
  rw [bl_x]; exact blank_x _ w
set_option maxHeartbeats 800000 in
theorem letter_x (x : Int) (w : World) : Calls Tryz.prog 101 #[.int .u8 x] w fun e w' => e = .returned (.bool (leX x)) ∧ w' = w := by
  unfold leX
  cases h1 : decide ((97 : Int) ≤ x) <;> cases h2 : decide (x ≤ 122) <;> cases h3 : decide ((65 : Int) ≤ x) <;> cases h4 : decide (x ≤ 90) <;> cases h5 : x == 95
  all_goals
    go_enter Tryz.func101, Tryz.ntmps101
    go_wp2
    go_ret
    exact ⟨rfl, rfl⟩
theorem letter_any (c : UInt8) (w : World) : Calls Tryz.prog 101 #[byteV c] w fun e w' => e = .returned (.bool (Tk.le c)) ∧ w' = w := by
  rw [le_x]; exact letter_x _ w
/-- How many bytes a name has that begins a text. -/
def nmR (s : List UInt8) : Nat := match s with
  | [] => 0
  | c :: r => if Tk.le c then Tk.nmL r + 1 else 0
set_option maxHeartbeats 800000 in
theorem rname_any (s : ByteArray) (w : World) (hs : s.size ≤ maxLen) (h0 : 0 < s.size) :
    Calls Tryz.prog 87 #[.string s] w fun e w' => e = .returned (.int .i64 (nmR s.data.toList : Nat)) ∧ w' = w := by
  have hs' : s.size ≤ 2 ^ 63 - 1 := hs
  have hd0 := drop_at s 0 h0
  simp only [List.drop_zero, Nat.zero_add] at hd0
  have hR : nmR s.data.toList = if Tk.le s[0] then Tk.nmL (s.data.toList.drop 1) + 1 else 0 := by
    conv => lhs; rw [hd0]
    rfl
  generalize nmR s.data.toList = R at *
  have hl := letter_any s[0] w
  have i0 : ((s.size : Int) == 0) = false := by rw [beq_eq_false_iff_ne]; omega
  have i00 : (0 : Int) < (s.size : Int) := by omega
  clear hd0
  cases hc0 : Tk.le s[0]
  · rw [hc0] at hR hl
    have HR := hide hR
    have HL := hide hl
    clear hR hl hc0
    go_enter Tryz.func87, Tryz.ntmps87
    go_wp2_with (go_at_call 101; refine (unhide HL).mono ?_; rintro e w' ⟨rfl, rfl⟩)
    go_ret
    exact ⟨by rw [unhide HR]; rfl, rfl⟩
  · rw [hc0] at hR hl
    simp only [if_true] at hR
    have HR := hide hR
    have HL := hide hl
    clear hR hl hc0
    go_enter Tryz.func87, Tryz.ntmps87
    go_wp2_with (go_at_call 101; refine (unhide HL).mono ?_; rintro e w' ⟨rfl, hw'⟩; obtain rfl := hw'.symm)
    go_loopw [3] (fun i wr => ∃ k : Nat, i = .int .i64 k ∧ 1 ≤ k ∧ k ≤ s.size ∧ Hid (R = k + Tk.nmL (s.data.toList.drop k)) ∧ wr = w) (fun i wr => s.size - (intOf i).toNat)
    case atStart => exact ⟨1, rfl, by omega, by omega, by rw [Hid, unhide HR]; omega, rfl⟩
    case round =>
      obtain ⟨k, rfl, h1, hk, hno, rfl⟩ := hrel
      clear HL
      by_cases hlt : k < s.size
      · have i1 : (k : Int) < (s.size : Int) := by omega
        have hd := drop_at s k hlt
        have hle := letter_any s[k] wr
        have hdg := digit_any s[k] wr
        have hst := unhide hno
        rw [hd, Tk.nmL, Tk.nm] at hst
        have HST := hide hst
        clear hst hd
        cases hc : Tk.le s[k]
        · rw [hc] at hle HST
          cases hc2 : Tk.dg s[k]
          · rw [hc2] at hdg HST
            clear hc hc2
            have HI := hide hle
            have HD := hide hdg
            clear hle hdg
            go_wp2_with (first | (go_at_call 101; refine (unhide HI).mono ?_; rintro e w' ⟨rfl, rfl⟩) | (go_at_call 102; refine (unhide HD).mono ?_; rintro e w' ⟨rfl, rfl⟩))
            go_ret
            have := unhide HST
            simp at this
            exact ⟨by rw [this]; rfl, rfl⟩
          · rw [hc2] at hdg HST
            clear hc hc2
            have HI := hide hle
            have HD := hide hdg
            clear hle hdg
            go_wp2_with (first | (go_at_call 101; refine (unhide HI).mono ?_; rintro e w' ⟨rfl, rfl⟩) | (go_at_call 102; refine (unhide HD).mono ?_; rintro e w' ⟨rfl, rfl⟩))
            go_roundw
            case rel =>
              refine ⟨k + 1, by go_num, by omega, by omega, ?_, trivial⟩
              have := unhide HST
              simp at this
              rw [Hid, this]; omega
            case measure => simp [intOf]; omega
        · rw [hc] at hle HST
          clear hc
          have HI := hide hle
          clear hle hdg
          go_wp2_with (first | (go_at_call 101; refine (unhide HI).mono ?_; rintro e w' ⟨rfl, rfl⟩))
          go_roundw
          case rel =>
            refine ⟨k + 1, by go_num, by omega, by omega, ?_, trivial⟩
            have := unhide HST
            simp at this
            rw [Hid, this]; omega
          case measure => simp [intOf]; omega
      · have hn := drop_end s k (by omega)
        have HN := hide hn
        clear hn
        have i1 : ¬ (k : Int) < (s.size : Int) := by omega
        go_wp2
        go_ret
        have h2 := unhide hno
        exact ⟨by rw [h2, unhide HN]; rfl, rfl⟩

def qr (s : ByteArray) (h : 0 < s.size) : Nat := Tk.up (Tk.quL s[0] false (s.data.toList.drop 1))
set_option maxHeartbeats 1600000 in
theorem rquote_any (s : ByteArray) (w : World) (hs : s.size ≤ 140737488355328) (h0 : 0 < s.size) :
    Calls Tryz.prog 89 #[.string s] w fun e w' => e = .returned (.int .i64 (qr s h0 : Nat)) ∧ ∃ m, w' = w.drewN m := by
  have HZ : Hid (qr s h0 = Tk.up (Tk.quL s[0] false (s.data.toList.drop 1))) := rfl
  generalize qr s h0 = Z at *
  generalize hQ : Tk.quL s[0] false (s.data.toList.drop 1) = Q at *
  have HQ := hide hQ
  clear hQ
  go_enter Tryz.func89, Tryz.ntmps89
  go_wp2
  go_loopw [3] (fun i wr => ∃ k m : Nat, i = .int .i64 k ∧ 1 ≤ k ∧ k ≤ s.size + 1 ∧ Hid (Q = upN (k - 1) (Tk.quL s[0] false (s.data.toList.drop k))) ∧ Hid (wr = w.drewN m)) (fun i wr => s.size + 1 - (intOf i).toNat)
  case atStart => exact ⟨1, 0, rfl, by omega, by omega, by rw [Hid, unhide HQ]; unfold upN; split <;> simp_all, rfl⟩
  case round =>
    obtain ⟨k, m, rfl, h1, hk, hno, hwm⟩ := hrel
    have hnn := unhide hno
    clear hno
    by_cases hlt : k < s.size
    · have i1 : (k : Int) < (s.size : Int) := by omega
      by_cases hc : s[k] = 92
      · rw [qu_esc _ s k hlt hc] at hnn
        have HN := hide hnn
        have hx : ((s[k].toNat : Int) == 92) = true := eq_x hc
        clear hnn hc
        go_wp2
        go_roundw
        case rel => exact ⟨k + 2, m, by go_num, by omega, by omega, by rw [Hid, unhide HN, show k - 1 + 2 = k + 2 - 1 by omega], hwm⟩
        case measure => simp [intOf]; omega
      · have hx : ((s[k].toNat : Int) == 92) = false := ne_x hc
        by_cases hq : s[k] = s[0]
        · rw [qu_end _ s k hlt hc hq] at hnn
          have hy : ((s[k].toNat : Int) == (s[0].toNat : Int)) = true := eq_x hq
          have i00 : (0 : Int) < (s.size : Int) := by omega
          have hz : Hid (Z = k + 1) := by
            have hQk : Q = k := by rw [hnn]; unfold upN; simp; omega
            rw [Hid, unhide HZ, hQk]
            unfold Tk.up; split <;> omega
          clear hq hc hnn
          go_upto_region 6 with fail
          go_quiet (fail)
          go_wp2
          go_ret
          exact ⟨by rw [unhide hz]; go_num, _, Hdrew hwm⟩
        · rw [qu_go _ s k hlt hc hq] at hnn
          have hy : ((s[k].toNat : Int) == (s[0].toNat : Int)) = false := ne_x hq
          have i00 : (0 : Int) < (s.size : Int) := by omega
          have HN := hide hnn
          clear hnn hc hq
          go_upto_region 6 with fail
          go_quiet (fail)
          go_wp2
          go_roundw
          case rel => exact ⟨k + 1, _, by go_num, by omega, by omega, by rw [Hid, unhide HN, show k - 1 + 1 = k + 1 - 1 by omega], hide (Hdrew hwm)⟩
          case measure => simp [intOf]; omega
    · rw [drop_end s k (by omega)] at hnn
      have hz : Hid (Z = 0) := by
        have hQ0 : Q = 0 := hnn
        rw [Hid, unhide HZ, hQ0]; simp [Tk.up]
      have i1 : ¬ (k : Int) < (s.size : Int) := by omega
      clear hnn
      go_wp2
      go_ret
      exact ⟨by rw [unhide hz]; rfl, m, unhide hwm⟩
end Go.Proofs.YtnpjgamfjfmjjaaGreatDoor
namespace Go.Proofs.YtnpjgamfjfmjjaaGreatDoor
open Go Go.RowKit
set_option linter.unusedVariables false
set_option linter.unusedSimpArgs false

/-- Pieces that end in a blank, one behind the other: is a text one of them? -/
def pw (s : List UInt8) : List UInt8 → List UInt8 → Bool
  | _, [] => false
  | cur, c :: r => if c = 32 then (if cur = s then true else pw s [] r) else pw s (cur ++ [c]) r
def pcs : List UInt8 → List UInt8 → List (List UInt8)
  | _, [] => []
  | cur, c :: r => if c = 32 then cur :: pcs [] r else pcs (cur ++ [c]) r
theorem pw_pcs (s : List UInt8) : ∀ l cur, pw s cur l = (pcs cur l).contains s
  | [], cur => rfl
  | c :: r, cur => by
    rw [pw, pcs]
    split
    · rw [List.contains_cons, pw_pcs s r]
      by_cases h : cur = s
      · simp [h]
      · simp [h, Ne.symm h]
    · exact pw_pcs s r _
def SGB : ByteArray := ⟨#[46, 46, 46, 32, 60, 60, 61, 32, 62, 62, 61, 32, 45, 62, 32, 43, 43, 32, 45, 45, 32, 60, 60, 32, 62, 62, 32, 60, 61, 32, 62, 61, 32, 61, 61, 32, 33, 61, 32, 38, 38, 32, 124, 124, 32, 42, 61, 32, 47, 61, 32, 37, 61, 32, 43, 61, 32, 45, 61, 32, 38, 61, 32, 94, 61, 32, 124, 61, 32, 35, 35, 32, 91, 32, 93, 32, 40, 32, 41, 32, 123, 32, 125, 32, 46, 32, 38, 32, 42, 32, 43, 32, 45, 32, 126, 32, 33, 32, 47, 32, 37, 32, 60, 32, 62, 32, 94, 32, 124, 32, 63, 32, 58, 32, 59, 32, 61, 32, 44, 32, 35, 32]⟩
theorem pw_signs (s : List UInt8) : pw s [] SGB.data.toList = Tk.pn s := by
  rw [pw_pcs, Tk.pn, Bool.eq_iff_iff, List.contains_iff_mem, List.contains_iff_mem]
  have h1 : (pcs [] SGB.data.toList).all (fun x => Tk.signs.contains x) = true := by decide +kernel
  have h2 : Tk.signs.all (fun x => (pcs [] SGB.data.toList).contains x) = true := by decide +kernel
  rw [List.all_eq_true] at h1 h2
  exact ⟨fun h => by simpa using h1 s h, fun h => by simpa using h2 s h⟩
theorem ext_data (S : ByteArray) (f k : Nat) : (S.extract f k).data.toList = (S.data.toList.drop f).take (k - f) := by
  rw [ByteArray.data_extract, Array.toList_extract]
theorem ext_snoc (S : ByteArray) (f k : Nat) (hf : f ≤ k) (hk : k < S.size) : (S.data.toList.drop f).take (k + 1 - f) = (S.data.toList.drop f).take (k - f) ++ [S[k]] := by
  have hl : k - f < (S.data.toList.drop f).length := by
    have e : S.data.size = S.size := rfl
    simp; omega
  rw [show k + 1 - f = k - f + 1 by omega, List.take_succ_eq_append_getElem hl]
  congr 2
  rw [List.getElem_drop]
  have : f + (k - f) = k := by omega
  simp only [this]
  rfl

set_option maxRecDepth 100000 in
set_option maxHeartbeats 800000 in
theorem rpunct_x (S s : ByteArray) (w : World) (hS : S = ⟨#[46, 46, 46, 32, 60, 60, 61, 32, 62, 62, 61, 32, 45, 62, 32, 43, 43, 32, 45, 45, 32, 60, 60, 32, 62, 62, 32, 60, 61, 32, 62, 61, 32, 61, 61, 32, 33, 61, 32, 38, 38, 32, 124, 124, 32, 42, 61, 32, 47, 61, 32, 37, 61, 32, 43, 61, 32, 45, 61, 32, 38, 61, 32, 94, 61, 32, 124, 61, 32, 35, 35, 32, 91, 32, 93, 32, 40, 32, 41, 32, 123, 32, 125, 32, 46, 32, 38, 32, 42, 32, 43, 32, 45, 32, 126, 32, 33, 32, 47, 32, 37, 32, 60, 32, 62, 32, 94, 32, 124, 32, 63, 32, 58, 32, 59, 32, 61, 32, 44, 32, 35, 32]⟩) (hz : S.size = 122) (R : Bool) (hR : pw s.data.toList [] S.data.toList = R) :
    Calls Tryz.prog 103 #[.string s] w fun e w' => e = .returned (.bool R) ∧ w' = w := by
  have HR := hide hR
  have HS := hide hS
  clear hR hS
  go_enter Tryz.func103, Tryz.ntmps103
  go_wp2
  go_loopw [3, 4] (fun fv i wr => ∃ k f : Nat, fv = .int .i64 f ∧ i = .int .i64 k ∧ k ≤ 122 ∧ f ≤ k ∧ Hid (pw s.data.toList ((S.data.toList.drop f).take (k - f)) (S.data.toList.drop k) = R) ∧ wr = w) (fun _ i wr => 122 - (intOf i).toNat)
  case atStart => exact ⟨0, 0, rfl, rfl, by omega, by omega, by rw [Hid]; simpa using unhide HR, rfl⟩
  case round =>
    obtain ⟨k, f, rfl, rfl, hk, hfk, hpw, rfl⟩ := hrel
    clear HR
    by_cases hlt : k < 122
    · have i1 : (k : Int) < 122 := by omega
      have hkS : k < S.size := by omega
      have hp := unhide hpw
      rw [drop_at S k hkS, pw] at hp
      by_cases hc : S[k] = 32
      · have hx : ((S[k].toNat : Int) == 32) = true := eq_x hc
        rw [if_pos hc] at hp
        have he : ((S.extract f k).toList == s.toList) = decide ((S.data.toList.drop f).take (k - f) = s.data.toList) := by
          rw [ByteArray.toList_eq, ByteArray.toList_eq, ext_data, Bool.eq_iff_iff]; simp
        have hsl : (Instr.slice 9 (.string S) (some (.int .i64 (f : Int))) (some (.int .i64 (k : Int))) none).run Tryz.prog wr = .ok (.string (S.extract f k)) wr := by
          have := run_slice_string (P := Tryz.prog) (w := wr) 9 S .i64 .i64 (f : Int) (k : Int) Tryz.underlying9 (by omega) (by omega) (by omega)
          simpa using this
        by_cases hq : (S.data.toList.drop f).take (k - f) = s.data.toList
        · rw [if_pos hq] at hp
          rw [decide_eq_true hq] at he
          have HP := hide hp
          have hSS := unhide HS
          clear hp hq hc hpw HS
          subst hSS
          go_wp2
          go_ret
          exact ⟨by rw [← unhide HP]; rfl, rfl⟩
        · rw [if_neg hq] at hp
          rw [decide_eq_false hq] at he
          have HP : Hid (pw s.data.toList ((S.data.toList.drop (k + 1)).take (k + 1 - (k + 1))) (S.data.toList.drop (k + 1)) = R) := by
            rw [Hid, Nat.sub_self, List.take_zero]; exact hp
          have hSS := unhide HS
          clear hp hq hc hpw HS
          subst hSS
          go_wp2
          go_roundw
          case rel => exact ⟨k + 1, k + 1, by go_num, by go_num, by omega, by omega, HP, trivial⟩
          case measure => simp [intOf]; omega
      · have hx : ((S[k].toNat : Int) == 32) = false := ne_x hc
        rw [if_neg hc, ← ext_snoc S f k hfk hkS] at hp
        have HP := hide hp
        have hSS := unhide HS
        clear hp hc hpw HS
        subst hSS
        go_wp2
        go_roundw
        case rel => exact ⟨k + 1, f, by go_num, by go_num, by omega, by omega, HP, trivial⟩
        case measure => simp [intOf]; omega
    · have hp := unhide hpw
      rw [drop_end S k (by omega), pw] at hp
      have HP := hide hp
      clear hp hpw HS
      have i1 : ¬ (k : Int) < 122 := by omega
      go_wp2
      go_ret
      exact ⟨by rw [← unhide HP]; rfl, rfl⟩
theorem rpunct_any (s : ByteArray) (w : World) : Calls Tryz.prog 103 #[.string s] w fun e w' => e = .returned (.bool (Tk.pn s.data.toList)) ∧ w' = w :=
  rpunct_x SGB s w rfl rfl _ (pw_signs _)

set_option maxHeartbeats 800000 in
theorem rsign_any (s : ByteArray) (w : World) (hs : s.size ≤ 140737488355328) :
    Calls Tryz.prog 90 #[.string s] w fun e w' => e = .returned (.int .i64 (Tk.sgL s.data.toList : Nat)) ∧ w' = w := by
  have hlen : s.data.toList.length = s.size := by simp
  have HL := hide hlen
  clear hlen
  have hmin : min (3 : Int) (s.size : Int) = ((min 3 s.size : Nat) : Int) := by omega
  go_enter Tryz.func90, Tryz.ntmps90
  go_wp2
  all_goals
    go_loopw [3] (fun i wr => ∃ k : Nat, i = .int .i64 k ∧ k ≤ 3 ∧ k ≤ s.size ∧ Hid (∀ j, k < j → j ≤ 3 → j ≤ s.size → Tk.pn (s.data.toList.take j) = false) ∧ wr = w) (fun i wr => (intOf i).toNat)
    case atStart => exact ⟨min 3 s.size, by simp only [Value.int.injEq, true_and]; omega, by omega, by omega, fun j h1 h2 h3 => by omega, rfl⟩
    case round =>
      obtain ⟨k, rfl, h3, hk, hno, rfl⟩ := hrel
      have hat := sgL_at (s := s.data.toList) h3 (by rw [unhide HL]; exact hk) (fun j a b c => unhide hno j a b (by rw [unhide HL] at c; exact c))
      by_cases hlt : 0 < k
      · have hp := rpunct_any (s.extract 0 k) wr
        rw [take_min] at hp
        have i1 : (k : Int) ≤ (s.size : Int) := by omega
        cases hc : Tk.pn (s.data.toList.take k)
        · rw [hc] at hp
          have HP := hide hp
          have HC := hide hc
          clear hp hc hat
          go_wp2_with (go_at_call 103; refine (unhide HP).mono ?_; rintro e w' ⟨rfl, rfl⟩)
          go_roundw
          case rel =>
            refine ⟨k - 1, by go_num, by omega, by omega, fun j a b c => ?_, trivial⟩
            by_cases hjk : j = k
            · subst hjk; exact unhide HC
            · exact unhide hno j (by omega) b c
          case measure => simp [intOf]; omega
        · rw [hc] at hp
          have HP := hide hp
          rw [if_neg (by omega), if_pos hc] at hat
          have HA := hide hat
          clear hp hc hat
          go_wp2_with (go_at_call 103; refine (unhide HP).mono ?_; rintro e w' ⟨rfl, rfl⟩)
          go_ret
          exact ⟨by rw [unhide HA]; rfl, rfl⟩
      · rw [if_pos (by omega)] at hat
        have HA := hide hat
        clear hat
        go_wp2
        go_ret
        exact ⟨by rw [unhide HA]; rfl, rfl⟩
end Go.Proofs.YtnpjgamfjfmjjaaGreatDoor
namespace Go.Proofs.YtnpjgamfjfmjjaaGreatDoor
open Go Go.RowKit
set_option linter.unusedVariables false
set_option linter.unusedSimpArgs false

/-- How many bytes a number has that begins a text. -/
def nuR (s : List UInt8) : Nat := match s with
  | [] => 0
  | c :: r => if Tk.dg c || (c == 46 && Tk.dig1 r) then Tk.nuL c r + 1 else 0
theorem nu_dot (d : UInt8) (h : Tk.dg d = true) : Tk.nu 46 d = true := by
  unfold Tk.nu Tk.nm
  rw [h]
  have h1 : (d == 43) = false := by rw [beq_eq_false_iff_ne]; rintro rfl; revert h; decide
  have h2 : (d == 45) = false := by rw [beq_eq_false_iff_ne]; rintro rfl; revert h; decide
  simp [h1, h2]
/-- What the byte ahead may be, and what the byte is. -/
theorem ex_cases (a : UInt8) : ((a.toNat : Int) == 101) = true ∧ Tk.ex a = true ∨ ((a.toNat : Int) == 101) = false ∧ ((a.toNat : Int) == 69) = true ∧ Tk.ex a = true ∨
    ((a.toNat : Int) == 101) = false ∧ ((a.toNat : Int) == 69) = false ∧ ((a.toNat : Int) == 112) = true ∧ Tk.ex a = true ∨
    ((a.toNat : Int) == 101) = false ∧ ((a.toNat : Int) == 69) = false ∧ ((a.toNat : Int) == 112) = false ∧ ((a.toNat : Int) == 80) = true ∧ Tk.ex a = true ∨
    ((a.toNat : Int) == 101) = false ∧ ((a.toNat : Int) == 69) = false ∧ ((a.toNat : Int) == 112) = false ∧ ((a.toNat : Int) == 80) = false ∧ Tk.ex a = false := by
  have e : Tk.ex a = (((a.toNat : Int) == 101) || ((a.toNat : Int) == 69) || ((a.toNat : Int) == 112) || ((a.toNat : Int) == 80)) := by
    unfold Tk.ex; rw [byte_eq, byte_eq, byte_eq, byte_eq]; rfl
  rw [e]
  generalize ((a.toNat : Int) == 101) = A
  generalize ((a.toNat : Int) == 69) = B
  generalize ((a.toNat : Int) == 112) = C
  generalize ((a.toNat : Int) == 80) = D
  cases A <;> cases B <;> cases C <;> cases D <;> simp
theorem nu_cases (E : Bool) (a c : UInt8) (hE : Tk.ex a = E) : Tk.le c = true ∧ Tk.nu a c = true ∨ Tk.le c = false ∧ Tk.dg c = true ∧ Tk.nu a c = true ∨
    Tk.le c = false ∧ Tk.dg c = false ∧ ((c.toNat : Int) == 46) = true ∧ Tk.nu a c = true ∨
    Tk.le c = false ∧ Tk.dg c = false ∧ ((c.toNat : Int) == 46) = false ∧ E = false ∧ Tk.nu a c = false ∨
    Tk.le c = false ∧ Tk.dg c = false ∧ ((c.toNat : Int) == 46) = false ∧ E = true ∧ ((c.toNat : Int) == 43) = true ∧ Tk.nu a c = true ∨
    Tk.le c = false ∧ Tk.dg c = false ∧ ((c.toNat : Int) == 46) = false ∧ E = true ∧ ((c.toNat : Int) == 43) = false ∧ ((c.toNat : Int) == 45) = true ∧ Tk.nu a c = true ∨
    Tk.le c = false ∧ Tk.dg c = false ∧ ((c.toNat : Int) == 46) = false ∧ E = true ∧ ((c.toNat : Int) == 43) = false ∧ ((c.toNat : Int) == 45) = false ∧ Tk.nu a c = false := by
  have e46 : ((c.toNat : Int) == 46) = (c == 46) := (byte_eq c 46).symm
  have e43 : ((c.toNat : Int) == 43) = (c == 43) := (byte_eq c 43).symm
  have e45 : ((c.toNat : Int) == 45) = (c == 45) := (byte_eq c 45).symm
  rw [e46, e43, e45]
  have hpm : (c == 43 || c == 45) = true → Tk.le c = false ∧ Tk.dg c = false ∧ (c == 46) = false := by
    intro h
    rw [Bool.or_eq_true, beq_iff_eq, beq_iff_eq] at h
    rcases h with rfl | rfl <;> decide
  unfold Tk.nu Tk.nm
  rw [hE]
  generalize hA : (c == 43) = A at *
  generalize hB : (c == 45) = B at *
  generalize hC : (c == 46) = C at *
  generalize hD : Tk.le c = D at *
  generalize hF : Tk.dg c = F at *
  cases A <;> cases B <;> cases C <;> cases D <;> cases F <;> cases E <;> simp_all

set_option maxRecDepth 100000 in
set_option maxHeartbeats 8000000 in
theorem rnumber_any (s : ByteArray) (w : World) (hs : s.size ≤ maxLen) (h0 : 0 < s.size) :
    Calls Tryz.prog 88 #[.string s] w fun e w' => e = .returned (.int .i64 (nuR s.data.toList : Nat)) ∧ w' = w := by
  have hs' : s.size ≤ 2 ^ 63 - 1 := hs
  have hd0 := drop_at s 0 h0
  simp only [List.drop_zero, Nat.zero_add] at hd0
  have hR : nuR s.data.toList = if Tk.dg s[0] || (s[0] == 46 && Tk.dig1 (s.data.toList.drop 1)) then Tk.nuL s[0] (s.data.toList.drop 1) + 1 else 0 := by
    conv => lhs; rw [hd0]
    rfl
  generalize nuR s.data.toList = R at *
  have e46 : ((s[0].toNat : Int) == 46) = (s[0] == 46) := (byte_eq s[0] 46).symm
  have i00 : (0 : Int) < (s.size : Int) := by omega
  have hcs : (Tk.dg s[0] = true ∧ ((decide ((1 : Int) < (s.size : Int)) = false) ∨ ((1 : Int) < (s.size : Int) ∧ ((s[0].toNat : Int) == 46) = false)) ∧ Hid (∀ h : 0 < s.size, Tk.nuL s[0] (s.data.toList.drop (0 + 1)) + 1 + 0 = R)) ∨
      (Tk.dg s[0] = false ∧ (1 : Int) < (s.size : Int) ∧ ((s[0].toNat : Int) == 46) = true ∧ (∃ h : 1 < s.size, Tk.dg s[1] = true ∧ Hid (∀ h : 1 < s.size, Tk.nuL s[1] (s.data.toList.drop (1 + 1)) + 1 + 1 = R))) ∨
      (Tk.dg s[0] = false ∧ Hid (R = 0) ∧ ((decide ((1 : Int) < (s.size : Int)) = false) ∨ ((1 : Int) < (s.size : Int) ∧ ((s[0].toNat : Int) == 46) = false) ∨ ((1 : Int) < (s.size : Int) ∧ ((s[0].toNat : Int) == 46) = true ∧ ∃ h : 1 < s.size, Tk.dg s[1] = false))) := by
    cases hdg : Tk.dg s[0]
    · rw [hdg] at hR
      simp only [Bool.false_or] at hR
      refine .inr ?_
      by_cases h1 : 1 < s.size
      · have hd1 := drop_at s 1 h1
        rw [hd1, Tk.dig1] at hR
        cases h46 : (s[0] == 46)
        · rw [h46] at hR
          exact .inr ⟨rfl, by rw [Hid, hR]; rfl, .inr (.inl ⟨by omega, by rw [e46, h46]⟩)⟩
        · rw [h46] at hR
          cases hd : Tk.dg s[1]
          · rw [hd] at hR
            exact .inr ⟨rfl, by rw [Hid, hR]; rfl, .inr (.inr ⟨by omega, by rw [e46, h46], h1, hd⟩)⟩
          · rw [hd] at hR
            refine .inl ⟨rfl, by omega, by rw [e46, h46], h1, hd, fun _ => ?_⟩
            have h46' : s[0] = 46 := by simpa using h46
            rw [hR, h46']
            simp only [Bool.and_self, if_true]
            rw [Tk.nuL, nu_dot _ hd, if_pos rfl]
      · have hd1 := drop_end s 1 (by omega)
        rw [hd1] at hR
        simp only [Tk.dig1, Bool.and_false] at hR
        exact .inr ⟨rfl, by rw [Hid, hR]; rfl, .inl (decide_eq_false (by omega))⟩
    · rw [hdg] at hR
      simp only [Bool.true_or, if_true] at hR
      refine .inl ⟨rfl, ?_, fun _ => by rw [hR]⟩
      by_cases h1 : 1 < s.size
      · refine .inr ⟨by omega, ?_⟩
        rw [e46, beq_eq_false_iff_ne]
        intro hh
        rw [hh] at hdg
        revert hdg; decide
      · exact .inl (decide_eq_false (by omega))
  clear hR e46 hd0
  have HD0 := fun W => digit_any s[0] W
  -- the loop, from j + 1 on
  rcases hcs with ⟨hdg, hlen, hno⟩ | ⟨hdg, i1, h46, h1, hdg1, hno⟩ | ⟨hdg, hz, hcs⟩
  · rw [hdg] at HD0
    have HD := hide HD0
    clear HD0 hdg
    rcases hlen with hl | ⟨i1, h46⟩
    · have hsz : s.size = 1 := by have := of_decide_eq_false hl; omega
      have hn := unhide hno h0
      rw [drop_end s (0 + 1) (by omega), Tk.nuL] at hn
      have HN := hide hn
      have i2 : ¬ (1 : Int) < (s.size : Int) := by omega
      clear hn hno
      go_enter Tryz.func88, Tryz.ntmps88
      go_wp2_with (go_at_call 102; refine (unhide HD _).mono ?_; rintro e w' ⟨rfl, hw'⟩; obtain rfl := hw'.symm)
      go_loopg [3] 1 (fun gk i wr => i = .int .i64 1 ∧ wr = w)
      case atStart => exact ⟨rfl, rfl⟩
      case round =>
        obtain ⟨rfl, rfl⟩ := hrel
        go_wp2
        go_ret
        exact ⟨by rw [← unhide HN]; rfl, rfl⟩
    · go_enter Tryz.func88, Tryz.ntmps88
      go_wp2_with (go_at_call 102; refine (unhide HD _).mono ?_; rintro e w' ⟨rfl, hw'⟩; obtain rfl := hw'.symm)
      go_loopg [3] s.size (fun gk i wr => ∃ j : Nat, gk = s.size - j ∧ i = .int .i64 ((j : Int) + 1) ∧ j < s.size ∧ Hid (∀ h : j < s.size, Tk.nuL s[j] (s.data.toList.drop (j + 1)) + 1 + j = R) ∧ wr = w)
      case atStart => exact ⟨0, rfl, rfl, by omega, hno, rfl⟩
      case round =>
        obtain ⟨j, rfl, rfl, hj, hno, rfl⟩ := hrel
        clear HD
        have hnj := unhide hno hj
        by_cases hlt : j + 1 < s.size
        · have j1 : (j : Int) + 1 < (s.size : Int) := by omega
          have j2 : (j : Int) < (s.size : Int) := by omega
          have j3 : (0 : Int) ≤ (j : Int) + 1 := by omega
          have j4 : IntKind.i64.wrap (j : Int) = (j : Int) := by rw [IntKind.wrap_i64]; omega
          have j5 : (0 : Int) < (j : Int) + 1 := by omega
          rw [drop_at s (j + 1) hlt, Tk.nuL] at hnj
          have HNJ := hide hnj
          clear hnj hno
          have hex := ex_cases s[j]
          have hnc := nu_cases _ s[j] s[j + 1] rfl
          have HNC := hide hnc
          clear hnc
          generalize Tk.ex s[j] = E at *
          go_upto_region 7 with fail
          go_cut [4] from 26 to 95 (fun c wx => c = .bool E ∧ wx = wr)
          case first =>
            rcases hex with ⟨e1, rfl⟩ | ⟨e1, e2, rfl⟩ | ⟨e1, e2, e3, rfl⟩ | ⟨e1, e2, e3, e4, rfl⟩ | ⟨e1, e2, e3, e4, rfl⟩
            all_goals
              go_wp2_with fail
              go_meet
              case rel => exact ⟨rfl, rfl⟩
          case rest =>
            obtain ⟨rfl, rfl⟩ := hcut
            clear hex
            have HLE := fun W => letter_any s[j + 1] W
            have HDG := fun W => digit_any s[j + 1] W
            rcases unhide HNC with ⟨e1, e2⟩ | ⟨e1, e3, e2⟩ | ⟨e1, e3, e4, e2⟩ | ⟨e1, e3, e4, rfl, e2⟩ | ⟨e1, e3, e4, rfl, e5, e2⟩ | ⟨e1, e3, e4, rfl, e5, e6, e2⟩ | ⟨e1, e3, e4, rfl, e5, e6, e2⟩
            all_goals
              rw [e2] at HNJ
              try rw [e1] at HLE
              try rw [e3] at HDG
              have HLE' := hide HLE
              have HDG' := hide HDG
              clear HLE HDG e2 HNC
              try clear e3
              clear e1
              try have e7 : ((s[j + 1].toNat : Int) != 46) = true := by simp only [bne, e4, Bool.not_false]
              try have e7 : ((s[j + 1].toNat : Int) != 46) = false := by simp only [bne, e4, Bool.not_true]
              go_wp2_with (first | (go_at_call 101; refine (unhide HLE' _).mono ?_; rintro e w' ⟨rfl, rfl⟩) | (go_at_call 102; refine (unhide HDG' _).mono ?_; rintro e w' ⟨rfl, rfl⟩))
              first
              | (go_roundg (s.size - (j + 1))
                 case measure => omega
                 case rel =>
                   refine ⟨j + 1, rfl, by go_num, by omega, fun h => ?_, by first | rfl | trivial⟩
                   have := unhide HNJ
                   simp only [if_true] at this
                   rw [← this]; omega)
              | (try rw [Exit.noGoto_ret]
                 go_ret
                 have := unhide HNJ
                 simp at this
                 exact ⟨by rw [← this]; go_num, by first | rfl | trivial⟩)
        · rw [drop_end s (j + 1) (by omega), Tk.nuL] at hnj
          have HN := hide hnj
          have j1 : ¬ (j : Int) + 1 < (s.size : Int) := by omega
          have j5 : (0 : Int) < (j : Int) + 1 := by omega
          clear hnj hno
          go_wp2
          go_ret
          have := unhide HN
          exact ⟨by rw [← this]; go_num, rfl⟩
  · rw [hdg] at HD0
    have HD := hide HD0
    have HD1 := fun W => digit_any s[1] W
    rw [hdg1] at HD1
    have HDD := hide HD1
    clear HD0 HD1 hdg hdg1
    have i2 : 1 < s.size := h1
    · go_enter Tryz.func88, Tryz.ntmps88
      go_wp2_with (go_at_call 102; first | (refine (unhide HD _).mono ?_; rintro e w' ⟨rfl, hw'⟩; obtain rfl := hw'.symm) | (refine (unhide HDD _).mono ?_; rintro e w' ⟨rfl, hw'⟩; obtain rfl := hw'.symm))
      go_loopg [3] (s.size - 1) (fun gk i wr => ∃ j : Nat, gk = s.size - j ∧ i = .int .i64 ((j : Int) + 1) ∧ j < s.size ∧ Hid (∀ h : j < s.size, Tk.nuL s[j] (s.data.toList.drop (j + 1)) + 1 + j = R) ∧ wr = w)
      case atStart => exact ⟨1, rfl, rfl, by omega, hno, rfl⟩
      case round =>
        obtain ⟨j, rfl, rfl, hj, hno, rfl⟩ := hrel
        clear HD
        have hnj := unhide hno hj
        by_cases hlt : j + 1 < s.size
        · have j1 : (j : Int) + 1 < (s.size : Int) := by omega
          have j2 : (j : Int) < (s.size : Int) := by omega
          have j3 : (0 : Int) ≤ (j : Int) + 1 := by omega
          have j4 : IntKind.i64.wrap (j : Int) = (j : Int) := by rw [IntKind.wrap_i64]; omega
          have j5 : (0 : Int) < (j : Int) + 1 := by omega
          rw [drop_at s (j + 1) hlt, Tk.nuL] at hnj
          have HNJ := hide hnj
          clear hnj hno
          have hex := ex_cases s[j]
          have hnc := nu_cases _ s[j] s[j + 1] rfl
          have HNC := hide hnc
          clear hnc
          generalize Tk.ex s[j] = E at *
          go_upto_region 7 with fail
          go_cut [4] from 26 to 95 (fun c wx => c = .bool E ∧ wx = wr)
          case first =>
            rcases hex with ⟨e1, rfl⟩ | ⟨e1, e2, rfl⟩ | ⟨e1, e2, e3, rfl⟩ | ⟨e1, e2, e3, e4, rfl⟩ | ⟨e1, e2, e3, e4, rfl⟩
            all_goals
              go_wp2_with fail
              go_meet
              case rel => exact ⟨rfl, rfl⟩
          case rest =>
            obtain ⟨rfl, rfl⟩ := hcut
            clear hex
            have HLE := fun W => letter_any s[j + 1] W
            have HDG := fun W => digit_any s[j + 1] W
            rcases unhide HNC with ⟨e1, e2⟩ | ⟨e1, e3, e2⟩ | ⟨e1, e3, e4, e2⟩ | ⟨e1, e3, e4, rfl, e2⟩ | ⟨e1, e3, e4, rfl, e5, e2⟩ | ⟨e1, e3, e4, rfl, e5, e6, e2⟩ | ⟨e1, e3, e4, rfl, e5, e6, e2⟩
            all_goals
              rw [e2] at HNJ
              try rw [e1] at HLE
              try rw [e3] at HDG
              have HLE' := hide HLE
              have HDG' := hide HDG
              clear HLE HDG e2 HNC
              try clear e3
              clear e1
              try have e7 : ((s[j + 1].toNat : Int) != 46) = true := by simp only [bne, e4, Bool.not_false]
              try have e7 : ((s[j + 1].toNat : Int) != 46) = false := by simp only [bne, e4, Bool.not_true]
              go_wp2_with (first | (go_at_call 101; refine (unhide HLE' _).mono ?_; rintro e w' ⟨rfl, rfl⟩) | (go_at_call 102; refine (unhide HDG' _).mono ?_; rintro e w' ⟨rfl, rfl⟩))
              first
              | (go_roundg (s.size - (j + 1))
                 case measure => omega
                 case rel =>
                   refine ⟨j + 1, rfl, by go_num, by omega, fun h => ?_, by first | rfl | trivial⟩
                   have := unhide HNJ
                   simp only [if_true] at this
                   rw [← this]; omega)
              | (try rw [Exit.noGoto_ret]
                 go_ret
                 have := unhide HNJ
                 simp at this
                 exact ⟨by rw [← this]; go_num, by first | rfl | trivial⟩)
        · rw [drop_end s (j + 1) (by omega), Tk.nuL] at hnj
          have HN := hide hnj
          have j1 : ¬ (j : Int) + 1 < (s.size : Int) := by omega
          have j5 : (0 : Int) < (j : Int) + 1 := by omega
          clear hnj hno
          go_wp2
          go_ret
          have := unhide HN
          exact ⟨by rw [← this]; go_num, rfl⟩
  · rw [hdg] at HD0
    have HD := hide HD0
    clear HD0 hdg
    rcases hcs with hl | ⟨i1, h46⟩ | ⟨i1, h46, h1, hdg1⟩
    · go_enter Tryz.func88, Tryz.ntmps88
      go_wp2_with (go_at_call 102; refine (unhide HD _).mono ?_; rintro e w' ⟨rfl, hw'⟩; obtain rfl := hw'.symm)
      go_loopg [3] 1 (fun gk i wr => i = .int .i64 0 ∧ wr = w)
      case atStart => exact ⟨rfl, rfl⟩
      case round =>
        obtain ⟨rfl, rfl⟩ := hrel
        go_wp2
        go_ret
        exact ⟨by rw [unhide hz]; rfl, rfl⟩
    · go_enter Tryz.func88, Tryz.ntmps88
      go_wp2_with (go_at_call 102; refine (unhide HD _).mono ?_; rintro e w' ⟨rfl, hw'⟩; obtain rfl := hw'.symm)
      go_loopg [3] 1 (fun gk i wr => i = .int .i64 0 ∧ wr = w)
      case atStart => exact ⟨rfl, rfl⟩
      case round =>
        obtain ⟨rfl, rfl⟩ := hrel
        go_wp2
        go_ret
        exact ⟨by rw [unhide hz]; rfl, rfl⟩
    · have i2 : 1 < s.size := h1
      have HD1 := fun W => digit_any s[1] W
      rw [hdg1] at HD1
      have HDD := hide HD1
      clear HD1 hdg1
      go_enter Tryz.func88, Tryz.ntmps88
      go_wp2_with (go_at_call 102; first | (refine (unhide HD _).mono ?_; rintro e w' ⟨rfl, hw'⟩; obtain rfl := hw'.symm) | (refine (unhide HDD _).mono ?_; rintro e w' ⟨rfl, hw'⟩; obtain rfl := hw'.symm))
      go_loopg [3] 1 (fun gk i wr => i = .int .i64 0 ∧ wr = w)
      case atStart => exact ⟨rfl, rfl⟩
      case round =>
        obtain ⟨rfl, rfl⟩ := hrel
        go_wp2
        go_ret
        exact ⟨by rw [unhide hz]; rfl, rfl⟩
end Go.Proofs.YtnpjgamfjfmjjaaGreatDoor
namespace Go.Proofs.YtnpjgamfjfmjjaaGreatDoor
open Go Go.RowKit
set_option linter.unusedVariables false
set_option linter.unusedSimpArgs false

/-- What 'first' tells, in the parts that it asks. -/
def fiR (nm nu : Nat) (x : Int) (q sg : Nat) : Nat × Nat :=
  if 0 < nm then (1, nm) else if 0 < nu then (2, nu) else if x == 34 then (4, q) else if x == 39 then (3, if q = 2 then 0 else q) else if 0 < sg then (5, sg) else (6, 1)
theorem fi_ms (s : ByteArray) (h0 : 0 < s.size) : fiR (nmR s.data.toList) (nuR s.data.toList) (s[0].toNat : Int) (qr s h0) (Tk.sgL s.data.toList) = Tk.ms s.data.toList := by
  have hd := drop_at s 0 h0
  simp only [List.drop_zero, Nat.zero_add] at hd
  have e39 : ((s[0].toNat : Int) == 39) = (s[0] == 39) := (byte_eq s[0] 39).symm
  have e34 : ((s[0].toNat : Int) == 34) = (s[0] == 34) := (byte_eq s[0] 34).symm
  unfold fiR
  rw [e39, e34]
  have hN : nmR s.data.toList = if Tk.le s[0] then Tk.nmL (s.data.toList.drop 1) + 1 else 0 := by
    conv => lhs; rw [hd]
    rfl
  have hU : nuR s.data.toList = if Tk.dg s[0] || (s[0] == 46 && Tk.dig1 (s.data.toList.drop 1)) then Tk.nuL s[0] (s.data.toList.drop 1) + 1 else 0 := by
    conv => lhs; rw [hd]
    rfl
  have hM : Tk.ms s.data.toList = if Tk.dg s[0] || (s[0] == 46 && Tk.dig1 (s.data.toList.drop 1)) then (2, Tk.nuL s[0] (s.data.toList.drop 1) + 1)
    else if Tk.nm s[0] then (1, Tk.nmL (s.data.toList.drop 1) + 1)
    else if s[0] == 39 then (3, if Tk.quL 39 false (s.data.toList.drop 1) = 1 then 0 else Tk.up (Tk.quL 39 false (s.data.toList.drop 1)))
    else if s[0] == 34 then (4, Tk.up (Tk.quL 34 false (s.data.toList.drop 1)))
    else if 0 < Tk.sgL s.data.toList then (5, Tk.sgL s.data.toList) else (6, 1) := by
    conv => lhs; rw [hd]
    rw [Tk.ms, ← hd]
  have hQ : qr s h0 = Tk.up (Tk.quL s[0] false (s.data.toList.drop 1)) := rfl
  rw [hN, hU, hM, hQ]
  have hle : Tk.le s[0] = true → Tk.dg s[0] = false ∧ (s[0] == 46) = false := by
    intro h
    refine ⟨?_, ?_⟩
    · rw [Bool.eq_false_iff]
      intro h2
      revert h h2
      generalize s[0] = c
      unfold Tk.le Tk.dg
      simp only [Bool.or_eq_true, Bool.and_eq_true, decide_eq_true_eq, beq_iff_eq, UInt8.le_iff_toNat_le]
      intro h h2
      rcases h with (h | h) | h
      · have := h.1; have := h2.2; simp at *; omega
      · have := h.1; have := h2.2; simp at *; omega
      · subst h; simp at h2
    · rw [beq_eq_false_iff_ne]
      intro h2
      rw [h2] at h
      revert h; decide
  cases hl : Tk.le s[0]
  · simp only [Bool.false_eq_true, if_false, Nat.lt_irrefl, Tk.nm, hl, Bool.false_or]
    cases hu : (Tk.dg s[0] || (s[0] == 46 && Tk.dig1 (s.data.toList.drop 1)))
    · have hdg : Tk.dg s[0] = false := by
        cases h : Tk.dg s[0]
        · rfl
        · rw [h] at hu; cases hu
      simp only [Bool.false_eq_true, if_false, Nat.lt_irrefl, hdg]
      by_cases h39 : s[0] = 39
      · have h34 : (s[0] == 34) = false := by rw [h39]; decide
        rw [h34, h39]
        simp only [beq_self_eq_true, if_true, Bool.false_eq_true, if_false]
        congr 1
        generalize Tk.quL 39 false (s.data.toList.drop 1) = Q
        unfold Tk.up
        by_cases hq : Q = 1
        · simp [hq]
        · by_cases hq0 : Q = 0
          · simp [hq0]
          · simp [hq, hq0]
      · have h39' : (s[0] == 39) = false := by simpa using h39
        by_cases h34 : s[0] = 34
        · rw [h34]; simp
        · have h34' : (s[0] == 34) = false := by simpa using h34
          rw [h39', h34']; simp
    · simp
  · obtain ⟨h1, h2⟩ := hle hl
    rw [h1, h2]
    simp [Tk.nm, hl]

set_option maxHeartbeats 8000000 in
theorem rfirst_x (s : ByteArray) (w : World) (h0 : 0 < s.size) (nm nu q sg : Nat)
    (HNM : Hid (∀ w, Calls Tryz.prog 87 #[.string s] w fun e w' => e = .returned (.int .i64 (nm : Nat)) ∧ w' = w))
    (HNU : Hid (∀ w, Calls Tryz.prog 88 #[.string s] w fun e w' => e = .returned (.int .i64 (nu : Nat)) ∧ w' = w))
    (HQU : Hid (∀ w, Calls Tryz.prog 89 #[.string s] w fun e w' => e = .returned (.int .i64 (q : Nat)) ∧ ∃ m, w' = w.drewN m))
    (HSG : Hid (∀ w, Calls Tryz.prog 90 #[.string s] w fun e w' => e = .returned (.int .i64 (sg : Nat)) ∧ w' = w)) :
    Calls Tryz.prog 73 #[.string s] w fun e w' => e = .returned (pairV (fiR nm nu (s[0].toNat : Int) q sg)) ∧ ∃ m, w' = w.drewN m := by
  have i0 : (0 : Int) < (s.size : Int) := by omega
  have hcs : (0 < nm ∧ fiR nm nu (s[0].toNat : Int) q sg = (1, nm)) ∨ (nm = 0 ∧ 0 < nu ∧ fiR nm nu (s[0].toNat : Int) q sg = (2, nu)) ∨
      (nm = 0 ∧ nu = 0 ∧ ((s[0].toNat : Int) == 39) = false ∧ ((s[0].toNat : Int) == 34) = true ∧ fiR nm nu (s[0].toNat : Int) q sg = (4, q)) ∨
      (nm = 0 ∧ nu = 0 ∧ ((s[0].toNat : Int) == 34) = false ∧ ((s[0].toNat : Int) == 39) = true ∧ q = 2 ∧ fiR nm nu (s[0].toNat : Int) q sg = (3, 0)) ∨
      (nm = 0 ∧ nu = 0 ∧ ((s[0].toNat : Int) == 34) = false ∧ ((s[0].toNat : Int) == 39) = true ∧ ((q : Int) == 2) = false ∧ fiR nm nu (s[0].toNat : Int) q sg = (3, q)) ∨
      (nm = 0 ∧ nu = 0 ∧ ((s[0].toNat : Int) == 34) = false ∧ ((s[0].toNat : Int) == 39) = false ∧ 0 < sg ∧ fiR nm nu (s[0].toNat : Int) q sg = (5, sg)) ∨
      (nm = 0 ∧ nu = 0 ∧ ((s[0].toNat : Int) == 34) = false ∧ ((s[0].toNat : Int) == 39) = false ∧ sg = 0 ∧ fiR nm nu (s[0].toNat : Int) q sg = (6, 1)) := by
    unfold fiR
    by_cases h1 : 0 < nm
    · simp [h1]
    · by_cases h2 : 0 < nu
      · simp [h1, h2]; omega
      · have e1 : nm = 0 := by omega
        have e2 : nu = 0 := by omega
        subst e1; subst e2
        cases h34 : ((s[0].toNat : Int) == 34)
        · cases h39 : ((s[0].toNat : Int) == 39)
          · by_cases h3 : 0 < sg
            · simp [h3]
            · simp [h3]; omega
          · by_cases hq : q = 2
            · simp [hq]
            · have : ((q : Int) == 2) = false := by rw [beq_eq_false_iff_ne]; omega
              simp [hq, this]
        · have h39 : ((s[0].toNat : Int) == 39) = false := by rw [beq_iff_eq] at h34; rw [h34]; rfl
          simp [h39]
  generalize fiR nm nu (s[0].toNat : Int) q sg = C at *
  rcases hcs with ⟨h1, rfl⟩ | ⟨rfl, h2, rfl⟩ | ⟨rfl, rfl, h39, h34, rfl⟩ | ⟨rfl, rfl, h34, h39, rfl, rfl⟩ | ⟨rfl, rfl, h34, h39, hq, rfl⟩ | ⟨rfl, rfl, h34, h39, hsg, rfl⟩ | ⟨rfl, rfl, h34, h39, rfl, rfl⟩
  all_goals
    go_enter Tryz.func73, Tryz.ntmps73
    go_wp2_with (first | (go_at_call 87; refine (unhide HNM _).mono ?_; rintro e w' ⟨rfl, hw'⟩; obtain rfl := hw'.symm) | (go_at_call 88; refine (unhide HNU _).mono ?_; rintro e w' ⟨rfl, hw'⟩; obtain rfl := hw'.symm) | (go_at_call 89; refine (unhide HQU _).mono ?_; rintro e w' ⟨rfl, mq, rfl⟩) | (go_at_call 90; refine (unhide HSG _).mono ?_; rintro e w' ⟨rfl, hw'⟩; obtain rfl := hw'.symm))
    go_ret2
    first | exact ⟨rfl, 0, rfl⟩ | exact ⟨rfl, mq, rfl⟩
theorem rfirst_any (s : ByteArray) (w : World) (hs : s.size ≤ 140737488355328) (h0 : 0 < s.size) :
    Calls Tryz.prog 73 #[.string s] w fun e w' => e = .returned (pairV (Tk.ms s.data.toList)) ∧ ∃ m, w' = w.drewN m := by
  have hm : s.size ≤ maxLen := by unfold maxLen; omega
  rw [← fi_ms s h0]
  exact rfirst_x s w h0 _ _ _ _ (fun w => rname_any s w hm h0) (fun w => rnumber_any s w hm h0) (fun w => rquote_any s w hs h0) (fun w => rsign_any s w hs)
end Go.Proofs.YtnpjgamfjfmjjaaGreatDoor
