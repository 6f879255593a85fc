/-
  The program's and the document's words on single bytes.
  token.Punct: is a text one of the signs?
  token.nameSize, numberSize, quotedSize, signSize, measure: the kind and the size of the token that a text begins with.
  token.quotedSize, signSize, measure: the kind and the size of the token that a text begins with.
  strings.HasPrefix, for every string.
-/
import Derived.Test.YtmpkgjonbjpohaaGreatDoorChecked
import Derived.Test.YtmpkgjonbjpohaaGreatDoorLa
import Derived.WalkKit
import Derived.Below
import Derived.Deep.MidRow
import Derived.Deep.CutRange
import Derived.Deep.RegionWith
import Derived.Deep.DeepCutAuto
import Derived.Deep.QuietTactic
import Derived.BigQuiet
namespace Go.Proofs.YtmpkgjonbjpohaaGreatDoor
open Go Go.RowKit
set_option linter.unusedVariables false
set_option linter.unusedSimpArgs false

theorem hide {p : Prop} (h : p) : Hid p := h
theorem unhide {p : Prop} (h : Hid p) : p := h
abbrev byteV (c : UInt8) : Value := .int .u8 (c.toNat : Int)
theorem byte_le (a c : UInt8) : decide (a ≤ c) = decide ((a.toNat : Int) ≤ (c.toNat : Int)) := by
  rw [decide_eq_decide, UInt8.le_iff_toNat_le]; omega
theorem byte_eq (c a : UInt8) : (c == a) = ((c.toNat : Int) == (a.toNat : Int)) := by
  rw [Bool.eq_iff_iff, beq_iff_eq, beq_iff_eq]
  constructor
  · rintro rfl; rfl
  · intro h; exact UInt8.toNat_inj.1 (by omega)


set_option maxHeartbeats 400000 in
theorem isDigit_x (x : Int) (w : World) : Calls Tryz.prog 140 #[.int .u8 x] w fun e w' => e = .returned (.bool (decide (48 ≤ x) && decide (x ≤ 57))) ∧ w' = w := by
  cases h1 : decide ((48 : Int) ≤ x) <;> cases h2 : decide (x ≤ 57)
  all_goals
    go_enter Tryz.func140, Tryz.ntmps140
    go_wp2
    go_ret
    exact ⟨rfl, rfl⟩
theorem dg_x (c : UInt8) : Tk.dg c = (decide ((48 : Int) ≤ (c.toNat : Int)) && decide ((c.toNat : Int) ≤ 57)) := by unfold Tk.dg; rw [byte_le 48, byte_le c 57]; rfl
theorem isDigit_any (c : UInt8) (w : World) : Calls Tryz.prog 140 #[byteV c] w fun e w' => e = .returned (.bool (Tk.dg c)) ∧ w' = w := by
  rw [dg_x]; exact isDigit_x _ w
set_option maxHeartbeats 400000 in
theorem isBlank_x (x : Int) (w : World) : Calls Tryz.prog 128 #[.int .u8 x] w fun e w' => e = .returned (.bool (x == 32 || x == 9 || x == 11 || x == 12)) ∧ w' = w := by
  cases h1 : x == 32 <;> cases h2 : x == 9 <;> cases h3 : x == 11 <;> cases h4 : x == 12
  all_goals
    go_enter Tryz.func128, Tryz.ntmps128
    go_wp2
    go_ret
    exact ⟨rfl, rfl⟩
theorem bl_x (c : UInt8) : Tk.bl c = ((c.toNat : Int) == 32 || (c.toNat : Int) == 9 || (c.toNat : Int) == 11 || (c.toNat : Int) == 12) := by
  unfold Tk.bl; rw [byte_eq, byte_eq, byte_eq, byte_eq]; rfl
theorem isBlank_any (c : UInt8) (w : World) : Calls Tryz.prog 128 #[byteV c] w fun e w' => e = .returned (.bool (Tk.bl c)) ∧ w' = w := by
  rw [bl_x]; exact isBlank_x _ w
def leX (x : Int) : Bool := (decide (97 ≤ x) && decide (x ≤ 122)) || (decide (65 ≤ x) && decide (x ≤ 90)) || x == 95
theorem le_x (c : UInt8) : Tk.le c = leX (c.toNat : Int) := by
  unfold Tk.le leX; rw [byte_le 97, byte_le c 122, byte_le 65, byte_le c 90, byte_eq]; rfl
set_option maxHeartbeats 1600000 in
theorem inName_x (x : Int) (w : World) : Calls Tryz.prog 142 #[.int .u8 x] w fun e w' => e = .returned (.bool (leX x || (decide (48 ≤ x) && decide (x ≤ 57)))) ∧ w' = w := by
  have hd := hide (isDigit_x x w)
  unfold leX
  generalize (decide (48 ≤ x) && decide (x ≤ 57)) = dd at *
  cases h1 : decide ((97 : Int) ≤ x) <;> cases h2 : decide (x ≤ 122) <;> cases h3 : decide ((65 : Int) ≤ x) <;> cases h4 : decide (x ≤ 90) <;> cases h5 : x == 95
  all_goals
    go_enter Tryz.func142, Tryz.ntmps142
    go_wp2_with (refine (unhide hd).mono ?_; rintro e w' ⟨rfl, rfl⟩)
    go_ret
    exact ⟨rfl, rfl⟩
theorem inName_any (c : UInt8) (w : World) : Calls Tryz.prog 142 #[byteV c] w fun e w' => e = .returned (.bool (Tk.nm c)) ∧ w' = w := by
  unfold Tk.nm; rw [dg_x, le_x]; exact inName_x _ w
set_option maxHeartbeats 1600000 in
theorem inNumber_any (a c : UInt8) (w : World) : Calls Tryz.prog 159 #[byteV a, byteV c] w fun e w' => e = .returned (.bool (Tk.nu a c)) ∧ w' = w := by
  have hd := hide (inName_any c w)
  unfold Tk.nu Tk.ex
  rw [byte_eq, byte_eq, byte_eq, byte_eq, byte_eq, byte_eq, byte_eq]
  unfold byteV at *
  generalize Tk.nm c = dd at *
  generalize (c.toNat : Int) = x at *
  generalize (a.toNat : Int) = y at *
  show Calls Tryz.prog 159 #[.int .u8 y, .int .u8 x] w fun e w' => e = .returned (.bool (if x == 43 || x == 45 then y == 101 || y == 69 || y == 112 || y == 80 else x == 46 || dd)) ∧ w' = w
  cases h1 : x == 43 <;> cases h2 : x == 45
  all_goals simp only [Bool.false_or, Bool.true_or, Bool.or_true, Bool.false_eq_true, if_false, if_true, Bool.or_false]
  · cases h3 : x == 46
    all_goals
      go_enter Tryz.func159, Tryz.ntmps159
      go_wp2_with (refine (unhide hd).mono ?_; rintro e w' ⟨rfl, rfl⟩)
      go_ret
      exact ⟨rfl, rfl⟩
  all_goals
    cases h5 : y == 101 <;> cases h6 : y == 69 <;> cases h7 : y == 112 <;> cases h8 : y == 80
    all_goals
      go_enter Tryz.func159, Tryz.ntmps159
      go_wp2_with fail
      go_ret
      exact ⟨rfl, rfl⟩
end Go.Proofs.YtmpkgjonbjpohaaGreatDoor
namespace Go.Proofs.YtmpkgjonbjpohaaGreatDoor
open Go Go.RowKit
set_option linter.unusedVariables false
set_option linter.unusedSimpArgs false
/-- The table of signs lies where the program's text lays it. -/
def Sg (w : World) : Prop := ∀ (i : Nat) (x : List UInt8), Tk.signs[i]? = some x → w.cell? ⟨1, i, none⟩ = some (.string ⟨x.toArray⟩)
def sgL : List Value := Tk.signs.map fun x => .string ⟨x.toArray⟩
theorem Sg.range {w : World} (h : Sg w) : w.rangeAt 1 0 sgL := by
  intro j v hj
  unfold sgL at hj
  rw [List.getElem?_map, Option.map_eq_some_iff] at hj
  obtain ⟨x, hx, rfl⟩ := hj
  rw [Nat.zero_add]; exact h j x hx
theorem Sg.below {w w' : World} {B : Nat} (h : Sg w) (hb : Below B w w') (hB : 10 < B) : Sg w' := fun i x hx => (hb.cell (p := ⟨1, i, none⟩) (by show 1 < B; omega)).trans (h i x hx)
theorem Sg.load {w : World} (h : Sg w) : (Instr.loadAt 169 (.pointer (some ⟨1, 0, none⟩))).run Tryz.prog w = .ok (.agg sgL.toArray) w :=
  run_loadAt_mid w 1 0 169 sgL _ h.range Tryz.underlying169 rfl (by kernel_rfl)
theorem idx131 (A : Array Value) (k : Nat) (v : Value) (hk : k < 48) (h : A[k]? = some v) (w : World) :
    (Instr.index 169 (.agg A) (.int .i64 (k : Int))).run Tryz.prog w = .ok v w := by
  have hn : (0 : Int) ≤ (k : Int) ∧ (k : Int) < 48 := by omega
  simp [Instr.index, run_underlying Tryz.underlying169, asIntOf, hn, go_sem]
  simp [hk, h, go_sem]
set_option maxRecDepth 100000 in
set_option maxHeartbeats 400000 in
theorem punct_any (s : ByteArray) (w : World) (hc : Sg w) (hs : s.size ≤ maxLen) :
    Calls Tryz.prog 113 #[.string s] w fun e w' => e = .returned (.bool (Tk.pn s.data.toList)) ∧ w' = w := by
  have hA : Hid (∀ (k : Nat), k < 48 → ∃ x, Tk.signs[k]? = some x ∧ sgL.toArray[k]? = some (.string ⟨x.toArray⟩)) := by
    intro k hk
    have : k < Tk.signs.length := hk
    refine ⟨Tk.signs[k], List.getElem?_eq_getElem this, ?_⟩
    simp [sgL, this]
  have hz : sgL.toArray.size = 48 := by kernel_rfl
  have HC := hide hc
  clear hc
  go_enter Tryz.func113, Tryz.ntmps113
  go_upto_region 1 with fail
  refine wp_region_lit (wpList_load_mid rfl 169 _ rfl 1 0 rfl sgL _ (unhide HC).range Tryz.underlying169 rfl (by kernel_rfl) ?_)
  generalize sgL.toArray = A at *
  go_wp2
  go_loopw [6] (fun i wr => ∃ k : Nat, i = .int .i64 k ∧ k ≤ 48 ∧ Hid (∀ j x, j < k → Tk.signs[j]? = some x → x ≠ s.data.toList) ∧ wr = w) (fun i wr => 48 - (intOf i).toNat)
  case atStart => exact ⟨0, rfl, by omega, fun j x hj => by omega, rfl⟩
  case round =>
    obtain ⟨k, rfl, hk, hno, rfl⟩ := hrel
    by_cases hlt : k < 48
    · obtain ⟨x, hx, hax⟩ := unhide hA k hlt
      have HX := hide hx
      clear hx
      have hidx := idx131 A k _ hlt hax wr
      have i1 : (k : Int) < 48 := by omega
      have he : (x == s.toList) = decide (x = s.data.toList) := by
        rw [ByteArray.toList_eq, Bool.eq_iff_iff]; simp
      by_cases hxs : x = s.data.toList
      · have he' : (x == s.toList) = true := by rw [he]; simp [hxs]
        have hp : Hid (Tk.pn s.data.toList = true) := by
          rw [Hid, ← hxs, Tk.pn, List.contains_iff_mem]
          exact List.mem_of_getElem? (unhide HX)
        clear he hxs
        go_wp2
        go_ret
        exact ⟨by rw [unhide hp]; rfl, rfl⟩
      · have he' : (x == s.toList) = false := by rw [he]; simp [hxs]
        have HN := hide hxs
        clear he hxs
        go_wp2
        go_roundw
        case rel =>
          refine ⟨k + 1, by go_num, by omega, fun j y hj hy => ?_, trivial⟩
          by_cases hjk : j = k
          · subst hjk; rw [unhide HX] at hy; cases hy; exact unhide HN
          · exact unhide hno j y (by omega) hy
        case measure => simp [intOf]; omega
    · have hkk : k = 48 := by omega
      subst hkk
      have hp : Hid (Tk.pn s.data.toList = false) := by
        rw [Hid, Tk.pn, Bool.eq_false_iff]
        intro h
        rw [List.contains_iff_mem] at h
        obtain ⟨j, hj, e⟩ := List.mem_iff_getElem.1 h
        exact unhide hno j _ hj (List.getElem?_eq_getElem hj) e
      go_wp2
      go_ret
      exact ⟨by rw [unhide hp]; rfl, rfl⟩
end Go.Proofs.YtmpkgjonbjpohaaGreatDoor
namespace Go.Proofs.YtmpkgjonbjpohaaGreatDoor
open Go Go.RowKit
set_option linter.unusedVariables false
set_option linter.unusedSimpArgs false

theorem drop_at (s : ByteArray) (k : Nat) (h : k < s.size) : s.data.toList.drop k = s[k] :: s.data.toList.drop (k + 1) := by
  have hl : k < s.data.toList.length := by simpa using h
  rw [List.drop_eq_getElem_cons hl]
  congr 1
theorem drop_end (s : ByteArray) (k : Nat) (h : s.size ≤ k) : s.data.toList.drop k = [] := List.drop_eq_nil_of_le (by simpa using h)

set_option maxHeartbeats 800000 in
theorem nameSize_any (s : ByteArray) (w : World) (hs : s.size ≤ maxLen) (h0 : 0 < s.size) :
    Calls Tryz.prog 143 #[.string s] w fun e w' => e = .returned (.int .i64 ((Tk.nmL (s.data.toList.drop 1) + 1 : Nat) : Int)) ∧ w' = w := by
  have hs' : s.size ≤ 2 ^ 63 - 1 := hs
  go_enter Tryz.func143, Tryz.ntmps143
  go_wp2
  go_loopw [3] (fun i wr => ∃ k : Nat, i = .int .i64 k ∧ 1 ≤ k ∧ k ≤ s.size ∧ Hid (Tk.nmL (s.data.toList.drop 1) + 1 = k + Tk.nmL (s.data.toList.drop k)) ∧ wr = w) (fun i wr => s.size - (intOf i).toNat)
  case atStart => exact ⟨1, rfl, by omega, by omega, by rw [Hid]; omega, rfl⟩
  case round =>
    obtain ⟨k, rfl, h1, hk, hno, rfl⟩ := hrel
    by_cases hlt : k < s.size
    · have i1 : (k : Int) < (s.size : Int) := by omega
      have hd := drop_at s k hlt
      have hin := inName_any s[k] wr
      have hst : Tk.nmL (s.data.toList.drop k) = if Tk.nm s[k] then Tk.nmL (s.data.toList.drop (k + 1)) + 1 else 0 := by rw [hd, Tk.nmL]
      have HST := hide hst
      clear hst hd
      cases hc : Tk.nm s[k]
      · rw [hc] at hin HST
        clear hc
        have HI := hide hin
        clear hin
        go_wp2_with (go_at_call 142; refine (unhide HI).mono ?_; rintro e w' ⟨rfl, rfl⟩)
        go_ret
        have := unhide HST
        have h2 := unhide hno
        simp at this
        exact ⟨by rw [h2, this]; rfl, rfl⟩
      · rw [hc] at hin HST
        clear hc
        have HI := hide hin
        clear hin
        go_wp2_with (go_at_call 142; refine (unhide HI).mono ?_; rintro e w' ⟨rfl, rfl⟩)
        go_roundw
        case rel =>
          refine ⟨k + 1, by go_num, by omega, by omega, ?_, trivial⟩
          have := unhide HST
          have h2 := unhide hno
          simp only [if_true] at this
          rw [Hid, h2, this]; omega
        case measure => simp [intOf]; omega
    · have hn := drop_end s k (by omega)
      have HN := hide hn
      clear hn
      go_wp2
      go_ret
      have h2 := unhide hno
      exact ⟨by rw [h2, unhide HN]; rfl, rfl⟩

theorem drewN2 (w : World) (m n : Nat) : (w.drewN m).drewN n = w.drewN (m + n) := World.drewN_drewN w m n
theorem Hdrew {w wr : World} {m n : Nat} (h : Hid (wr = w.drewN m)) : wr.drewN n = w.drewN (m + n) := by rw [unhide h]; exact World.drewN_drewN w m n
theorem quiet_same {P : Program} {f : Nat} {args : Array Value} {w : World} {v : Value} (h : Calls P f args w fun e w' => e = .returned v ∧ w' = w) : Calls P f args w fun e w' => e = .returned v ∧ ∃ m, w' = w.drewN m :=
  h.mono fun e w' ⟨h1, h2⟩ => ⟨h1, 0, h2⟩

set_option maxHeartbeats 800000 in
theorem numberSize_any (s : ByteArray) (w : World) (hs : s.size ≤ maxLen) (h0 : 0 < s.size) :
    Calls Tryz.prog 141 #[.string s] w fun e w' => e = .returned (.int .i64 ((Tk.nuL s[0] (s.data.toList.drop 1) + 1 : Nat) : Int)) ∧ ∃ m, w' = w.drewN m := by
  have hs' : s.size ≤ 2 ^ 63 - 1 := hs
  generalize hR : Tk.nuL s[0] (s.data.toList.drop 1) + 1 = R
  have HR := hide hR
  clear hR
  go_enter Tryz.func141, Tryz.ntmps141
  go_wp2
  go_loopw [3] (fun i wr => ∃ j m : Nat, i = .int .i64 ((j : Int) + 1) ∧ j < s.size ∧ Hid (∀ h : j < s.size, Tk.nuL s[j] (s.data.toList.drop (j + 1)) + 1 + j = R) ∧ Hid (wr = w.drewN m)) (fun i wr => s.size - (intOf i).toNat)
  case atStart => exact ⟨0, 0, rfl, by omega, fun _ => unhide HR, hide rfl⟩
  case round =>
    obtain ⟨j, m, rfl, hj, hno, hwm⟩ := hrel
    have hnj := unhide hno hj
    by_cases hlt : j + 1 < s.size
    · have i1 : (j : Int) + 1 < (s.size : Int) := by omega
      have i2 : (j : Int) < (s.size : Int) := by omega
      have i3 : (0 : Int) ≤ (j : Int) + 1 := by omega
      have i4 : IntKind.i64.wrap (j : Int) = (j : Int) := by rw [IntKind.wrap_i64]; omega
      have hd := drop_at s (j + 1) hlt
      have hin := fun W => inNumber_any s[j] s[j + 1] W
      rw [hd, Tk.nuL] at hnj
      have HST := hide hnj
      clear hnj hd hno
      cases hc : Tk.nu s[j] s[j + 1]
      · rw [hc] at HST
        simp only [hc] at hin
        clear hc
        have HI := hide hin
        clear hin
        go_upto_region 2 with fail
        go_quiet ((go_at_call 159; exact Calls.quiet_of_same (unhide HI _)))
        go_wp2
        go_ret
        have := unhide HST
        simp at this
        exact ⟨by rw [← this]; go_num, _, Hdrew hwm⟩
      · rw [hc] at HST
        simp only [hc] at hin
        clear hc
        have HI := hide hin
        clear hin
        go_upto_region 2 with fail
        go_quiet ((go_at_call 159; exact Calls.quiet_of_same (unhide HI _)))
        go_wp2
        go_roundw
        case rel =>
          refine ⟨j + 1, _, by go_num, by omega, fun h => ?_, hide (Hdrew hwm)⟩
          have := unhide HST
          simp only [if_true] at this
          rw [← this]; omega
        case measure => simp [intOf]; omega
    · have hn := drop_end s (j + 1) (by omega)
      rw [hn, Tk.nuL] at hnj
      have HN := hide hnj
      have i1 : ¬ (j : Int) + 1 < (s.size : Int) := by omega
      clear hn hnj hno
      go_upto_region 2 with fail
      go_quiet (fail)
      go_wp2
      go_ret
      have := unhide HN
      exact ⟨by rw [← this]; go_num, _, Hdrew hwm⟩
end Go.Proofs.YtmpkgjonbjpohaaGreatDoor
namespace Go.Proofs.YtmpkgjonbjpohaaGreatDoor
open Go Go.RowKit
set_option linter.unusedVariables false
set_option linter.unusedSimpArgs false

def upN (n m : Nat) : Nat := if m = 0 then 0 else m + n
theorem upN_up (n m : Nat) : upN n (Tk.up m) = upN (n + 1) m := by unfold upN Tk.up; split <;> simp_all; omega
theorem qu_esc (q : UInt8) (s : ByteArray) (k : Nat) (h : k < s.size) (hc : s[k] = 92) (n : Nat) : upN n (Tk.quL q false (s.data.toList.drop k)) = upN (n + 2) (Tk.quL q false (s.data.toList.drop (k + 2))) := by
  rw [drop_at s k h, Tk.quL, hc, if_pos (by decide), upN_up]
  by_cases h2 : k + 1 < s.size
  · rw [drop_at s (k + 1) h2, Tk.quL, upN_up]
  · rw [drop_end s (k + 1) (by omega), drop_end s (k + 2) (by omega)]; rfl
theorem qu_end (q : UInt8) (s : ByteArray) (k : Nat) (h : k < s.size) (hc : s[k] ≠ 92) (hq : s[k] = q) : Tk.quL q false (s.data.toList.drop k) = 1 := by
  rw [drop_at s k h, Tk.quL, if_neg (by simpa using hc), if_pos (by simpa using hq)]
theorem qu_go (q : UInt8) (s : ByteArray) (k : Nat) (h : k < s.size) (hc : s[k] ≠ 92) (hq : s[k] ≠ q) (n : Nat) : upN n (Tk.quL q false (s.data.toList.drop k)) = upN (n + 1) (Tk.quL q false (s.data.toList.drop (k + 1))) := by
  rw [drop_at s k h, Tk.quL, if_neg (by simpa using hc), if_neg (by simpa using hq), upN_up]
theorem ne_x {c a : UInt8} (h : c ≠ a) : ((c.toNat : Int) == (a.toNat : Int)) = false := by rw [← byte_eq]; simpa using h
theorem eq_x {c a : UInt8} (h : c = a) : ((c.toNat : Int) == (a.toNat : Int)) = true := by subst h; simp
def qz (s : ByteArray) (h : 0 < s.size) : Nat := if s[0] = 39 ∧ Tk.quL s[0] false (s.data.toList.drop 1) = 1 then 0 else Tk.up (Tk.quL s[0] false (s.data.toList.drop 1))
theorem qq_eq (s : ByteArray) (k : Nat) (h1 : 1 ≤ k) (h : k < s.size) (hq : s[k] = s[0]) : ((s.extract 0 (k + 1)).toList == [39, 39]) = decide (k = 1 ∧ s[0] = 39) := by
  rw [ByteArray.toList_eq, Bool.eq_iff_iff, beq_iff_eq, decide_eq_true_iff]
  have e : (s.extract 0 (k + 1)).data.toList = s.data.toList.take (k + 1) := by rw [ByteArray.data_extract, Array.toList_extract]; simp [List.extract]
  rw [e]
  have h0 := drop_at s 0 (by omega)
  have h2 := drop_at s 1 (by omega)
  simp only [List.drop_zero, Nat.zero_add] at h0 h2
  constructor
  · intro hh
    have hl := congrArg List.length hh
    simp at hl
    have hk : k = 1 := by have : s.size = s.data.toList.length := by simp
                          omega
    subst hk
    rw [h0] at hh
    simp at hh
    exact ⟨rfl, hh.1⟩
  · rintro ⟨rfl, hc⟩
    rw [h0, h2, hq, hc]; rfl

set_option maxHeartbeats 1600000 in
theorem quotedSize_any (s : ByteArray) (w : World) (hs : s.size ≤ 140737488355328) (h0 : 0 < s.size) :
    Calls Tryz.prog 144 #[.string s] w fun e w' => e = .returned (.int .i64 (qz s h0 : Nat)) ∧ w' = w := by
  have HZ : Hid (qz s h0 = if s[0] = 39 ∧ Tk.quL s[0] false (s.data.toList.drop 1) = 1 then 0 else Tk.up (Tk.quL s[0] false (s.data.toList.drop 1))) := rfl
  generalize qz s h0 = Z at *
  generalize hQ : Tk.quL s[0] false (s.data.toList.drop 1) = Q at *
  have HQ := hide hQ
  clear hQ
  go_enter Tryz.func144, Tryz.ntmps144
  go_wp2
  go_loopw [3] (fun i wr => ∃ k : Nat, i = .int .i64 k ∧ 1 ≤ k ∧ k ≤ s.size + 1 ∧ Hid (Q = upN (k - 1) (Tk.quL s[0] false (s.data.toList.drop k))) ∧ wr = w) (fun i wr => s.size + 1 - (intOf i).toNat)
  case atStart => exact ⟨1, rfl, by omega, by omega, by rw [Hid, unhide HQ]; unfold upN; split <;> simp_all, rfl⟩
  case round =>
    obtain ⟨k, rfl, h1, hk, hno, rfl⟩ := hrel
    have hnn := unhide hno
    clear hno
    by_cases hlt : k < s.size
    · have i1 : (k : Int) < (s.size : Int) := by omega
      by_cases hc : s[k] = 92
      · rw [qu_esc _ s k hlt hc] at hnn
        have HN := hide hnn
        have hx : ((s[k].toNat : Int) == 92) = true := eq_x hc
        clear hnn hc
        go_wp2
        go_roundw
        case rel => exact ⟨k + 2, by go_num, by omega, by omega, by rw [Hid, unhide HN, show k - 1 + 2 = k + 2 - 1 by omega], trivial⟩
        case measure => simp [intOf]; omega
      · have hx : ((s[k].toNat : Int) == 92) = false := ne_x hc
        by_cases hq : s[k] = s[0]
        · rw [qu_end _ s k hlt hc hq] at hnn
          have hy : ((s[k].toNat : Int) == (s[0].toNat : Int)) = true := eq_x hq
          have hqq := qq_eq s k h1 hlt hq
          have i2 : (k : Int) + 1 ≤ (s.size : Int) := by omega
          have i3 : (0 : Int) ≤ (k : Int) + 1 := by omega
          by_cases hb : k = 1 ∧ s[0] = 39
          · rw [decide_eq_true hb] at hqq
            have hz : Hid (Z = 0) := by
              rw [Hid, unhide HZ, if_pos]
              refine ⟨hb.2, ?_⟩
              rw [hnn, hb.1]; rfl
            clear hb hq hc hnn
            go_wp2
            go_ret
            exact ⟨by rw [unhide hz]; rfl, rfl⟩
          · rw [decide_eq_false hb] at hqq
            have hz : Hid (Z = k + 1) := by
              have hQk : Q = k := by rw [hnn]; unfold upN; simp; omega
              rw [Hid, unhide HZ, if_neg, hQk]
              · unfold Tk.up; split <;> omega
              · rintro ⟨h39, hq1⟩; exact hb ⟨by omega, h39⟩
            clear hb hq hc hnn
            go_wp2
            go_ret
            exact ⟨by rw [unhide hz]; go_num, rfl⟩
        · rw [qu_go _ s k hlt hc hq] at hnn
          have hy : ((s[k].toNat : Int) == (s[0].toNat : Int)) = false := ne_x hq
          have HN := hide hnn
          clear hnn hc hq
          go_wp2
          go_roundw
          case rel => exact ⟨k + 1, by go_num, by omega, by omega, by rw [Hid, unhide HN, show k - 1 + 1 = k + 1 - 1 by omega], trivial⟩
          case measure => simp [intOf]; omega
    · rw [drop_end s k (by omega)] at hnn
      have hz : Hid (Z = 0) := by
        have hQ0 : Q = 0 := hnn
        rw [Hid, unhide HZ, hQ0]; simp [Tk.up]
      have i1 : ¬ (k : Int) < (s.size : Int) := by omega
      clear hnn
      go_wp2
      go_ret
      exact ⟨by rw [unhide hz]; rfl, rfl⟩

theorem take_min (s : ByteArray) (k : Nat) : (s.extract 0 k).data.toList = s.data.toList.take k := by
  rw [ByteArray.data_extract, Array.toList_extract]; simp [List.extract]
theorem sgL_at {s : List UInt8} {k : Nat} (hk : k ≤ 3) (hl : k ≤ s.length) (h : ∀ j, k < j → j ≤ 3 → j ≤ s.length → Tk.pn (s.take j) = false) :
    Tk.sgL s = if k = 0 then 0 else if Tk.pn (s.take k) then k else Tk.sgL (s.take (k - 1)) := by
  unfold Tk.sgL
  obtain rfl | rfl | rfl | rfl : k = 0 ∨ k = 1 ∨ k = 2 ∨ k = 3 := by omega
  · have h1 := h 1 (by omega) (by omega)
    have h2 := h 2 (by omega) (by omega)
    have h3 := h 3 (by omega) (by omega)
    by_cases l3 : 3 ≤ s.length
    · simp [h1 (by omega), h2 (by omega), h3 l3]
    · by_cases l2 : 2 ≤ s.length
      · simp [h1 (by omega), h2 l2, l3]
      · by_cases l1 : 1 ≤ s.length
        · simp [h1 l1, l2, l3]
        · simp [l1, l2, l3]
  · have h2 := h 2 (by omega) (by omega)
    have h3 := h 3 (by omega) (by omega)
    by_cases l3 : 3 ≤ s.length
    · simp [h2 (by omega), h3 l3, hl]
    · by_cases l2 : 2 ≤ s.length
      · simp [h2 l2, l3, hl]
      · simp [l2, l3, hl]
  · have h3 := h 3 (by omega) (by omega)
    have l1 : 1 ≤ s.length := by omega
    by_cases l3 : 3 ≤ s.length
    · simp [h3 l3, hl, l1, List.take_take]
    · simp [l3, hl, l1, List.take_take]
  · have l1 : 1 ≤ s.length := by omega
    have l2 : 2 ≤ s.length := by omega
    simp [hl, l1, l2, List.take_take]

set_option maxHeartbeats 800000 in
theorem signSize_any (s : ByteArray) (w : World) (hg : Sg w) (hs : s.size ≤ 140737488355328) :
    Calls Tryz.prog 145 #[.string s] w fun e w' => e = .returned (.int .i64 (Tk.sgL s.data.toList : Nat)) ∧ w' = w := by
  have HG := hide hg
  clear hg
  have hlen : s.data.toList.length = s.size := by simp
  have HL := hide hlen
  clear hlen
  have hmin : min (3 : Int) (s.size : Int) = ((min 3 s.size : Nat) : Int) := by omega
  go_enter Tryz.func145, Tryz.ntmps145
  go_wp2
  all_goals
    go_loopw [3] (fun i wr => ∃ k : Nat, i = .int .i64 k ∧ k ≤ 3 ∧ k ≤ s.size ∧ Hid (∀ j, k < j → j ≤ 3 → j ≤ s.size → Tk.pn (s.data.toList.take j) = false) ∧ wr = w) (fun i wr => (intOf i).toNat)
    case atStart => exact ⟨min 3 s.size, by simp only [Value.int.injEq, true_and]; omega, by omega, by omega, fun j h1 h2 h3 => by omega, rfl⟩
    case round =>
      obtain ⟨k, rfl, h3, hk, hno, rfl⟩ := hrel
      have hat := sgL_at (s := s.data.toList) h3 (by rw [unhide HL]; exact hk) (fun j a b c => unhide hno j a b (by rw [unhide HL] at c; exact c))
      by_cases hlt : 0 < k
      · have hp := punct_any (s.extract 0 k) wr (unhide HG) (by unfold maxLen; simp; omega)
        rw [take_min] at hp
        have i1 : (k : Int) ≤ (s.size : Int) := by omega
        cases hc : Tk.pn (s.data.toList.take k)
        · rw [hc] at hp
          have HP := hide hp
          have HC := hide hc
          clear hp hc hat
          go_wp2_with (go_at_call 113; refine (unhide HP).mono ?_; rintro e w' ⟨rfl, rfl⟩)
          go_roundw
          case rel =>
            refine ⟨k - 1, by go_num, by omega, by omega, fun j a b c => ?_, trivial⟩
            by_cases hjk : j = k
            · subst hjk; exact unhide HC
            · exact unhide hno j (by omega) b c
          case measure => simp [intOf]; omega
        · rw [hc] at hp
          have HP := hide hp
          rw [if_neg (by omega), if_pos hc] at hat
          have HA := hide hat
          clear hp hc hat
          go_wp2_with (go_at_call 113; refine (unhide HP).mono ?_; rintro e w' ⟨rfl, rfl⟩)
          go_ret
          exact ⟨by rw [unhide HA]; rfl, rfl⟩
      · rw [if_pos (by omega)] at hat
        have HA := hide hat
        clear hat
        go_wp2
        go_ret
        exact ⟨by rw [unhide HA]; rfl, rfl⟩

end Go.Proofs.YtmpkgjonbjpohaaGreatDoor
namespace Go.Proofs.YtmpkgjonbjpohaaGreatDoor
open Go Go.RowKit
set_option linter.unusedVariables false

theorem Tk.pre_iff (p l : List UInt8) : Tk.pre p l = true ↔ p <+: l := List.isPrefixOf_iff_prefix
theorem pre_eq (s p : ByteArray) (h : p.size ≤ s.size) : ((s.extract 0 p.size).toList == p.toList) = Tk.pre p.data.toList s.data.toList := by
  rw [ByteArray.toList_eq, ByteArray.toList_eq, Bool.eq_iff_iff, beq_iff_eq, Tk.pre_iff, List.prefix_iff_eq_take]
  have e : (s.extract 0 p.size).data.toList = s.data.toList.take p.data.toList.length := by
    rw [ByteArray.data_extract, Array.toList_extract]; simp [List.extract]
  rw [e]
  exact eq_comm
theorem pre_long (s p : ByteArray) (h : ¬ p.size ≤ s.size) : false = Tk.pre p.data.toList s.data.toList := by
  symm
  rw [Bool.eq_false_iff]
  intro hp
  have := ((Tk.pre_iff _ _).1 hp).length_le
  simp at this
  exact h this

set_option maxHeartbeats 400000 in
theorem hasPre0 (s p : ByteArray) (w : World) (hs : s.size ≤ maxLen) (hp : p.size ≤ maxLen) :
    Calls Tryz.prog 139 #[.string s, .string p] w fun e w' => e = .returned (.bool (Tk.pre p.data.toList s.data.toList)) ∧ w' = w := by
  unfold maxLen at hs hp
  by_cases hl : p.size ≤ s.size
  · have H := hide (pre_eq s p hl)
    go_enter Tryz.func139, Tryz.ntmps139
    go_wp2
    go_ret
    exact ⟨by rw [← unhide H]; rfl, rfl⟩
  · have H := hide (pre_long s p hl)
    go_enter Tryz.func139, Tryz.ntmps139
    go_wp2
    go_ret
    exact ⟨by rw [← unhide H]; rfl, rfl⟩

set_option maxHeartbeats 400000 in
theorem hasPre (s p : ByteArray) (w : World) (hs : s.size ≤ maxLen) (hp : p.size ≤ maxLen) :
    Calls Tryz.prog 126 #[.string s, .string p] w fun e w' => e = .returned (.bool (Tk.pre p.data.toList s.data.toList)) ∧ w' = w := by
  go_enter Tryz.func126, Tryz.ntmps126
  go_wp2_with (go_at_call 139; refine (hasPre0 _ _ _ hs hp).mono ?_; rintro e w' ⟨rfl, rfl⟩)
  go_ret
  exact ⟨rfl, rfl⟩
theorem drop_data (s : ByteArray) (k : Nat) : (s.extract k s.size).data.toList = s.data.toList.drop k := by
  rw [ByteArray.data_extract, Array.toList_extract]; simp only [List.extract]; exact List.take_of_length_le (by simp)
/-- .. of a text's rest, held against two bytes. -/
theorem hasPre2 (s : ByteArray) (k : Nat) (a b : UInt8) (w : World) (hs : s.size ≤ 140737488355328) :
    Calls Tryz.prog 126 #[.string (s.extract k s.size), .string ⟨#[a, b]⟩] w fun e w' => e = .returned (.bool (Tk.pre [a, b] (s.data.toList.drop k))) ∧ w' = w := by
  rw [← drop_data]
  exact hasPre _ _ w (by unfold maxLen; simp; omega) (by unfold maxLen; show 2 ≤ _; omega)
end Go.Proofs.YtmpkgjonbjpohaaGreatDoor
