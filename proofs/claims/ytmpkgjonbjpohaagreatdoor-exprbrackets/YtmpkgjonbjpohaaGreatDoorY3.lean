/-
  strconv's own ParseUint at 8 bits.
  strconv.ParseUint at 8 bits; readCode.
  Package cond: Number.
  Package cond: isPlain, readCode, readEscape.
  Package cond: readEscape.
  Package cond: readChar, Char.
-/
import Derived.Test.YtmpkgjonbjpohaaGreatDoorC1
import Derived.Test.YtmpkgjonbjpohaaGreatDoorCa
import Derived.Test.YtmpkgjonbjpohaaGreatDoorC6
import Derived.Test.YtmpkgjonbjpohaaGreatDoorAv
import Derived.Test.YtmpkgjonbjpohaaGreatDoorBc
namespace Go.Proofs.YtmpkgjonbjpohaaGreatDoor
open Go Go.RowKit
set_option linter.unusedVariables false
set_option linter.unusedSimpArgs false

/-- The number below 256 that bytes are, behind one that was read; 2: they are none; 1: it is too great. -/
def puB (base : Int) : Int → List UInt8 → Int × Int
  | a, [] => (a, 0)
  | a, c :: r => if base ≤ dvM c.toNat then (0, 2) else if 256 ≤ a * base + dvM c.toNat then (255, 1) else puB base (a * base + dvM c.toNat) r
set_option maxRecDepth 100000 in
set_option maxHeartbeats 8000000 in
theorem pu16b_any (t : List UInt8) (hne : t ≠ []) (hmax : t.length ≤ 140737488355328) (w : World) :
    Calls Tryz.prog 199 #[.string ⟨t.toArray⟩, .int .i64 16, .int .i64 8] w fun e w' => e = .returned (.tuple #[.int .u64 (puB 16 0 t).1, errI (puB 16 0 t).2]) ∧ Below w.heap.size w w' := by
  have HL := hide (fun c w => lower_any c w)
  have hcv := Lib.run_convert_string_bytes (P := Tryz.prog) w 9 176 5 ⟨t.toArray⟩ (u := .string) Tryz.underlying9 Tryz.underlying176 Tryz.underlying5
  have HBW := hide (below_bytes w 5 ⟨t.toArray⟩)
  have HC : Hid (∀ j (h : j < t.length), (Lib.bytesWorld w 5 ⟨t.toArray⟩).cell? ⟨w.heap.size, j, none⟩ = some (.int .u8 (t[j].toNat : Int))) := fun j h => by
    have := Lib.bytesWorld_cell w 5 ⟨t.toArray⟩ j (by show j < t.toArray.size; simpa using h)
    rw [this]
    simp [List.getD, List.getElem?_eq_getElem h]
  have hsz : (⟨t.toArray⟩ : ByteArray).size = t.length := by show t.toArray.size = _; simp
  rw [hsz] at hcv
  generalize Lib.bytesWorld w 5 ⟨t.toArray⟩ = W1 at *
  generalize grownCap w t.length 0 5 = gc at *
  have hte : (t == []) = false := by cases t with
    | nil => exact absurd rfl hne
    | cons x r => rfl
  have HZ : Hid (puB 16 0 t = puB 16 0 (t.drop 0)) := rfl
  generalize puB 16 0 t = Z at *
  clear hsz hne
  go_enter Tryz.func199, Tryz.ntmps199
  go_wp2
  go_loopg [12, 13, 101] t.length (fun gk vu vn vi wr => ∃ (k : Nat) (a : Int), gk = t.length - k ∧ vu = .bool false ∧ vn = .int .u64 a ∧ vi = .int .i64 k ∧ k ≤ t.length ∧ wr = W1 ∧ Hid (0 ≤ a ∧ a < 256 ∧ Z = puB 16 a (t.drop k)))
  case atStart => exact ⟨0, 0, rfl, rfl, rfl, rfl, by omega, rfl, by decide, by decide, unhide HZ⟩
  case round =>
    clear HZ hcv
    obtain ⟨k, a, rfl, rfl, rfl, rfl, hk, rfl, HP⟩ := hrel
    obtain ⟨a0, a1, hp⟩ := unhide HP
    by_cases hkt : k < t.length
    · have i1 : (k : Int) < (t.length : Int) := by omega
      have hc := unhide HC k hkt
      rw [List.drop_eq_getElem_cons hkt, puB] at hp
      have c0 : (0 : Int) ≤ (t[k].toNat : Int) := by omega
      have c1 : (t[k].toNat : Int) < 256 := by have := t[k].toNat_lt; omega
      generalize (t[k].toNat : Int) = c at *
      have HPP := hide hp
      clear hp HP
      by_cases hdg : 48 ≤ c ∧ c ≤ 57
      · obtain ⟨d0, d1⟩ := hdg
        have hdv : dvM c = c - 48 := by rw [dvM, if_pos ⟨d0, d1⟩]
        rw [hdv] at HPP
        clear hdv
        by_cases hbd : 16 ≤ c - 48
        · rw [Hid, if_pos hbd] at HPP
          obtain rfl := unhide HPP
          first
          | (exfalso; omega)
          | (go_wp2
             go_ret2
             exact ⟨rfl, unhide HBW⟩)
        · rw [Hid, if_neg hbd] at HPP
          by_cases hcu : 1152921504606846976 ≤ a
          · exfalso; omega
          · skip
            by_cases hov : 256 ≤ a * 16 + (c - 48)
            · rw [if_pos hov] at HPP
              obtain rfl := unhide HPP
              first
              | (exfalso; omega)
              | (go_wp2
                 go_ret2
                 exact ⟨rfl, unhide HBW⟩)
            · rw [if_neg hov] at HPP
              have HN : Hid (0 ≤ a * 16 + (c - 48) ∧ a * 16 + (c - 48) < 256 ∧ Z = puB 16 (a * 16 + (c - 48)) (t.drop (k + 1))) := ⟨by omega, by omega, unhide HPP⟩
              have m0 : 0 ≤ a * 16 := by omega
              clear HPP
              first
              | (exfalso; omega)
              | (go_wp2
                 go_roundg (t.length - (k + 1))
                 case measure => omega
                 case rel => exact ⟨k + 1, a * 16 + (c - 48), rfl, rfl, by go_num, by go_num, by omega, rfl, HN⟩)
      · by_cases h95 : c = 95
        · subst h95
          have hb95 : bits .or .u8 95 32 = 127 := by decide
          have hdv : dvM 95 = 255 := by rw [dvM, if_neg (by decide), if_neg (by rw [hb95]; decide)]
          rw [hdv, Hid, if_pos (by decide)] at HPP
          obtain rfl := unhide HPP
          clear hdv
          go_wp2_with (go_at_call 201; refine (unhide HL _ _).mono ?_; rintro e w' ⟨rfl, hw'⟩; obtain rfl := hw'.symm)
          go_ret2
          exact ⟨rfl, unhide HBW⟩
        have n95 : (c == 95) = false := by rw [beq_eq_false_iff_ne]; exact h95
        have lo0 := bits_lo_u8 .or c 32
        have lo1 := bits_hi_u8 .or c 32
        have hnd : ¬ (48 ≤ c) ∨ ¬ (c ≤ 57) := by omega
        have HLL := hide (unhide HL c)
        by_cases hlt : 97 ≤ bits .or .u8 c 32 ∧ bits .or .u8 c 32 ≤ 122
        · have hdv : dvM c = bits .or .u8 c 32 - 87 := by rw [dvM, if_neg hdg, if_pos hlt]
          rw [hdv] at HPP
          clear hdv
          obtain ⟨e0, e1⟩ := hlt
          generalize bits .or .u8 c 32 = q at *
          rcases hnd with n0 | n0
          all_goals (
            by_cases hbd : 16 ≤ q - 87
            · rw [Hid, if_pos hbd] at HPP
              obtain rfl := unhide HPP
              first
              | (exfalso; omega)
              | (go_wp2_with (go_at_call 201; refine (unhide HLL _).mono ?_; rintro e w' ⟨rfl, hw'⟩; obtain rfl := hw'.symm)
                 go_ret2
                 exact ⟨rfl, unhide HBW⟩)
            · rw [Hid, if_neg hbd] at HPP
              by_cases hcu : 1152921504606846976 ≤ a
              · exfalso; omega
              · skip
                by_cases hov : 256 ≤ a * 16 + (q - 87)
                · rw [if_pos hov] at HPP
                  obtain rfl := unhide HPP
                  first
                  | (exfalso; omega)
                  | (go_wp2_with (go_at_call 201; refine (unhide HLL _).mono ?_; rintro e w' ⟨rfl, hw'⟩; obtain rfl := hw'.symm)
                     go_ret2
                     exact ⟨rfl, unhide HBW⟩)
                · rw [if_neg hov] at HPP
                  have HN : Hid (0 ≤ a * 16 + (q - 87) ∧ a * 16 + (q - 87) < 256 ∧ Z = puB 16 (a * 16 + (q - 87)) (t.drop (k + 1))) := ⟨by omega, by omega, unhide HPP⟩
                  have m0 : 0 ≤ a * 16 := by omega
                  clear HPP
                  first
                  | (exfalso; omega)
                  | (go_wp2_with (go_at_call 201; refine (unhide HLL _).mono ?_; rintro e w' ⟨rfl, hw'⟩; obtain rfl := hw'.symm)
                     go_roundg (t.length - (k + 1))
                     case measure => omega
                     case rel => exact ⟨k + 1, a * 16 + (q - 87), rfl, rfl, by go_num, by go_num, by omega, rfl, HN⟩))
        · have hdv : dvM c = 255 := by rw [dvM, if_neg hdg, if_neg hlt]
          rw [hdv, Hid, if_pos (by decide)] at HPP
          obtain rfl := unhide HPP
          clear hdv
          generalize bits .or .u8 c 32 = q at *
          have hnl : ¬ (97 ≤ q) ∨ ¬ (q ≤ 122) := by omega
          rcases hnd with n0 | n0 <;> rcases hnl with l0 | l0
          all_goals (
            go_wp2_with (go_at_call 201; refine (unhide HLL _).mono ?_; rintro e w' ⟨rfl, hw'⟩; obtain rfl := hw'.symm)
            go_ret2
            exact ⟨rfl, unhide HBW⟩)
    · have i1 : ¬ (k : Int) < (t.length : Int) := by omega
      rw [List.drop_eq_nil_of_le (by omega), puB] at hp
      obtain rfl := hp
      clear HP
      go_wp2
      go_ret2
      exact ⟨rfl, unhide HBW⟩

set_option maxRecDepth 100000 in
set_option maxHeartbeats 8000000 in
theorem pu8b_any (t : List UInt8) (hne : t ≠ []) (hmax : t.length ≤ 140737488355328) (w : World) :
    Calls Tryz.prog 199 #[.string ⟨t.toArray⟩, .int .i64 8, .int .i64 8] w fun e w' => e = .returned (.tuple #[.int .u64 (puB 8 0 t).1, errI (puB 8 0 t).2]) ∧ Below w.heap.size w w' := by
  have HL := hide (fun c w => lower_any c w)
  have hcv := Lib.run_convert_string_bytes (P := Tryz.prog) w 9 176 5 ⟨t.toArray⟩ (u := .string) Tryz.underlying9 Tryz.underlying176 Tryz.underlying5
  have HBW := hide (below_bytes w 5 ⟨t.toArray⟩)
  have HC : Hid (∀ j (h : j < t.length), (Lib.bytesWorld w 5 ⟨t.toArray⟩).cell? ⟨w.heap.size, j, none⟩ = some (.int .u8 (t[j].toNat : Int))) := fun j h => by
    have := Lib.bytesWorld_cell w 5 ⟨t.toArray⟩ j (by show j < t.toArray.size; simpa using h)
    rw [this]
    simp [List.getD, List.getElem?_eq_getElem h]
  have hsz : (⟨t.toArray⟩ : ByteArray).size = t.length := by show t.toArray.size = _; simp
  rw [hsz] at hcv
  generalize Lib.bytesWorld w 5 ⟨t.toArray⟩ = W1 at *
  generalize grownCap w t.length 0 5 = gc at *
  have hte : (t == []) = false := by cases t with
    | nil => exact absurd rfl hne
    | cons x r => rfl
  have HZ : Hid (puB 8 0 t = puB 8 0 (t.drop 0)) := rfl
  generalize puB 8 0 t = Z at *
  clear hsz hne
  go_enter Tryz.func199, Tryz.ntmps199
  go_wp2
  go_loopg [12, 13, 101] t.length (fun gk vu vn vi wr => ∃ (k : Nat) (a : Int), gk = t.length - k ∧ vu = .bool false ∧ vn = .int .u64 a ∧ vi = .int .i64 k ∧ k ≤ t.length ∧ wr = W1 ∧ Hid (0 ≤ a ∧ a < 256 ∧ Z = puB 8 a (t.drop k)))
  case atStart => exact ⟨0, 0, rfl, rfl, rfl, rfl, by omega, rfl, by decide, by decide, unhide HZ⟩
  case round =>
    clear HZ hcv
    obtain ⟨k, a, rfl, rfl, rfl, rfl, hk, rfl, HP⟩ := hrel
    obtain ⟨a0, a1, hp⟩ := unhide HP
    by_cases hkt : k < t.length
    · have i1 : (k : Int) < (t.length : Int) := by omega
      have hc := unhide HC k hkt
      rw [List.drop_eq_getElem_cons hkt, puB] at hp
      have c0 : (0 : Int) ≤ (t[k].toNat : Int) := by omega
      have c1 : (t[k].toNat : Int) < 256 := by have := t[k].toNat_lt; omega
      generalize (t[k].toNat : Int) = c at *
      have HPP := hide hp
      clear hp HP
      by_cases hdg : 48 ≤ c ∧ c ≤ 57
      · obtain ⟨d0, d1⟩ := hdg
        have hdv : dvM c = c - 48 := by rw [dvM, if_pos ⟨d0, d1⟩]
        rw [hdv] at HPP
        clear hdv
        by_cases hbd : 8 ≤ c - 48
        · rw [Hid, if_pos hbd] at HPP
          obtain rfl := unhide HPP
          first
          | (exfalso; omega)
          | (go_wp2
             go_ret2
             exact ⟨rfl, unhide HBW⟩)
        · rw [Hid, if_neg hbd] at HPP
          by_cases hcu : 2305843009213693952 ≤ a
          · exfalso; omega
          · skip
            by_cases hov : 256 ≤ a * 8 + (c - 48)
            · rw [if_pos hov] at HPP
              obtain rfl := unhide HPP
              first
              | (exfalso; omega)
              | (go_wp2
                 go_ret2
                 exact ⟨rfl, unhide HBW⟩)
            · rw [if_neg hov] at HPP
              have HN : Hid (0 ≤ a * 8 + (c - 48) ∧ a * 8 + (c - 48) < 256 ∧ Z = puB 8 (a * 8 + (c - 48)) (t.drop (k + 1))) := ⟨by omega, by omega, unhide HPP⟩
              have m0 : 0 ≤ a * 8 := by omega
              clear HPP
              first
              | (exfalso; omega)
              | (go_wp2
                 go_roundg (t.length - (k + 1))
                 case measure => omega
                 case rel => exact ⟨k + 1, a * 8 + (c - 48), rfl, rfl, by go_num, by go_num, by omega, rfl, HN⟩)
      · by_cases h95 : c = 95
        · subst h95
          have hb95 : bits .or .u8 95 32 = 127 := by decide
          have hdv : dvM 95 = 255 := by rw [dvM, if_neg (by decide), if_neg (by rw [hb95]; decide)]
          rw [hdv, Hid, if_pos (by decide)] at HPP
          obtain rfl := unhide HPP
          clear hdv
          go_wp2_with (go_at_call 201; refine (unhide HL _ _).mono ?_; rintro e w' ⟨rfl, hw'⟩; obtain rfl := hw'.symm)
          go_ret2
          exact ⟨rfl, unhide HBW⟩
        have n95 : (c == 95) = false := by rw [beq_eq_false_iff_ne]; exact h95
        have lo0 := bits_lo_u8 .or c 32
        have lo1 := bits_hi_u8 .or c 32
        have hnd : ¬ (48 ≤ c) ∨ ¬ (c ≤ 57) := by omega
        have HLL := hide (unhide HL c)
        by_cases hlt : 97 ≤ bits .or .u8 c 32 ∧ bits .or .u8 c 32 ≤ 122
        · have hdv : dvM c = bits .or .u8 c 32 - 87 := by rw [dvM, if_neg hdg, if_pos hlt]
          rw [hdv] at HPP
          clear hdv
          obtain ⟨e0, e1⟩ := hlt
          generalize bits .or .u8 c 32 = q at *
          rcases hnd with n0 | n0
          all_goals (
            by_cases hbd : 8 ≤ q - 87
            · rw [Hid, if_pos hbd] at HPP
              obtain rfl := unhide HPP
              first
              | (exfalso; omega)
              | (go_wp2_with (go_at_call 201; refine (unhide HLL _).mono ?_; rintro e w' ⟨rfl, hw'⟩; obtain rfl := hw'.symm)
                 go_ret2
                 exact ⟨rfl, unhide HBW⟩)
            · rw [Hid, if_neg hbd] at HPP
              by_cases hcu : 2305843009213693952 ≤ a
              · exfalso; omega
              · skip
                by_cases hov : 256 ≤ a * 8 + (q - 87)
                · rw [if_pos hov] at HPP
                  obtain rfl := unhide HPP
                  first
                  | (exfalso; omega)
                  | (go_wp2_with (go_at_call 201; refine (unhide HLL _).mono ?_; rintro e w' ⟨rfl, hw'⟩; obtain rfl := hw'.symm)
                     go_ret2
                     exact ⟨rfl, unhide HBW⟩)
                · rw [if_neg hov] at HPP
                  have HN : Hid (0 ≤ a * 8 + (q - 87) ∧ a * 8 + (q - 87) < 256 ∧ Z = puB 8 (a * 8 + (q - 87)) (t.drop (k + 1))) := ⟨by omega, by omega, unhide HPP⟩
                  have m0 : 0 ≤ a * 8 := by omega
                  clear HPP
                  first
                  | (exfalso; omega)
                  | (go_wp2_with (go_at_call 201; refine (unhide HLL _).mono ?_; rintro e w' ⟨rfl, hw'⟩; obtain rfl := hw'.symm)
                     go_roundg (t.length - (k + 1))
                     case measure => omega
                     case rel => exact ⟨k + 1, a * 8 + (q - 87), rfl, rfl, by go_num, by go_num, by omega, rfl, HN⟩))
        · have hdv : dvM c = 255 := by rw [dvM, if_neg hdg, if_neg hlt]
          rw [hdv, Hid, if_pos (by decide)] at HPP
          obtain rfl := unhide HPP
          clear hdv
          generalize bits .or .u8 c 32 = q at *
          have hnl : ¬ (97 ≤ q) ∨ ¬ (q ≤ 122) := by omega
          rcases hnd with n0 | n0 <;> rcases hnl with l0 | l0
          all_goals (
            go_wp2_with (go_at_call 201; refine (unhide HLL _).mono ?_; rintro e w' ⟨rfl, hw'⟩; obtain rfl := hw'.symm)
            go_ret2
            exact ⟨rfl, unhide HBW⟩)
    · have i1 : ¬ (k : Int) < (t.length : Int) := by omega
      rw [List.drop_eq_nil_of_le (by omega), puB] at hp
      obtain rfl := hp
      clear HP
      go_wp2
      go_ret2
      exact ⟨rfl, unhide HBW⟩

end Go.Proofs.YtmpkgjonbjpohaaGreatDoor
namespace Go.Proofs.YtmpkgjonbjpohaaGreatDoor
open Go Go.RowKit
set_option linter.unusedVariables false
set_option linter.unusedSimpArgs false

def puSB (base : Int) (t : List UInt8) : Int × Int := if t = [] then (0, 2) else puB base 0 t
theorem puB_err (base : Int) : ∀ (l : List UInt8) (a : Int), (puB base a l).2 = 0 ∨ (puB base a l).2 = 1 ∨ (puB base a l).2 = 2
  | [], a => .inl rfl
  | c :: r, a => by
    rw [puB]
    split
    · exact .inr (.inr rfl)
    · split
      · exact .inr (.inl rfl)
      · exact puB_err base r _
set_option maxRecDepth 100000 in
theorem pu_nilB (base : Int) (w : World) : Calls Tryz.prog 199 #[.string ⟨#[]⟩, .int .i64 base, .int .i64 8] w fun e w' => e = .returned (.tuple #[.int .u64 0, .iface 240 (.int .i64 2)]) ∧ Below w.heap.size w w' := by
  go_enter Tryz.func199, Tryz.ntmps199
  go_wp2
  go_ret2
  exact ⟨rfl, Below.refl _ _⟩
theorem puIB_any (base : Int) (hb : base = 16 ∨ base = 8) (t : List UInt8) (hmax : t.length ≤ 140737488355328) (w : World) :
    Calls Tryz.prog 199 #[.string ⟨t.toArray⟩, .int .i64 base, .int .i64 8] w fun e w' => e = .returned (.tuple #[.int .u64 (puSB base t).1, errI (puSB base t).2]) ∧ Below w.heap.size w w' := by
  by_cases ht : t = []
  · subst ht
    exact pu_nilB base w
  · unfold puSB
    rw [if_neg ht]
    rcases hb with rfl | rfl
    · exact pu16b_any t ht hmax w
    · exact pu8b_any t ht hmax w
set_option maxRecDepth 100000 in
set_option maxHeartbeats 4000000 in
theorem ParseUintB_any (base : Int) (hb : base = 16 ∨ base = 8) (t : List UInt8) (hmax : t.length ≤ 140737488355328) (w : World) (hw : 10 < w.heap.size) (hg : Eg w) :
    Calls Tryz.prog 190 #[.string ⟨t.toArray⟩, .int .i64 base, .int .i64 8] w fun e w' => PuP w (puSB base t) e w' := by
  have HI := hide (puIB_any base hb t hmax w)
  have HE : Hid (∀ k W, (k = 1 ∨ k = 2) → Below w.heap.size w W → Calls Tryz.prog 200 #[.string ⟨#[80, 97, 114, 115, 101, 85, 105, 110, 116]⟩, .string ⟨t.toArray⟩, .int .i64 base, .int .i64 8, .iface 240 (.int .i64 k)] W fun e w' => (∃ v, e = .returned (.iface 242 v)) ∧ Below W.heap.size W w') := fun k W hk hB =>
    toError_any clone_str _ _ base 8 k W hk (by show t.toArray.size ≤ _; simp; omega) (Nat.lt_of_lt_of_le hw hB.size) (hg.below hB hw)
  have hz : (puSB base t).2 = 0 ∨ (puSB base t).2 = 1 ∨ (puSB base t).2 = 2 := by
    unfold puSB
    split
    · exact .inr (.inr rfl)
    · exact puB_err _ _ _
  generalize puSB base t = Z at *
  obtain ⟨n, k⟩ := Z
  simp only at hz HI
  have h1 := neI
  have h2 := neN
  clear hg hw hmax hb
  rcases hz with rfl | hk
  · rw [show errI 0 = .nilIface from rfl] at HI
    go_enter Tryz.func190, Tryz.ntmps190
    go_wp2_with fail
    refine (unhide HI).mono ?_
    rintro e W1 ⟨rfl, hb1⟩
    have HB := hide hb1
    clear hb1
    go_wp2
    go_ret2
    exact ⟨⟨_, rfl, .inl ⟨rfl, rfl⟩⟩, unhide HB⟩
  · have hk0 : k ≠ 0 := by omega
    rw [show errI k = .iface 240 (.int .i64 k) by rw [errI, if_neg hk0]] at HI
    have HE2 := hide (fun W => unhide HE k W hk)
    have HK0 := hide hk0
    clear hk hk0
    go_enter Tryz.func190, Tryz.ntmps190
    go_wp2_with fail
    refine (unhide HI).mono ?_
    rintro e W1 ⟨rfl, hb1⟩
    have HB := hide hb1
    have H3 := hide (unhide HE2 W1 hb1)
    clear hb1
    go_wp2_with fail
    refine (unhide H3).mono ?_
    rintro e W2 ⟨⟨v, rfl⟩, hb2⟩
    have HB2 := hide ((unhide HB).trans (hb2.mono (unhide HB).size))
    clear hb2
    go_wp2
    go_ret2
    exact ⟨⟨_, rfl, .inr ⟨unhide HK0, _, rfl⟩⟩, unhide HB2⟩
end Go.Proofs.YtmpkgjonbjpohaaGreatDoor
namespace Go.Proofs.YtmpkgjonbjpohaaGreatDoor
open Go Go.RowKit
set_option linter.unusedVariables false
set_option linter.unusedSimpArgs false

set_option maxRecDepth 100000 in
set_option maxHeartbeats 4000000 in
theorem Number_any (s : List UInt8) (hs : s.length ≤ 140737488355328) (w : World) (hw : 10 < w.heap.size) (hg : Eg w) :
    Calls Tryz.prog 164 #[.string ⟨s.toArray⟩] w fun e w' => e = .returned (evalV (numM s)) ∧ Below w.heap.size w w' := by
  have HR := hide (readNumber_any s hs w hw hg)
  generalize numM s = Z at *
  obtain ⟨⟨b, u⟩, ok⟩ := Z
  simp only [evalV, Vl.v] at *
  clear hg hw hs
  go_enter Tryz.func164, Tryz.ntmps164
  go_wp2_with fail
  refine (unhide HR).mono ?_
  rintro e W1 ⟨rfl, hb1⟩
  have HB := hide (hb1.trans ((below_new W1 (.cells #[.int .u64 b, .bool u] 222)).mono hb1.size))
  have hn : VBox (W1.alloc (.cells #[.int .u64 b, .bool u] 222)) W1.heap.size (.int .u64 b) u := World.alloc_heap_new W1 _
  obtain ⟨c0, c1⟩ := hn.two
  clear hb1 HR hn
  cases ok
  · go_wp2
    go_ret3
    exact ⟨rfl, unhide HB⟩
  · go_upto_region 4 with fail
    go_quiet (fail)
    go_wp2
    go_ret3
    exact ⟨rfl, below_drewN (unhide HB) _⟩
end Go.Proofs.YtmpkgjonbjpohaaGreatDoor
namespace Go.Proofs.YtmpkgjonbjpohaaGreatDoor
open Go Go.RowKit
set_option linter.unusedVariables false
set_option linter.unusedSimpArgs false

/-- Is a byte a character as it stands? -/
def plainM (c : Int) : Bool := c != 39 && c != 92 && c != 13 && c != 10
set_option maxRecDepth 100000 in
set_option maxHeartbeats 4000000 in
theorem isPlain_any (c : Int) (w : World) : Calls Tryz.prog 178 #[.int .u8 c] w fun e w' => e = .returned (.bool (plainM c)) ∧ w' = w := by
  cases h1 : c != 39 <;> cases h2 : c != 92 <;> cases h3 : c != 13 <;> cases h4 : c != 10
  all_goals (
    go_enter Tryz.func178, Tryz.ntmps178
    go_wp2
    go_ret
    exact ⟨by simp [plainM, h1, h2, h3, h4], rfl⟩)

theorem puB_range (base : Int) (hb : 0 ≤ base) : ∀ (l : List UInt8) (a : Int), 0 ≤ a → a < 256 → 0 ≤ (puB base a l).1 ∧ (puB base a l).1 < 256
  | [], a, h0, h1 => ⟨h0, h1⟩
  | c :: r, a, h0, h1 => by
    have hd : 0 ≤ dvM (c.toNat : Int) := by
      unfold dvM
      split
      · omega
      · split
        · omega
        · omega
    have hm : 0 ≤ a * base := Int.mul_nonneg h0 hb
    rw [puB]
    split
    · exact ⟨by decide, by decide⟩
    · split
      · exact ⟨by decide, by decide⟩
      · exact puB_range base hb r _ (by omega) (by omega)
theorem puSB_range (base : Int) (hb : 0 ≤ base) (t : List UInt8) : 0 ≤ (puSB base t).1 ∧ (puSB base t).1 < 256 := by
  unfold puSB
  split
  · exact ⟨by decide, by decide⟩
  · exact puB_range base hb t 0 (by decide) (by decide)
/-- A code, and whether it is one. -/
def codeM (base : Int) (s : List UInt8) : Int × Bool :=
  if base == 8 && decide (3 < s.length) then (0, false) else if (puSB base s).2 ≠ 0 then (0, false) else ((puSB base s).1, true)
set_option maxRecDepth 100000 in
set_option maxHeartbeats 4000000 in
theorem readCode_any (base : Int) (hb : base = 16 ∨ base = 8) (s : List UInt8) (hs : s.length ≤ 140737488355328) (w : World) (hw : 10 < w.heap.size) (hg : Eg w) :
    Calls Tryz.prog 192 #[.string ⟨s.toArray⟩, .int .i64 base] w fun e w' => e = .returned (.tuple #[.int .u8 (codeM base s).1, .bool (codeM base s).2]) ∧ Below w.heap.size w w' := by
  have HP := hide (ParseUintB_any base hb s hs w hw hg)
  have HR : Hid (codeM base s = if base == 8 && decide (3 < s.length) then (0, false) else if (puSB base s).2 ≠ 0 then (0, false) else ((puSB base s).1, true)) := rfl
  have hrg := puSB_range base (by omega) s
  generalize codeM base s = R at *
  generalize puSB base s = Z at *
  obtain ⟨z, k⟩ := Z
  simp only at HR hrg
  have hwz : z % 256 = z := by omega
  have HWZ := hide hwz
  clear hrg hwz hg hw hs
  have hne := neE
  have hnn := neN
  have hsz : (⟨s.toArray⟩ : ByteArray).size = s.length := by show s.toArray.size = _; simp
  have hwalk : ∀ (X : Bool), (base == 8 && decide (3 < s.length)) = X → Calls Tryz.prog 192 #[.string ⟨s.toArray⟩, .int .i64 base] w fun e w' => e = .returned (.tuple #[.int .u8 R.1, .bool R.2]) ∧ Below w.heap.size w w' := by
    intro X hX
    rw [hX] at HR
    have hb8 : (base == 8) = true ∨ (base == 8) = false := by cases (base == 8) <;> simp
    cases X
    · simp only [Bool.false_eq_true, if_false] at HR
      rcases hb8 with h8 | h8
      · have hl : ¬ (3 : Int) < (s.length : Int) := by simp [h8] at hX; omega
        clear hX hb
        go_enter Tryz.func192, Tryz.ntmps192
        go_wp2_with fail
        refine (unhide HP).mono ?_
        rintro e W1 ⟨⟨er, rfl, hcase⟩, hb1⟩
        have HB := hide hb1
        clear hb1 HP
        simp only at hcase
        rcases hcase with ⟨hz, rfl⟩ | ⟨hz, v, rfl⟩
        · rw [if_neg (by simpa using hz)] at HR
          obtain rfl := unhide HR
          go_wp2
          go_ret2
          exact ⟨by rw [unhide HWZ]; rfl, unhide HB⟩
        · rw [if_pos (by simpa using hz)] at HR
          obtain rfl := unhide HR
          go_wp2
          go_ret2
          exact ⟨rfl, unhide HB⟩
      · clear hX hb
        go_enter Tryz.func192, Tryz.ntmps192
        go_wp2_with fail
        refine (unhide HP).mono ?_
        rintro e W1 ⟨⟨er, rfl, hcase⟩, hb1⟩
        have HB := hide hb1
        clear hb1 HP
        simp only at hcase
        rcases hcase with ⟨hz, rfl⟩ | ⟨hz, v, rfl⟩
        · rw [if_neg (by simpa using hz)] at HR
          obtain rfl := unhide HR
          go_wp2
          go_ret2
          exact ⟨by rw [unhide HWZ]; rfl, unhide HB⟩
        · rw [if_pos (by simpa using hz)] at HR
          obtain rfl := unhide HR
          go_wp2
          go_ret2
          exact ⟨rfl, unhide HB⟩
    · simp only [if_true] at HR
      obtain rfl := unhide HR
      simp only [Bool.and_eq_true, decide_eq_true_eq] at hX
      obtain ⟨h8, h3⟩ := hX
      have hl : (3 : Int) < (s.length : Int) := by omega
      clear hb
      go_enter Tryz.func192, Tryz.ntmps192
      go_wp2
      go_ret2
      exact ⟨rfl, Below.refl _ _⟩
  exact hwalk _ rfl

end Go.Proofs.YtmpkgjonbjpohaaGreatDoor
namespace Go.Proofs.YtmpkgjonbjpohaaGreatDoor
open Go Go.RowKit
set_option linter.unusedVariables false
set_option linter.unusedSimpArgs false

/-- What an escape is worth, from behind the backslash on. -/
def escpM (s : List UInt8) : Int × Bool :=
  if Tk.pre [120] s then codeM 16 (s.drop 1)
  else match s with
    | [] => (0, false)
    | c :: r => if digM c.toNat 8 then codeM 8 (c :: r) else if r == [] then escM c.toNat else (0, false)
theorem escpM_nil : escpM [] = (0, false) := rfl
theorem escpM_is (s : List UInt8) (h : 0 < s.length) (hp : Tk.pre [120] s = false) : escpM s = if digM (s[0].toNat : Int) 8 then codeM 8 s else if s.length == 1 then escM (s[0].toNat : Int) else (0, false) := by
  match s, h with
  | c :: r, h =>
    rw [escpM, hp]
    simp only [Bool.false_eq_true, if_false, List.getElem_cons_zero]
    cases r <;> rfl
set_option maxRecDepth 100000 in
set_option maxHeartbeats 400000 in
theorem escape_no (s : List UInt8) (hn : 0 < s.length) (h1 : (s.length == 1) = false) (w : World)
    (H1 : Hid (∀ W, Calls Tryz.prog 126 #[.string ⟨s.toArray⟩, .string ⟨#[120]⟩] W fun e w' => e = .returned (.bool false) ∧ w' = W))
    (HD : Hid (∀ W, Calls Tryz.prog 189 #[.int .u8 (s[0].toNat : Int), .int .i64 8] W fun e w' => e = .returned (.bool false) ∧ w' = W)) :
    Calls Tryz.prog 177 #[.string ⟨s.toArray⟩] w fun e w' => e = .returned (.tuple #[.int .u8 0, .bool false]) ∧ Below w.heap.size w w' := by
  have hlen : (⟨s.toArray⟩ : ByteArray).size = s.length := by show s.toArray.size = _; simp
  have i0 : (0 : Int) < (s.length : Int) := by omega
  have i1 : ((s.length : Int) == 1) = false := by simp at h1 ⊢; omega
  clear h1
  go_enter Tryz.func177, Tryz.ntmps177
  go_wp2_with (first
    | (go_at_call 126; refine (unhide H1 _).mono ?_; rintro e w' ⟨rfl, hw'⟩; obtain rfl := hw'.symm)
    | (go_at_call 189; refine (unhide HD _).mono ?_; rintro e w' ⟨rfl, hw'⟩; obtain rfl := hw'.symm))
  go_ret2
  exact ⟨rfl, Below.refl _ _⟩
set_option maxRecDepth 100000 in
set_option maxHeartbeats 400000 in
theorem escape_one (s : List UInt8) (hn : 0 < s.length) (h1 : (s.length == 1) = true) (w : World) (em : Int × Bool)
    (H1 : Hid (∀ W, Calls Tryz.prog 126 #[.string ⟨s.toArray⟩, .string ⟨#[120]⟩] W fun e w' => e = .returned (.bool false) ∧ w' = W))
    (HD : Hid (∀ W, Calls Tryz.prog 189 #[.int .u8 (s[0].toNat : Int), .int .i64 8] W fun e w' => e = .returned (.bool false) ∧ w' = W))
    (HE : Hid (∀ W, Calls Tryz.prog 193 #[.int .u8 (s[0].toNat : Int)] W fun e w' => e = .returned (.tuple #[.int .u8 em.1, .bool em.2]) ∧ w' = W)) :
    Calls Tryz.prog 177 #[.string ⟨s.toArray⟩] w fun e w' => e = .returned (.tuple #[.int .u8 em.1, .bool em.2]) ∧ Below w.heap.size w w' := by
  have hlen : (⟨s.toArray⟩ : ByteArray).size = s.length := by show s.toArray.size = _; simp
  have i0 : (0 : Int) < (s.length : Int) := by omega
  have i1 : ((s.length : Int) == 1) = true := by simp at h1 ⊢; omega
  clear h1
  go_enter Tryz.func177, Tryz.ntmps177
  go_wp2_with (first
    | (go_at_call 126; refine (unhide H1 _).mono ?_; rintro e w' ⟨rfl, hw'⟩; obtain rfl := hw'.symm)
    | (go_at_call 189; refine (unhide HD _).mono ?_; rintro e w' ⟨rfl, hw'⟩; obtain rfl := hw'.symm)
    | (go_at_call 193; refine (unhide HE _).mono ?_; rintro e w' ⟨rfl, hw'⟩; obtain rfl := hw'.symm))
  go_ret2
  exact ⟨rfl, Below.refl _ _⟩
set_option maxRecDepth 100000 in
set_option maxHeartbeats 400000 in
theorem escape_oct (s : List UInt8) (hn : 0 < s.length) (w : World) (em : Int × Bool)
    (H1 : Hid (∀ W, Calls Tryz.prog 126 #[.string ⟨s.toArray⟩, .string ⟨#[120]⟩] W fun e w' => e = .returned (.bool false) ∧ w' = W))
    (HD : Hid (∀ W, Calls Tryz.prog 189 #[.int .u8 (s[0].toNat : Int), .int .i64 8] W fun e w' => e = .returned (.bool true) ∧ w' = W))
    (HC : Hid (Calls Tryz.prog 192 #[.string ⟨s.toArray⟩, .int .i64 8] w fun e w' => e = .returned (.tuple #[.int .u8 em.1, .bool em.2]) ∧ Below w.heap.size w w')) :
    Calls Tryz.prog 177 #[.string ⟨s.toArray⟩] w fun e w' => e = .returned (.tuple #[.int .u8 em.1, .bool em.2]) ∧ Below w.heap.size w w' := by
  have hlen : (⟨s.toArray⟩ : ByteArray).size = s.length := by show s.toArray.size = _; simp
  have i0 : (0 : Int) < (s.length : Int) := by omega
  go_enter Tryz.func177, Tryz.ntmps177
  go_wp2_with (first
    | (go_at_call 126; refine (unhide H1 _).mono ?_; rintro e w' ⟨rfl, hw'⟩; obtain rfl := hw'.symm)
    | (go_at_call 189; refine (unhide HD _).mono ?_; rintro e w' ⟨rfl, hw'⟩; obtain rfl := hw'.symm)
    | (go_at_call 192; refine (unhide HC).mono ?_; rintro e W1 ⟨rfl, hb1⟩))
  go_ret2
  exact ⟨rfl, hb1⟩
set_option maxRecDepth 100000 in
set_option maxHeartbeats 400000 in
theorem escape_nil (w : World)
    (H1 : Hid (∀ W, Calls Tryz.prog 126 #[.string ⟨#[]⟩, .string ⟨#[120]⟩] W fun e w' => e = .returned (.bool false) ∧ w' = W)) :
    Calls Tryz.prog 177 #[.string ⟨#[]⟩] w fun e w' => e = .returned (.tuple #[.int .u8 0, .bool false]) ∧ Below w.heap.size w w' := by
  go_enter Tryz.func177, Tryz.ntmps177
  go_wp2_with (go_at_call 126; refine (unhide H1 _).mono ?_; rintro e w' ⟨rfl, hw'⟩; obtain rfl := hw'.symm)
  go_ret2
  exact ⟨rfl, Below.refl _ _⟩
set_option maxRecDepth 100000 in
set_option maxHeartbeats 400000 in
theorem escape_hex (s : List UInt8) (hn : 1 ≤ s.length) (w : World) (em : Int × Bool)
    (H1 : Hid (∀ W, Calls Tryz.prog 126 #[.string ⟨s.toArray⟩, .string ⟨#[120]⟩] W fun e w' => e = .returned (.bool true) ∧ w' = W))
    (HC : Hid (Calls Tryz.prog 192 #[.string ⟨(s.drop 1).toArray⟩, .int .i64 16] w fun e w' => e = .returned (.tuple #[.int .u8 em.1, .bool em.2]) ∧ Below w.heap.size w w')) :
    Calls Tryz.prog 177 #[.string ⟨s.toArray⟩] w fun e w' => e = .returned (.tuple #[.int .u8 em.1, .bool em.2]) ∧ Below w.heap.size w w' := by
  have hlen : (⟨s.toArray⟩ : ByteArray).size = s.length := by show s.toArray.size = _; simp
  have HX : (⟨s.toArray⟩ : ByteArray).extract 1 s.length = ⟨(s.drop 1).toArray⟩ := by rw [ext_list, List.take_length]
  have i0 : (1 : Int) ≤ (s.length : Int) := by omega
  generalize s.drop 1 = t at *
  go_enter Tryz.func177, Tryz.ntmps177
  go_wp2_with (first
    | (go_at_call 126; refine (unhide H1 _).mono ?_; rintro e w' ⟨rfl, hw'⟩; obtain rfl := hw'.symm)
    | (go_at_call 192; refine (unhide HC).mono ?_; rintro e W1 ⟨rfl, hb1⟩))
  go_ret2
  exact ⟨rfl, hb1⟩
theorem readEscape_any (s : List UInt8) (hs : s.length ≤ 140737488355328) (w : World) (hw : 10 < w.heap.size) (hg : Eg w) :
    Calls Tryz.prog 177 #[.string ⟨s.toArray⟩] w fun e w' => e = .returned (.tuple #[.int .u8 (escpM s).1, .bool (escpM s).2]) ∧ Below w.heap.size w w' := by
  have hsz : (⟨s.toArray⟩ : ByteArray).size ≤ maxLen := by show s.toArray.size ≤ _; simp; unfold maxLen; omega
  have H1 := hide (fun W => hasPre ⟨s.toArray⟩ ⟨#[120]⟩ W hsz (by unfold maxLen; decide))
  simp only at H1
  cases hp : Tk.pre [120] s
  · rw [hp] at H1
    by_cases hn : 0 < s.length
    · rw [escpM_is s hn hp]
      have HD := hide (fun W => isDigitC_any (s[0].toNat : Int) 8 W)
      cases hd : digM (s[0].toNat : Int) 8
      · rw [hd] at HD
        simp only [Bool.false_eq_true, if_false]
        cases h1 : s.length == 1
        · simp only [Bool.false_eq_true, if_false]
          exact escape_no s hn h1 w H1 HD
        · simp only [if_true]
          exact escape_one s hn h1 w _ H1 HD (fun W => plainEscape_any _ W)
      · rw [hd] at HD
        simp only [if_true]
        exact escape_oct s hn w _ H1 HD (readCode_any 8 (.inr rfl) s hs w hw hg)
    · obtain rfl : s = [] := List.length_eq_zero_iff.1 (by omega)
      rw [escpM_nil]
      exact escape_nil w H1
  · have hl1 : 1 ≤ s.length := by
      match s, hp with
      | [], h => simp [Tk.pre] at h
      | c :: r, _ => simp
    rw [hp] at H1
    rw [show escpM s = codeM 16 (s.drop 1) by unfold escpM; rw [hp]; rfl]
    exact escape_hex s hl1 w _ H1 (readCode_any 16 (.inl rfl) (s.drop 1) (by simp; omega) w hw hg)
end Go.Proofs.YtmpkgjonbjpohaaGreatDoor
namespace Go.Proofs.YtmpkgjonbjpohaaGreatDoor
open Go Go.RowKit
set_option linter.unusedVariables false
set_option linter.unusedSimpArgs false

/-- What stands between a character's ends. -/
def innM (s : List UInt8) : List UInt8 := (s.drop 1).take (s.length - 2)
/-- Are a text's ends those of a character, with a byte between? -/
def endsM (s : List UInt8) : Bool := decide (3 ≤ s.length) && (s.head? == some 39 && s.getLast? == some 39)
/-- What stands between the ends is worth. -/
def inM : List UInt8 → Int × Bool
  | [] => (0, false)
  | c :: r => if c == 92 then escpM r else (c.toNat, r == [] && plainM c.toNat)
/-- The byte that a character is, and whether it is one. -/
def rdM (s : List UInt8) : Int × Bool := if endsM s then inM (innM s) else (0, false)
theorem innM_len (s : List UInt8) : (innM s).length = s.length - 2 := by unfold innM; simp; omega
theorem inM_is (t : List UInt8) (h : 0 < t.length) : inM t = if (t[0].toNat : Int) == 92 then escpM (t.drop 1) else ((t[0].toNat : Int), t.length == 1 && plainM (t[0].toNat : Int)) := by
  match t, h with
  | c :: r, h =>
    simp only [inM, List.getElem_cons_zero, List.drop_succ_cons, List.drop_zero]
    have e1 : (c == 92) = ((c.toNat : Int) == 92) := by
      have : c = 92 ↔ c.toNat = 92 := ⟨fun h => by rw [h]; rfl, fun h => UInt8.toNat_inj.1 h⟩
      rw [Bool.eq_iff_iff]; simp [this]; omega
    have e2 : (r == []) = ((c :: r).length == 1) := by cases r <;> simp
    rw [e1, e2]
theorem endsM_is (s : List UInt8) (h : 3 ≤ s.length) : endsM s = ((s[0].toNat : Int) == 39 && (s[s.length - 1].toNat : Int) == 39) := by
  have e : ∀ c : UInt8, (some c == some (39 : UInt8)) = ((c.toNat : Int) == 39) := fun c => by
    have : c = 39 ↔ c.toNat = 39 := ⟨fun h => by rw [h]; rfl, fun h => UInt8.toNat_inj.1 h⟩
    rw [Bool.eq_iff_iff]; simp [this]; omega
  unfold endsM
  rw [decide_eq_true h, Bool.true_and, List.head?_eq_getElem?, List.getElem?_eq_getElem (by omega), List.getLast?_eq_getElem?, List.getElem?_eq_getElem (by omega), e, e]
set_option maxRecDepth 100000 in
set_option maxHeartbeats 400000 in
theorem char_short (B : ByteArray) (h : B.size < 3) (w : World) :
    Calls Tryz.prog 166 #[.string B] w fun e w' => e = .returned (.tuple #[.int .u8 0, .bool false]) ∧ Below w.heap.size w w' := by
  have i0 : (B.size : Int) < 3 := by omega
  go_enter Tryz.func166, Tryz.ntmps166
  go_wp2
  go_ret2
  exact ⟨rfl, Below.refl _ _⟩
set_option maxRecDepth 100000 in
set_option maxHeartbeats 400000 in
theorem char_first (B : ByteArray) (h : 3 ≤ B.size) (hm : B.size ≤ 140737488355328) (w : World) (h1 : ((B[0].toNat : Int) != 39) = true) :
    Calls Tryz.prog 166 #[.string B] w fun e w' => e = .returned (.tuple #[.int .u8 0, .bool false]) ∧ Below w.heap.size w w' := by
  have i0 : ¬ (B.size : Int) < 3 := by omega
  have i1 : 0 < B.size := by omega
  go_enter Tryz.func166, Tryz.ntmps166
  go_wp2
  go_ret2
  exact ⟨rfl, Below.refl _ _⟩
set_option maxRecDepth 100000 in
set_option maxHeartbeats 400000 in
theorem char_last (B : ByteArray) (h : 3 ≤ B.size) (hm : B.size ≤ 140737488355328) (w : World) (h1 : ((B[0].toNat : Int) != 39) = false) (h2 : ((B[B.size - 1].toNat : Int) != 39) = true) :
    Calls Tryz.prog 166 #[.string B] w fun e w' => e = .returned (.tuple #[.int .u8 0, .bool false]) ∧ Below w.heap.size w w' := by
  have i0 : ¬ (B.size : Int) < 3 := by omega
  have i1 : 0 < B.size := by omega
  have i2 : (1 : Int) ≤ (B.size : Int) := by omega
  have i3 : (B.size : Int) - 1 < (B.size : Int) := by omega
  go_enter Tryz.func166, Tryz.ntmps166
  go_wp2
  go_ret2
  exact ⟨rfl, Below.refl _ _⟩
set_option maxRecDepth 100000 in
set_option maxHeartbeats 400000 in
theorem char_in (B : ByteArray) (h : 3 ≤ B.size) (hm : B.size ≤ 140737488355328) (w : World) (h1 : ((B[0].toNat : Int) != 39) = false) (h2 : ((B[B.size - 1].toNat : Int) != 39) = false)
    (T : ByteArray) (hT : B.extract 1 (B.size - 1) = T) (hT0 : 0 < T.size) (Z : Int × Bool)
    (HE : Hid (((T[0].toNat : Int) == 92) = true → ∀ T2, T.extract 1 T.size = T2 → Calls Tryz.prog 177 #[.string T2] w fun e w' => e = .returned (.tuple #[.int .u8 Z.1, .bool Z.2]) ∧ Below w.heap.size w w'))
    (HN : Hid (((T[0].toNat : Int) == 92) = false → Z = ((T[0].toNat : Int), T.size == 1 && plainM (T[0].toNat : Int)))) :
    Calls Tryz.prog 166 #[.string B] w fun e w' => e = .returned (.tuple #[.int .u8 Z.1, .bool Z.2]) ∧ Below w.heap.size w w' := by
  have i0 : ¬ (B.size : Int) < 3 := by omega
  have i1 : 0 < B.size := by omega
  have i2 : (1 : Int) ≤ (B.size : Int) := by omega
  have i3 : (B.size : Int) - 1 < (B.size : Int) := by omega
  have i4 : (1 : Int) ≤ (B.size : Int) - 1 := by omega
  have i5 : (1 : Int) ≤ (T.size : Int) := by omega
  have hsl : ∀ W : World, (Instr.slice 9 (.string B) (some (.int .i64 1)) (some (.int .i64 ((B.size : Int) - 1))) none).run Tryz.prog W = .ok (.string T) W := fun W => by
    have := run_slice_string (P := Tryz.prog) (w := W) 9 B .i64 .i64 1 ((B.size : Int) - 1) Tryz.underlying9 (by omega) (by omega) (by omega)
    rw [this, ← hT]
    have : ((B.size : Int) - 1).toNat = B.size - 1 := by omega
    rw [this]; rfl
  clear hT
  cases h3 : (T[0].toNat : Int) == 92
  · have HZ := hide (unhide HN h3)
    have HP := hide (fun W => isPlain_any (T[0].toNat : Int) W)
    generalize plainM (T[0].toNat : Int) = pm at *
    clear HE HN
    go_enter Tryz.func166, Tryz.ntmps166
    cases hts : T.size == 1
    · rw [hts] at HZ
      simp only [Bool.false_and] at HZ
      obtain rfl := unhide HZ
      have hts' : ((T.size : Int) == 1) = false := by simp at hts ⊢; omega
      clear HZ hts
      go_upto_region 6 with fail
      go_quiet (fail)
      go_wp2
      go_ret2
      exact ⟨rfl, below_drewN (Below.refl _ _) _⟩
    · rw [hts] at HZ
      simp only [Bool.true_and] at HZ
      obtain rfl := unhide HZ
      have hts' : ((T.size : Int) == 1) = true := by simp at hts ⊢; omega
      clear HZ hts
      go_upto_region 6 with fail
      go_quiet ((go_at_call 178; exact Calls.quiet_of_same (unhide HP _)))
      go_wp2
      go_ret2
      exact ⟨rfl, below_drewN (Below.refl _ _) _⟩
  · obtain ⟨T2, hT2⟩ : ∃ T2, T.extract 1 T.size = T2 := ⟨_, rfl⟩
    have HC := hide (unhide HE h3 T2 hT2)
    clear HE HN
    go_enter Tryz.func166, Tryz.ntmps166
    go_wp2_with (go_at_call 177; refine (unhide HC).mono ?_; rintro e W1 ⟨rfl, hb1⟩)
    go_ret2
    exact ⟨rfl, hb1⟩
theorem readChar_any (s : List UInt8) (hs : s.length ≤ 140737488355328) (w : World) (hw : 10 < w.heap.size) (hg : Eg w) :
    Calls Tryz.prog 166 #[.string ⟨s.toArray⟩] w fun e w' => e = .returned (.tuple #[.int .u8 (rdM s).1, .bool (rdM s).2]) ∧ Below w.heap.size w w' := by
  have hlen : (⟨s.toArray⟩ : ByteArray).size = s.length := by show s.toArray.size = _; simp
  by_cases h3 : 3 ≤ s.length
  · have hat : ∀ i (h : i < s.length), (⟨s.toArray⟩ : ByteArray)[i]'(by rw [hlen]; exact h) = s[i] := fun i h => rfl
    have he := endsM_is s h3
    cases h1 : ((s[0].toNat : Int) != 39)
    · cases h2 : ((s[s.length - 1].toNat : Int) != 39)
      · have hE : endsM s = true := by rw [he]; simp only [bne_eq_false_iff_eq] at h1 h2; rw [h1, h2]; rfl
        rw [rdM, hE, if_pos rfl]
        have hil := innM_len s
        have h0 : 0 < (innM s).length := by omega
        have hil' : (⟨(innM s).toArray⟩ : ByteArray).size = (innM s).length := by show (innM s).toArray.size = _; simp
        have hX : (⟨s.toArray⟩ : ByteArray).extract 1 ((⟨s.toArray⟩ : ByteArray).size - 1) = ⟨(innM s).toArray⟩ := by
          rw [ext_list, hlen, innM, List.drop_take, show s.length - 1 - 1 = s.length - 2 by omega]
        refine char_in ⟨s.toArray⟩ (by rw [hlen]; exact h3) (by rw [hlen]; exact hs) w h1 (by simp only [hlen]; exact h2) ⟨(innM s).toArray⟩ hX (by rw [hil']; exact h0) (inM (innM s)) ?_ ?_
        · intro hc T2 hT2
          rw [inM_is _ h0]
          have hc' : ((innM s)[0].toNat : Int) == 92 := hc
          rw [if_pos hc']
          rw [ext_list, hil', List.take_length] at hT2
          subst hT2
          exact readEscape_any ((innM s).drop 1) (by simp; omega) w hw hg
        · intro hc
          rw [inM_is _ h0]
          have hc' : (((innM s)[0].toNat : Int) == 92) = false := hc
          rw [if_neg (by rw [hc']; simp)]
          simp only [hil']
          rfl
      · have hE : endsM s = false := by rw [he]; simp only [bne_iff_ne] at h2; simp [h2]
        rw [rdM, hE]
        exact char_last ⟨s.toArray⟩ (by rw [hlen]; exact h3) (by rw [hlen]; exact hs) w h1 (by simp only [hlen]; exact h2)
    · have hE : endsM s = false := by rw [he]; simp only [bne_iff_ne] at h1; simp [h1]
      rw [rdM, hE]
      exact char_first ⟨s.toArray⟩ (by rw [hlen]; exact h3) (by rw [hlen]; exact hs) w h1
  · have hE : endsM s = false := by rw [endsM, decide_eq_false h3]; rfl
    rw [rdM, hE]
    exact char_short ⟨s.toArray⟩ (by rw [hlen]; omega) w
/-- What Char tells. -/
def charV (Z : Int × Bool) : Value := if Z.2 then .tuple #[.int .i64 (wrap64 (IntKind.i8.wrap Z.1)), .int .i64 0] else .tuple #[.int .i64 0, .int .i64 50]
theorem escM_range (c : Int) (h : 0 ≤ c ∧ c < 256) : 0 ≤ (escM c).1 ∧ (escM c).1 < 256 := by
  unfold escM
  repeat' split
  all_goals first | exact h | exact ⟨by decide, by decide⟩
theorem codeM_range (base : Int) (hb : 0 ≤ base) (s : List UInt8) : 0 ≤ (codeM base s).1 ∧ (codeM base s).1 < 256 := by
  unfold codeM
  repeat' split
  · exact ⟨by decide, by decide⟩
  · exact ⟨by decide, by decide⟩
  · exact puSB_range base hb s
theorem byte_range (c : UInt8) : 0 ≤ (c.toNat : Int) ∧ (c.toNat : Int) < 256 := by have := c.toNat_lt; omega
theorem escpM_range (s : List UInt8) : 0 ≤ (escpM s).1 ∧ (escpM s).1 < 256 := by
  cases hp : Tk.pre [120] s
  · cases s with
    | nil => exact ⟨by decide, by decide⟩
    | cons c r =>
      rw [escpM_is (c :: r) (by simp) hp]
      split
      · exact codeM_range 8 (by decide) _
      · split
        · exact escM_range _ (byte_range _)
        · exact ⟨by decide, by decide⟩
  · rw [show escpM s = codeM 16 (s.drop 1) by unfold escpM; rw [hp]; rfl]
    exact codeM_range 16 (by decide) _
theorem inM_range (s : List UInt8) : 0 ≤ (inM s).1 ∧ (inM s).1 < 256 := by
  cases s with
  | nil => exact ⟨by decide, by decide⟩
  | cons c r =>
    rw [inM]
    split
    · exact escpM_range _
    · exact byte_range c
theorem rdM_range (s : List UInt8) : 0 ≤ (rdM s).1 ∧ (rdM s).1 < 256 := by
  unfold rdM
  split
  · exact inM_range _
  · exact ⟨by decide, by decide⟩
set_option maxRecDepth 100000 in
set_option maxHeartbeats 400000 in
theorem Char_any (s : List UInt8) (hs : s.length ≤ 140737488355328) (w : World) (hw : 10 < w.heap.size) (hg : Eg w) :
    Calls Tryz.prog 151 #[.string ⟨s.toArray⟩] w fun e w' => e = .returned (charV (rdM s)) ∧ Below w.heap.size w w' := by
  have HR := hide (readChar_any s hs w hw hg)
  have hr := rdM_range s
  generalize rdM s = Z at *
  obtain ⟨z, ok⟩ := Z
  simp only [charV] at *
  have HZ := hide hr
  clear hg hw hs hr
  cases ok
  · go_enter Tryz.func151, Tryz.ntmps151
    go_wp2_with (go_at_call 166; refine (unhide HR).mono ?_; rintro e W1 ⟨rfl, hb1⟩)
    go_ret2
    exact ⟨rfl, hb1⟩
  · go_enter Tryz.func151, Tryz.ntmps151
    go_wp2_with (go_at_call 166; refine (unhide HR).mono ?_; rintro e W1 ⟨rfl, hb1⟩)
    go_ret2
    exact ⟨rfl, hb1⟩
end Go.Proofs.YtmpkgjonbjpohaaGreatDoor
