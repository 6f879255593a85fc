/-
  strconv's own ParseUint at 8 bits.
  strconv.ParseUint at 8 bits; readCode.
-/
import Derived.Test.YtmpkgjonbjpohaaGreatDoorC1
import Derived.Test.YtmpkgjonbjpohaaGreatDoorCa
namespace Go.Proofs.YtmpkgjonbjpohaaGreatDoor
open Go Go.RowKit
set_option linter.unusedVariables false
set_option linter.unusedSimpArgs false

/-- The number below 256 that bytes are, behind one that was read; 2: they are none; 1: it is too great. -/
def puB (base : Int) : Int → List UInt8 → Int × Int
  | a, [] => (a, 0)
  | a, c :: r => if base ≤ dvM c.toNat then (0, 2) else if 256 ≤ a * base + dvM c.toNat then (255, 1) else puB base (a * base + dvM c.toNat) r
set_option maxRecDepth 100000 in
set_option maxHeartbeats 8000000 in
theorem pu16b_any (t : List UInt8) (hne : t ≠ []) (hmax : t.length ≤ 140737488355328) (w : World) :
    Calls Tryz.prog 199 #[.string ⟨t.toArray⟩, .int .i64 16, .int .i64 8] w fun e w' => e = .returned (.tuple #[.int .u64 (puB 16 0 t).1, errI (puB 16 0 t).2]) ∧ Below w.heap.size w w' := by
  have HL := hide (fun c w => lower_any c w)
  have hcv := Lib.run_convert_string_bytes (P := Tryz.prog) w 9 176 5 ⟨t.toArray⟩ (u := .string) Tryz.underlying9 Tryz.underlying176 Tryz.underlying5
  have HBW := hide (below_bytes w 5 ⟨t.toArray⟩)
  have HC : Hid (∀ j (h : j < t.length), (Lib.bytesWorld w 5 ⟨t.toArray⟩).cell? ⟨w.heap.size, j, none⟩ = some (.int .u8 (t[j].toNat : Int))) := fun j h => by
    have := Lib.bytesWorld_cell w 5 ⟨t.toArray⟩ j (by show j < t.toArray.size; simpa using h)
    rw [this]
    simp [List.getD, List.getElem?_eq_getElem h]
  have hsz : (⟨t.toArray⟩ : ByteArray).size = t.length := by show t.toArray.size = _; simp
  rw [hsz] at hcv
  generalize Lib.bytesWorld w 5 ⟨t.toArray⟩ = W1 at *
  generalize grownCap w t.length 0 5 = gc at *
  have hte : (t == []) = false := by cases t with
    | nil => exact absurd rfl hne
    | cons x r => rfl
  have HZ : Hid (puB 16 0 t = puB 16 0 (t.drop 0)) := rfl
  generalize puB 16 0 t = Z at *
  clear hsz hne
  go_enter Tryz.func199, Tryz.ntmps199
  go_wp2
  go_loopg [12, 13, 101] t.length (fun gk vu vn vi wr => ∃ (k : Nat) (a : Int), gk = t.length - k ∧ vu = .bool false ∧ vn = .int .u64 a ∧ vi = .int .i64 k ∧ k ≤ t.length ∧ wr = W1 ∧ Hid (0 ≤ a ∧ a < 256 ∧ Z = puB 16 a (t.drop k)))
  case atStart => exact ⟨0, 0, rfl, rfl, rfl, rfl, by omega, rfl, by decide, by decide, unhide HZ⟩
  case round =>
    clear HZ hcv
    obtain ⟨k, a, rfl, rfl, rfl, rfl, hk, rfl, HP⟩ := hrel
    obtain ⟨a0, a1, hp⟩ := unhide HP
    by_cases hkt : k < t.length
    · have i1 : (k : Int) < (t.length : Int) := by omega
      have hc := unhide HC k hkt
      rw [List.drop_eq_getElem_cons hkt, puB] at hp
      have c0 : (0 : Int) ≤ (t[k].toNat : Int) := by omega
      have c1 : (t[k].toNat : Int) < 256 := by have := t[k].toNat_lt; omega
      generalize (t[k].toNat : Int) = c at *
      have HPP := hide hp
      clear hp HP
      by_cases hdg : 48 ≤ c ∧ c ≤ 57
      · obtain ⟨d0, d1⟩ := hdg
        have hdv : dvM c = c - 48 := by rw [dvM, if_pos ⟨d0, d1⟩]
        rw [hdv] at HPP
        clear hdv
        by_cases hbd : 16 ≤ c - 48
        · rw [Hid, if_pos hbd] at HPP
          obtain rfl := unhide HPP
          first
          | (exfalso; omega)
          | (go_wp2
             go_ret2
             exact ⟨rfl, unhide HBW⟩)
        · rw [Hid, if_neg hbd] at HPP
          by_cases hcu : 1152921504606846976 ≤ a
          · exfalso; omega
          · skip
            by_cases hov : 256 ≤ a * 16 + (c - 48)
            · rw [if_pos hov] at HPP
              obtain rfl := unhide HPP
              first
              | (exfalso; omega)
              | (go_wp2
                 go_ret2
                 exact ⟨rfl, unhide HBW⟩)
            · rw [if_neg hov] at HPP
              have HN : Hid (0 ≤ a * 16 + (c - 48) ∧ a * 16 + (c - 48) < 256 ∧ Z = puB 16 (a * 16 + (c - 48)) (t.drop (k + 1))) := ⟨by omega, by omega, unhide HPP⟩
              have m0 : 0 ≤ a * 16 := by omega
              clear HPP
              first
              | (exfalso; omega)
              | (go_wp2
                 go_roundg (t.length - (k + 1))
                 case measure => omega
                 case rel => exact ⟨k + 1, a * 16 + (c - 48), rfl, rfl, by go_num, by go_num, by omega, rfl, HN⟩)
      · by_cases h95 : c = 95
        · subst h95
          have hb95 : bits .or .u8 95 32 = 127 := by decide
          have hdv : dvM 95 = 255 := by rw [dvM, if_neg (by decide), if_neg (by rw [hb95]; decide)]
          rw [hdv, Hid, if_pos (by decide)] at HPP
          obtain rfl := unhide HPP
          clear hdv
          go_wp2_with (go_at_call 201; refine (unhide HL _ _).mono ?_; rintro e w' ⟨rfl, hw'⟩; obtain rfl := hw'.symm)
          go_ret2
          exact ⟨rfl, unhide HBW⟩
        have n95 : (c == 95) = false := by rw [beq_eq_false_iff_ne]; exact h95
        have lo0 := bits_lo_u8 .or c 32
        have lo1 := bits_hi_u8 .or c 32
        have hnd : ¬ (48 ≤ c) ∨ ¬ (c ≤ 57) := by omega
        have HLL := hide (unhide HL c)
        by_cases hlt : 97 ≤ bits .or .u8 c 32 ∧ bits .or .u8 c 32 ≤ 122
        · have hdv : dvM c = bits .or .u8 c 32 - 87 := by rw [dvM, if_neg hdg, if_pos hlt]
          rw [hdv] at HPP
          clear hdv
          obtain ⟨e0, e1⟩ := hlt
          generalize bits .or .u8 c 32 = q at *
          rcases hnd with n0 | n0
          all_goals (
            by_cases hbd : 16 ≤ q - 87
            · rw [Hid, if_pos hbd] at HPP
              obtain rfl := unhide HPP
              first
              | (exfalso; omega)
              | (go_wp2_with (go_at_call 201; refine (unhide HLL _).mono ?_; rintro e w' ⟨rfl, hw'⟩; obtain rfl := hw'.symm)
                 go_ret2
                 exact ⟨rfl, unhide HBW⟩)
            · rw [Hid, if_neg hbd] at HPP
              by_cases hcu : 1152921504606846976 ≤ a
              · exfalso; omega
              · skip
                by_cases hov : 256 ≤ a * 16 + (q - 87)
                · rw [if_pos hov] at HPP
                  obtain rfl := unhide HPP
                  first
                  | (exfalso; omega)
                  | (go_wp2_with (go_at_call 201; refine (unhide HLL _).mono ?_; rintro e w' ⟨rfl, hw'⟩; obtain rfl := hw'.symm)
                     go_ret2
                     exact ⟨rfl, unhide HBW⟩)
                · rw [if_neg hov] at HPP
                  have HN : Hid (0 ≤ a * 16 + (q - 87) ∧ a * 16 + (q - 87) < 256 ∧ Z = puB 16 (a * 16 + (q - 87)) (t.drop (k + 1))) := ⟨by omega, by omega, unhide HPP⟩
                  have m0 : 0 ≤ a * 16 := by omega
                  clear HPP
                  first
                  | (exfalso; omega)
                  | (go_wp2_with (go_at_call 201; refine (unhide HLL _).mono ?_; rintro e w' ⟨rfl, hw'⟩; obtain rfl := hw'.symm)
                     go_roundg (t.length - (k + 1))
                     case measure => omega
                     case rel => exact ⟨k + 1, a * 16 + (q - 87), rfl, rfl, by go_num, by go_num, by omega, rfl, HN⟩))
        · have hdv : dvM c = 255 := by rw [dvM, if_neg hdg, if_neg hlt]
          rw [hdv, Hid, if_pos (by decide)] at HPP
          obtain rfl := unhide HPP
          clear hdv
          generalize bits .or .u8 c 32 = q at *
          have hnl : ¬ (97 ≤ q) ∨ ¬ (q ≤ 122) := by omega
          rcases hnd with n0 | n0 <;> rcases hnl with l0 | l0
          all_goals (
            go_wp2_with (go_at_call 201; refine (unhide HLL _).mono ?_; rintro e w' ⟨rfl, hw'⟩; obtain rfl := hw'.symm)
            go_ret2
            exact ⟨rfl, unhide HBW⟩)
    · have i1 : ¬ (k : Int) < (t.length : Int) := by omega
      rw [List.drop_eq_nil_of_le (by omega), puB] at hp
      obtain rfl := hp
      clear HP
      go_wp2
      go_ret2
      exact ⟨rfl, unhide HBW⟩

set_option maxRecDepth 100000 in
set_option maxHeartbeats 8000000 in
theorem pu8b_any (t : List UInt8) (hne : t ≠ []) (hmax : t.length ≤ 140737488355328) (w : World) :
    Calls Tryz.prog 199 #[.string ⟨t.toArray⟩, .int .i64 8, .int .i64 8] w fun e w' => e = .returned (.tuple #[.int .u64 (puB 8 0 t).1, errI (puB 8 0 t).2]) ∧ Below w.heap.size w w' := by
  have HL := hide (fun c w => lower_any c w)
  have hcv := Lib.run_convert_string_bytes (P := Tryz.prog) w 9 176 5 ⟨t.toArray⟩ (u := .string) Tryz.underlying9 Tryz.underlying176 Tryz.underlying5
  have HBW := hide (below_bytes w 5 ⟨t.toArray⟩)
  have HC : Hid (∀ j (h : j < t.length), (Lib.bytesWorld w 5 ⟨t.toArray⟩).cell? ⟨w.heap.size, j, none⟩ = some (.int .u8 (t[j].toNat : Int))) := fun j h => by
    have := Lib.bytesWorld_cell w 5 ⟨t.toArray⟩ j (by show j < t.toArray.size; simpa using h)
    rw [this]
    simp [List.getD, List.getElem?_eq_getElem h]
  have hsz : (⟨t.toArray⟩ : ByteArray).size = t.length := by show t.toArray.size = _; simp
  rw [hsz] at hcv
  generalize Lib.bytesWorld w 5 ⟨t.toArray⟩ = W1 at *
  generalize grownCap w t.length 0 5 = gc at *
  have hte : (t == []) = false := by cases t with
    | nil => exact absurd rfl hne
    | cons x r => rfl
  have HZ : Hid (puB 8 0 t = puB 8 0 (t.drop 0)) := rfl
  generalize puB 8 0 t = Z at *
  clear hsz hne
  go_enter Tryz.func199, Tryz.ntmps199
  go_wp2
  go_loopg [12, 13, 101] t.length (fun gk vu vn vi wr => ∃ (k : Nat) (a : Int), gk = t.length - k ∧ vu = .bool false ∧ vn = .int .u64 a ∧ vi = .int .i64 k ∧ k ≤ t.length ∧ wr = W1 ∧ Hid (0 ≤ a ∧ a < 256 ∧ Z = puB 8 a (t.drop k)))
  case atStart => exact ⟨0, 0, rfl, rfl, rfl, rfl, by omega, rfl, by decide, by decide, unhide HZ⟩
  case round =>
    clear HZ hcv
    obtain ⟨k, a, rfl, rfl, rfl, rfl, hk, rfl, HP⟩ := hrel
    obtain ⟨a0, a1, hp⟩ := unhide HP
    by_cases hkt : k < t.length
    · have i1 : (k : Int) < (t.length : Int) := by omega
      have hc := unhide HC k hkt
      rw [List.drop_eq_getElem_cons hkt, puB] at hp
      have c0 : (0 : Int) ≤ (t[k].toNat : Int) := by omega
      have c1 : (t[k].toNat : Int) < 256 := by have := t[k].toNat_lt; omega
      generalize (t[k].toNat : Int) = c at *
      have HPP := hide hp
      clear hp HP
      by_cases hdg : 48 ≤ c ∧ c ≤ 57
      · obtain ⟨d0, d1⟩ := hdg
        have hdv : dvM c = c - 48 := by rw [dvM, if_pos ⟨d0, d1⟩]
        rw [hdv] at HPP
        clear hdv
        by_cases hbd : 8 ≤ c - 48
        · rw [Hid, if_pos hbd] at HPP
          obtain rfl := unhide HPP
          first
          | (exfalso; omega)
          | (go_wp2
             go_ret2
             exact ⟨rfl, unhide HBW⟩)
        · rw [Hid, if_neg hbd] at HPP
          by_cases hcu : 2305843009213693952 ≤ a
          · exfalso; omega
          · skip
            by_cases hov : 256 ≤ a * 8 + (c - 48)
            · rw [if_pos hov] at HPP
              obtain rfl := unhide HPP
              first
              | (exfalso; omega)
              | (go_wp2
                 go_ret2
                 exact ⟨rfl, unhide HBW⟩)
            · rw [if_neg hov] at HPP
              have HN : Hid (0 ≤ a * 8 + (c - 48) ∧ a * 8 + (c - 48) < 256 ∧ Z = puB 8 (a * 8 + (c - 48)) (t.drop (k + 1))) := ⟨by omega, by omega, unhide HPP⟩
              have m0 : 0 ≤ a * 8 := by omega
              clear HPP
              first
              | (exfalso; omega)
              | (go_wp2
                 go_roundg (t.length - (k + 1))
                 case measure => omega
                 case rel => exact ⟨k + 1, a * 8 + (c - 48), rfl, rfl, by go_num, by go_num, by omega, rfl, HN⟩)
      · by_cases h95 : c = 95
        · subst h95
          have hb95 : bits .or .u8 95 32 = 127 := by decide
          have hdv : dvM 95 = 255 := by rw [dvM, if_neg (by decide), if_neg (by rw [hb95]; decide)]
          rw [hdv, Hid, if_pos (by decide)] at HPP
          obtain rfl := unhide HPP
          clear hdv
          go_wp2_with (go_at_call 201; refine (unhide HL _ _).mono ?_; rintro e w' ⟨rfl, hw'⟩; obtain rfl := hw'.symm)
          go_ret2
          exact ⟨rfl, unhide HBW⟩
        have n95 : (c == 95) = false := by rw [beq_eq_false_iff_ne]; exact h95
        have lo0 := bits_lo_u8 .or c 32
        have lo1 := bits_hi_u8 .or c 32
        have hnd : ¬ (48 ≤ c) ∨ ¬ (c ≤ 57) := by omega
        have HLL := hide (unhide HL c)
        by_cases hlt : 97 ≤ bits .or .u8 c 32 ∧ bits .or .u8 c 32 ≤ 122
        · have hdv : dvM c = bits .or .u8 c 32 - 87 := by rw [dvM, if_neg hdg, if_pos hlt]
          rw [hdv] at HPP
          clear hdv
          obtain ⟨e0, e1⟩ := hlt
          generalize bits .or .u8 c 32 = q at *
          rcases hnd with n0 | n0
          all_goals (
            by_cases hbd : 8 ≤ q - 87
            · rw [Hid, if_pos hbd] at HPP
              obtain rfl := unhide HPP
              first
              | (exfalso; omega)
              | (go_wp2_with (go_at_call 201; refine (unhide HLL _).mono ?_; rintro e w' ⟨rfl, hw'⟩; obtain rfl := hw'.symm)
                 go_ret2
                 exact ⟨rfl, unhide HBW⟩)
            · rw [Hid, if_neg hbd] at HPP
              by_cases hcu : 2305843009213693952 ≤ a
              · exfalso; omega
              · skip
                by_cases hov : 256 ≤ a * 8 + (q - 87)
                · rw [if_pos hov] at HPP
                  obtain rfl := unhide HPP
                  first
                  | (exfalso; omega)
                  | (go_wp2_with (go_at_call 201; refine (unhide HLL _).mono ?_; rintro e w' ⟨rfl, hw'⟩; obtain rfl := hw'.symm)
                     go_ret2
                     exact ⟨rfl, unhide HBW⟩)
                · rw [if_neg hov] at HPP
                  have HN : Hid (0 ≤ a * 8 + (q - 87) ∧ a * 8 + (q - 87) < 256 ∧ Z = puB 8 (a * 8 + (q - 87)) (t.drop (k + 1))) := ⟨by omega, by omega, unhide HPP⟩
                  have m0 : 0 ≤ a * 8 := by omega
                  clear HPP
                  first
                  | (exfalso; omega)
                  | (go_wp2_with (go_at_call 201; refine (unhide HLL _).mono ?_; rintro e w' ⟨rfl, hw'⟩; obtain rfl := hw'.symm)
                     go_roundg (t.length - (k + 1))
                     case measure => omega
                     case rel => exact ⟨k + 1, a * 8 + (q - 87), rfl, rfl, by go_num, by go_num, by omega, rfl, HN⟩))
        · have hdv : dvM c = 255 := by rw [dvM, if_neg hdg, if_neg hlt]
          rw [hdv, Hid, if_pos (by decide)] at HPP
          obtain rfl := unhide HPP
          clear hdv
          generalize bits .or .u8 c 32 = q at *
          have hnl : ¬ (97 ≤ q) ∨ ¬ (q ≤ 122) := by omega
          rcases hnd with n0 | n0 <;> rcases hnl with l0 | l0
          all_goals (
            go_wp2_with (go_at_call 201; refine (unhide HLL _).mono ?_; rintro e w' ⟨rfl, hw'⟩; obtain rfl := hw'.symm)
            go_ret2
            exact ⟨rfl, unhide HBW⟩)
    · have i1 : ¬ (k : Int) < (t.length : Int) := by omega
      rw [List.drop_eq_nil_of_le (by omega), puB] at hp
      obtain rfl := hp
      clear HP
      go_wp2
      go_ret2
      exact ⟨rfl, unhide HBW⟩

end Go.Proofs.YtmpkgjonbjpohaaGreatDoor
namespace Go.Proofs.YtmpkgjonbjpohaaGreatDoor
open Go Go.RowKit
set_option linter.unusedVariables false
set_option linter.unusedSimpArgs false

def puSB (base : Int) (t : List UInt8) : Int × Int := if t = [] then (0, 2) else puB base 0 t
theorem puB_err (base : Int) : ∀ (l : List UInt8) (a : Int), (puB base a l).2 = 0 ∨ (puB base a l).2 = 1 ∨ (puB base a l).2 = 2
  | [], a => .inl rfl
  | c :: r, a => by
    rw [puB]
    split
    · exact .inr (.inr rfl)
    · split
      · exact .inr (.inl rfl)
      · exact puB_err base r _
set_option maxRecDepth 100000 in
theorem pu_nilB (base : Int) (w : World) : Calls Tryz.prog 199 #[.string ⟨#[]⟩, .int .i64 base, .int .i64 8] w fun e w' => e = .returned (.tuple #[.int .u64 0, .iface 240 (.int .i64 2)]) ∧ Below w.heap.size w w' := by
  go_enter Tryz.func199, Tryz.ntmps199
  go_wp2
  go_ret2
  exact ⟨rfl, Below.refl _ _⟩
theorem puIB_any (base : Int) (hb : base = 16 ∨ base = 8) (t : List UInt8) (hmax : t.length ≤ 140737488355328) (w : World) :
    Calls Tryz.prog 199 #[.string ⟨t.toArray⟩, .int .i64 base, .int .i64 8] w fun e w' => e = .returned (.tuple #[.int .u64 (puSB base t).1, errI (puSB base t).2]) ∧ Below w.heap.size w w' := by
  by_cases ht : t = []
  · subst ht
    exact pu_nilB base w
  · unfold puSB
    rw [if_neg ht]
    rcases hb with rfl | rfl
    · exact pu16b_any t ht hmax w
    · exact pu8b_any t ht hmax w
set_option maxRecDepth 100000 in
set_option maxHeartbeats 4000000 in
theorem ParseUintB_any (base : Int) (hb : base = 16 ∨ base = 8) (t : List UInt8) (hmax : t.length ≤ 140737488355328) (w : World) (hw : 10 < w.heap.size) (hg : Eg w) :
    Calls Tryz.prog 190 #[.string ⟨t.toArray⟩, .int .i64 base, .int .i64 8] w fun e w' => PuP w (puSB base t) e w' := by
  have HI := hide (puIB_any base hb t hmax w)
  have HE : Hid (∀ k W, (k = 1 ∨ k = 2) → Below w.heap.size w W → Calls Tryz.prog 200 #[.string ⟨#[80, 97, 114, 115, 101, 85, 105, 110, 116]⟩, .string ⟨t.toArray⟩, .int .i64 base, .int .i64 8, .iface 240 (.int .i64 k)] W fun e w' => (∃ v, e = .returned (.iface 242 v)) ∧ Below W.heap.size W w') := fun k W hk hB =>
    toError_any clone_str _ _ base 8 k W hk (by show t.toArray.size ≤ _; simp; omega) (Nat.lt_of_lt_of_le hw hB.size) (hg.below hB hw)
  have hz : (puSB base t).2 = 0 ∨ (puSB base t).2 = 1 ∨ (puSB base t).2 = 2 := by
    unfold puSB
    split
    · exact .inr (.inr rfl)
    · exact puB_err _ _ _
  generalize puSB base t = Z at *
  obtain ⟨n, k⟩ := Z
  simp only at hz HI
  have h1 := neI
  have h2 := neN
  clear hg hw hmax hb
  rcases hz with rfl | hk
  · rw [show errI 0 = .nilIface from rfl] at HI
    go_enter Tryz.func190, Tryz.ntmps190
    go_wp2_with fail
    refine (unhide HI).mono ?_
    rintro e W1 ⟨rfl, hb1⟩
    have HB := hide hb1
    clear hb1
    go_wp2
    go_ret2
    exact ⟨⟨_, rfl, .inl ⟨rfl, rfl⟩⟩, unhide HB⟩
  · have hk0 : k ≠ 0 := by omega
    rw [show errI k = .iface 240 (.int .i64 k) by rw [errI, if_neg hk0]] at HI
    have HE2 := hide (fun W => unhide HE k W hk)
    have HK0 := hide hk0
    clear hk hk0
    go_enter Tryz.func190, Tryz.ntmps190
    go_wp2_with fail
    refine (unhide HI).mono ?_
    rintro e W1 ⟨rfl, hb1⟩
    have HB := hide hb1
    have H3 := hide (unhide HE2 W1 hb1)
    clear hb1
    go_wp2_with fail
    refine (unhide H3).mono ?_
    rintro e W2 ⟨⟨v, rfl⟩, hb2⟩
    have HB2 := hide ((unhide HB).trans (hb2.mono (unhide HB).size))
    clear hb2
    go_wp2
    go_ret2
    exact ⟨⟨_, rfl, .inr ⟨unhide HK0, _, rfl⟩⟩, unhide HB2⟩
end Go.Proofs.YtmpkgjonbjpohaaGreatDoor
