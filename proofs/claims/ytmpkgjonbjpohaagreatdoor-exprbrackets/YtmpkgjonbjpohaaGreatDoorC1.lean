/-
  strconv's own ParseUint at 64 bits.
-/
import Derived.Test.YtmpkgjonbjpohaaGreatDoorBc
import Derived.Lib.ConvBytes
import Derived.Laws.Closers25b
namespace Go.Proofs.YtmpkgjonbjpohaaGreatDoor
open Go Go.RowKit
set_option linter.unusedVariables false
set_option linter.unusedSimpArgs false

/-- A digit's worth; 255: it is none. -/
def dvM (c : Int) : Int := if 48 ≤ c ∧ c ≤ 57 then c - 48 else if 97 ≤ bits .or .u8 c 32 ∧ bits .or .u8 c 32 ≤ 122 then bits .or .u8 c 32 - 87 else 255
/-- The number that bytes are, behind one that was read; 2: they are none; 1: it is too great. -/
def puM (base cut : Int) : Int → List UInt8 → Int × Int
  | a, [] => (a, 0)
  | a, c :: r => if base ≤ dvM c.toNat then (0, 2) else if cut ≤ a then (18446744073709551615, 1) else if 18446744073709551616 ≤ a * base + dvM c.toNat then (18446744073709551615, 1) else puM base cut (a * base + dvM c.toNat) r
def errI (k : Int) : Value := if k = 0 then .nilIface else .iface 240 (.int .i64 k)
theorem lower_any (c : Int) (w : World) : Calls Tryz.prog 201 #[.int .u8 c] w fun e w' => e = .returned (.int .u8 (bits .or .u8 c 32)) ∧ w' = w := by
  go_enter Tryz.func201, Tryz.ntmps201
  go_wp2
  go_ret
  exact ⟨rfl, rfl⟩
theorem below_bytes (w : World) (e : TypeId) (s : ByteArray) : Below w.heap.size w (Lib.bytesWorld w e s) := by
  refine ⟨rfl, rfl, rfl, ?_, fun b hb => Lib.bytesWorld_at_old w e s b hb⟩
  simp [Lib.bytesWorld, World.freeze, World.alloc, World.drew, -World.alloc_eq, -World.drew_eq]

set_option maxRecDepth 100000 in
set_option maxHeartbeats 8000000 in
theorem pu16_any (t : List UInt8) (hne : t ≠ []) (hmax : t.length ≤ 140737488355328) (w : World) :
    Calls Tryz.prog 199 #[.string ⟨t.toArray⟩, .int .i64 16, .int .i64 64] w fun e w' => e = .returned (.tuple #[.int .u64 (puM 16 1152921504606846976 0 t).1, errI (puM 16 1152921504606846976 0 t).2]) ∧ Below w.heap.size w w' := by
  have HL := hide (fun c w => lower_any c w)
  have hcv := Lib.run_convert_string_bytes (P := Tryz.prog) w 9 176 5 ⟨t.toArray⟩ (u := .string) Tryz.underlying9 Tryz.underlying176 Tryz.underlying5
  have HBW := hide (below_bytes w 5 ⟨t.toArray⟩)
  have HC : Hid (∀ j (h : j < t.length), (Lib.bytesWorld w 5 ⟨t.toArray⟩).cell? ⟨w.heap.size, j, none⟩ = some (.int .u8 (t[j].toNat : Int))) := fun j h => by
    have := Lib.bytesWorld_cell w 5 ⟨t.toArray⟩ j (by show j < t.toArray.size; simpa using h)
    rw [this]
    simp [List.getD, List.getElem?_eq_getElem h]
  have hsz : (⟨t.toArray⟩ : ByteArray).size = t.length := by show t.toArray.size = _; simp
  rw [hsz] at hcv
  generalize Lib.bytesWorld w 5 ⟨t.toArray⟩ = W1 at *
  generalize grownCap w t.length 0 5 = gc at *
  have hte : (t == []) = false := by cases t with
    | nil => exact absurd rfl hne
    | cons x r => rfl
  have hmv : IntKind.u64.wrap (IntKind.u64.wrap 18446744073709551616 - 1) = 18446744073709551615 := by
    rw [IntKind.wrap_u64, IntKind.wrap_u64]
    decide
  have HZ : Hid (puM 16 1152921504606846976 0 t = puM 16 1152921504606846976 0 (t.drop 0)) := rfl
  generalize puM 16 1152921504606846976 0 t = Z at *
  clear hsz hne
  go_enter Tryz.func199, Tryz.ntmps199
  go_wp2
  go_loopg [12, 13, 101] t.length (fun gk vu vn vi wr => ∃ (k : Nat) (a : Int), gk = t.length - k ∧ vu = .bool false ∧ vn = .int .u64 a ∧ vi = .int .i64 k ∧ k ≤ t.length ∧ wr = W1 ∧ Hid (0 ≤ a ∧ a < 18446744073709551616 ∧ Z = puM 16 1152921504606846976 a (t.drop k)))
  case atStart => exact ⟨0, 0, rfl, rfl, rfl, rfl, by omega, rfl, by decide, by decide, unhide HZ⟩
  case round =>
    clear HZ hcv
    obtain ⟨k, a, rfl, rfl, rfl, rfl, hk, rfl, HP⟩ := hrel
    obtain ⟨a0, a1, hp⟩ := unhide HP
    by_cases hkt : k < t.length
    · have i1 : (k : Int) < (t.length : Int) := by omega
      have hc := unhide HC k hkt
      rw [List.drop_eq_getElem_cons hkt, puM] at hp
      have c0 : (0 : Int) ≤ (t[k].toNat : Int) := by omega
      have c1 : (t[k].toNat : Int) < 256 := by have := t[k].toNat_lt; omega
      generalize (t[k].toNat : Int) = c at *
      have HPP := hide hp
      clear hp HP
      by_cases hdg : 48 ≤ c ∧ c ≤ 57
      · obtain ⟨d0, d1⟩ := hdg
        have hdv : dvM c = c - 48 := by rw [dvM, if_pos ⟨d0, d1⟩]
        rw [hdv] at HPP
        clear hdv
        by_cases hbd : 16 ≤ c - 48
        · rw [Hid, if_pos hbd] at HPP
          obtain rfl := unhide HPP
          first
          | (exfalso; omega)
          | (go_wp2
             go_ret2
             exact ⟨rfl, unhide HBW⟩)
        · rw [Hid, if_neg hbd] at HPP
          by_cases hcu : 1152921504606846976 ≤ a
          · rw [if_pos hcu] at HPP
            obtain rfl := unhide HPP
            first
            | (exfalso; omega)
            | (go_wp2
               go_ret2
               exact ⟨rfl, unhide HBW⟩)
          · rw [if_neg hcu] at HPP
            by_cases hov : 18446744073709551616 ≤ a * 16 + (c - 48)
            · rw [if_pos hov] at HPP
              obtain rfl := unhide HPP
              first
              | (exfalso; omega)
              | (have hwr : IntKind.u64.wrap (a * 16 + (c - 48)) = a * 16 + (c - 48) - 18446744073709551616 := by
                   rw [IntKind.wrap_u64]
                   omega
                 go_wp2
                 go_ret2
                 exact ⟨rfl, unhide HBW⟩)
            · rw [if_neg hov] at HPP
              have HN : Hid (0 ≤ a * 16 + (c - 48) ∧ a * 16 + (c - 48) < 18446744073709551616 ∧ Z = puM 16 1152921504606846976 (a * 16 + (c - 48)) (t.drop (k + 1))) := ⟨by omega, by omega, unhide HPP⟩
              have m0 : 0 ≤ a * 16 := by omega
              clear HPP
              first
              | (exfalso; omega)
              | (go_wp2
                 go_roundg (t.length - (k + 1))
                 case measure => omega
                 case rel => exact ⟨k + 1, a * 16 + (c - 48), rfl, rfl, by go_num, by go_num, by omega, rfl, HN⟩)
      · by_cases h95 : c = 95
        · subst h95
          have hb95 : bits .or .u8 95 32 = 127 := by decide
          have hdv : dvM 95 = 255 := by rw [dvM, if_neg (by decide), if_neg (by rw [hb95]; decide)]
          rw [hdv, Hid, if_pos (by decide)] at HPP
          obtain rfl := unhide HPP
          clear hdv
          go_wp2_with (go_at_call 201; refine (unhide HL _ _).mono ?_; rintro e w' ⟨rfl, hw'⟩; obtain rfl := hw'.symm)
          go_ret2
          exact ⟨rfl, unhide HBW⟩
        have n95 : (c == 95) = false := by rw [beq_eq_false_iff_ne]; exact h95
        have lo0 := bits_lo_u8 .or c 32
        have lo1 := bits_hi_u8 .or c 32
        have hnd : ¬ (48 ≤ c) ∨ ¬ (c ≤ 57) := by omega
        have HLL := hide (unhide HL c)
        by_cases hlt : 97 ≤ bits .or .u8 c 32 ∧ bits .or .u8 c 32 ≤ 122
        · have hdv : dvM c = bits .or .u8 c 32 - 87 := by rw [dvM, if_neg hdg, if_pos hlt]
          rw [hdv] at HPP
          clear hdv
          obtain ⟨e0, e1⟩ := hlt
          generalize bits .or .u8 c 32 = q at *
          rcases hnd with n0 | n0
          all_goals (
            by_cases hbd : 16 ≤ q - 87
            · rw [Hid, if_pos hbd] at HPP
              obtain rfl := unhide HPP
              first
              | (exfalso; omega)
              | (go_wp2_with (go_at_call 201; refine (unhide HLL _).mono ?_; rintro e w' ⟨rfl, hw'⟩; obtain rfl := hw'.symm)
                 go_ret2
                 exact ⟨rfl, unhide HBW⟩)
            · rw [Hid, if_neg hbd] at HPP
              by_cases hcu : 1152921504606846976 ≤ a
              · rw [if_pos hcu] at HPP
                obtain rfl := unhide HPP
                first
                | (exfalso; omega)
                | (go_wp2_with (go_at_call 201; refine (unhide HLL _).mono ?_; rintro e w' ⟨rfl, hw'⟩; obtain rfl := hw'.symm)
                   go_ret2
                   exact ⟨rfl, unhide HBW⟩)
              · rw [if_neg hcu] at HPP
                by_cases hov : 18446744073709551616 ≤ a * 16 + (q - 87)
                · rw [if_pos hov] at HPP
                  obtain rfl := unhide HPP
                  first
                  | (exfalso; omega)
                  | (have hwr : IntKind.u64.wrap (a * 16 + (q - 87)) = a * 16 + (q - 87) - 18446744073709551616 := by
                       rw [IntKind.wrap_u64]
                       omega
                     go_wp2_with (go_at_call 201; refine (unhide HLL _).mono ?_; rintro e w' ⟨rfl, hw'⟩; obtain rfl := hw'.symm)
                     go_ret2
                     exact ⟨rfl, unhide HBW⟩)
                · rw [if_neg hov] at HPP
                  have HN : Hid (0 ≤ a * 16 + (q - 87) ∧ a * 16 + (q - 87) < 18446744073709551616 ∧ Z = puM 16 1152921504606846976 (a * 16 + (q - 87)) (t.drop (k + 1))) := ⟨by omega, by omega, unhide HPP⟩
                  have m0 : 0 ≤ a * 16 := by omega
                  clear HPP
                  first
                  | (exfalso; omega)
                  | (go_wp2_with (go_at_call 201; refine (unhide HLL _).mono ?_; rintro e w' ⟨rfl, hw'⟩; obtain rfl := hw'.symm)
                     go_roundg (t.length - (k + 1))
                     case measure => omega
                     case rel => exact ⟨k + 1, a * 16 + (q - 87), rfl, rfl, by go_num, by go_num, by omega, rfl, HN⟩))
        · have hdv : dvM c = 255 := by rw [dvM, if_neg hdg, if_neg hlt]
          rw [hdv, Hid, if_pos (by decide)] at HPP
          obtain rfl := unhide HPP
          clear hdv
          generalize bits .or .u8 c 32 = q at *
          have hnl : ¬ (97 ≤ q) ∨ ¬ (q ≤ 122) := by omega
          rcases hnd with n0 | n0 <;> rcases hnl with l0 | l0
          all_goals (
            go_wp2_with (go_at_call 201; refine (unhide HLL _).mono ?_; rintro e w' ⟨rfl, hw'⟩; obtain rfl := hw'.symm)
            go_ret2
            exact ⟨rfl, unhide HBW⟩)
    · have i1 : ¬ (k : Int) < (t.length : Int) := by omega
      rw [List.drop_eq_nil_of_le (by omega), puM] at hp
      obtain rfl := hp
      clear HP
      go_wp2
      go_ret2
      exact ⟨rfl, unhide HBW⟩

set_option maxRecDepth 100000 in
set_option maxHeartbeats 8000000 in
theorem pu8_any (t : List UInt8) (hne : t ≠ []) (hmax : t.length ≤ 140737488355328) (w : World) :
    Calls Tryz.prog 199 #[.string ⟨t.toArray⟩, .int .i64 8, .int .i64 64] w fun e w' => e = .returned (.tuple #[.int .u64 (puM 8 2305843009213693952 0 t).1, errI (puM 8 2305843009213693952 0 t).2]) ∧ Below w.heap.size w w' := by
  have HL := hide (fun c w => lower_any c w)
  have hcv := Lib.run_convert_string_bytes (P := Tryz.prog) w 9 176 5 ⟨t.toArray⟩ (u := .string) Tryz.underlying9 Tryz.underlying176 Tryz.underlying5
  have HBW := hide (below_bytes w 5 ⟨t.toArray⟩)
  have HC : Hid (∀ j (h : j < t.length), (Lib.bytesWorld w 5 ⟨t.toArray⟩).cell? ⟨w.heap.size, j, none⟩ = some (.int .u8 (t[j].toNat : Int))) := fun j h => by
    have := Lib.bytesWorld_cell w 5 ⟨t.toArray⟩ j (by show j < t.toArray.size; simpa using h)
    rw [this]
    simp [List.getD, List.getElem?_eq_getElem h]
  have hsz : (⟨t.toArray⟩ : ByteArray).size = t.length := by show t.toArray.size = _; simp
  rw [hsz] at hcv
  generalize Lib.bytesWorld w 5 ⟨t.toArray⟩ = W1 at *
  generalize grownCap w t.length 0 5 = gc at *
  have hte : (t == []) = false := by cases t with
    | nil => exact absurd rfl hne
    | cons x r => rfl
  have hmv : IntKind.u64.wrap (IntKind.u64.wrap 18446744073709551616 - 1) = 18446744073709551615 := by
    rw [IntKind.wrap_u64, IntKind.wrap_u64]
    decide
  have HZ : Hid (puM 8 2305843009213693952 0 t = puM 8 2305843009213693952 0 (t.drop 0)) := rfl
  generalize puM 8 2305843009213693952 0 t = Z at *
  clear hsz hne
  go_enter Tryz.func199, Tryz.ntmps199
  go_wp2
  go_loopg [12, 13, 101] t.length (fun gk vu vn vi wr => ∃ (k : Nat) (a : Int), gk = t.length - k ∧ vu = .bool false ∧ vn = .int .u64 a ∧ vi = .int .i64 k ∧ k ≤ t.length ∧ wr = W1 ∧ Hid (0 ≤ a ∧ a < 18446744073709551616 ∧ Z = puM 8 2305843009213693952 a (t.drop k)))
  case atStart => exact ⟨0, 0, rfl, rfl, rfl, rfl, by omega, rfl, by decide, by decide, unhide HZ⟩
  case round =>
    clear HZ hcv
    obtain ⟨k, a, rfl, rfl, rfl, rfl, hk, rfl, HP⟩ := hrel
    obtain ⟨a0, a1, hp⟩ := unhide HP
    by_cases hkt : k < t.length
    · have i1 : (k : Int) < (t.length : Int) := by omega
      have hc := unhide HC k hkt
      rw [List.drop_eq_getElem_cons hkt, puM] at hp
      have c0 : (0 : Int) ≤ (t[k].toNat : Int) := by omega
      have c1 : (t[k].toNat : Int) < 256 := by have := t[k].toNat_lt; omega
      generalize (t[k].toNat : Int) = c at *
      have HPP := hide hp
      clear hp HP
      by_cases hdg : 48 ≤ c ∧ c ≤ 57
      · obtain ⟨d0, d1⟩ := hdg
        have hdv : dvM c = c - 48 := by rw [dvM, if_pos ⟨d0, d1⟩]
        rw [hdv] at HPP
        clear hdv
        by_cases hbd : 8 ≤ c - 48
        · rw [Hid, if_pos hbd] at HPP
          obtain rfl := unhide HPP
          first
          | (exfalso; omega)
          | (go_wp2
             go_ret2
             exact ⟨rfl, unhide HBW⟩)
        · rw [Hid, if_neg hbd] at HPP
          by_cases hcu : 2305843009213693952 ≤ a
          · rw [if_pos hcu] at HPP
            obtain rfl := unhide HPP
            first
            | (exfalso; omega)
            | (go_wp2
               go_ret2
               exact ⟨rfl, unhide HBW⟩)
          · rw [if_neg hcu] at HPP
            by_cases hov : 18446744073709551616 ≤ a * 8 + (c - 48)
            · rw [if_pos hov] at HPP
              obtain rfl := unhide HPP
              first
              | (exfalso; omega)
              | (have hwr : IntKind.u64.wrap (a * 8 + (c - 48)) = a * 8 + (c - 48) - 18446744073709551616 := by
                   rw [IntKind.wrap_u64]
                   omega
                 go_wp2
                 go_ret2
                 exact ⟨rfl, unhide HBW⟩)
            · rw [if_neg hov] at HPP
              have HN : Hid (0 ≤ a * 8 + (c - 48) ∧ a * 8 + (c - 48) < 18446744073709551616 ∧ Z = puM 8 2305843009213693952 (a * 8 + (c - 48)) (t.drop (k + 1))) := ⟨by omega, by omega, unhide HPP⟩
              have m0 : 0 ≤ a * 8 := by omega
              clear HPP
              first
              | (exfalso; omega)
              | (go_wp2
                 go_roundg (t.length - (k + 1))
                 case measure => omega
                 case rel => exact ⟨k + 1, a * 8 + (c - 48), rfl, rfl, by go_num, by go_num, by omega, rfl, HN⟩)
      · by_cases h95 : c = 95
        · subst h95
          have hb95 : bits .or .u8 95 32 = 127 := by decide
          have hdv : dvM 95 = 255 := by rw [dvM, if_neg (by decide), if_neg (by rw [hb95]; decide)]
          rw [hdv, Hid, if_pos (by decide)] at HPP
          obtain rfl := unhide HPP
          clear hdv
          go_wp2_with (go_at_call 201; refine (unhide HL _ _).mono ?_; rintro e w' ⟨rfl, hw'⟩; obtain rfl := hw'.symm)
          go_ret2
          exact ⟨rfl, unhide HBW⟩
        have n95 : (c == 95) = false := by rw [beq_eq_false_iff_ne]; exact h95
        have lo0 := bits_lo_u8 .or c 32
        have lo1 := bits_hi_u8 .or c 32
        have hnd : ¬ (48 ≤ c) ∨ ¬ (c ≤ 57) := by omega
        have HLL := hide (unhide HL c)
        by_cases hlt : 97 ≤ bits .or .u8 c 32 ∧ bits .or .u8 c 32 ≤ 122
        · have hdv : dvM c = bits .or .u8 c 32 - 87 := by rw [dvM, if_neg hdg, if_pos hlt]
          rw [hdv] at HPP
          clear hdv
          obtain ⟨e0, e1⟩ := hlt
          generalize bits .or .u8 c 32 = q at *
          rcases hnd with n0 | n0
          all_goals (
            by_cases hbd : 8 ≤ q - 87
            · rw [Hid, if_pos hbd] at HPP
              obtain rfl := unhide HPP
              first
              | (exfalso; omega)
              | (go_wp2_with (go_at_call 201; refine (unhide HLL _).mono ?_; rintro e w' ⟨rfl, hw'⟩; obtain rfl := hw'.symm)
                 go_ret2
                 exact ⟨rfl, unhide HBW⟩)
            · rw [Hid, if_neg hbd] at HPP
              by_cases hcu : 2305843009213693952 ≤ a
              · rw [if_pos hcu] at HPP
                obtain rfl := unhide HPP
                first
                | (exfalso; omega)
                | (go_wp2_with (go_at_call 201; refine (unhide HLL _).mono ?_; rintro e w' ⟨rfl, hw'⟩; obtain rfl := hw'.symm)
                   go_ret2
                   exact ⟨rfl, unhide HBW⟩)
              · rw [if_neg hcu] at HPP
                by_cases hov : 18446744073709551616 ≤ a * 8 + (q - 87)
                · rw [if_pos hov] at HPP
                  obtain rfl := unhide HPP
                  first
                  | (exfalso; omega)
                  | (have hwr : IntKind.u64.wrap (a * 8 + (q - 87)) = a * 8 + (q - 87) - 18446744073709551616 := by
                       rw [IntKind.wrap_u64]
                       omega
                     go_wp2_with (go_at_call 201; refine (unhide HLL _).mono ?_; rintro e w' ⟨rfl, hw'⟩; obtain rfl := hw'.symm)
                     go_ret2
                     exact ⟨rfl, unhide HBW⟩)
                · rw [if_neg hov] at HPP
                  have HN : Hid (0 ≤ a * 8 + (q - 87) ∧ a * 8 + (q - 87) < 18446744073709551616 ∧ Z = puM 8 2305843009213693952 (a * 8 + (q - 87)) (t.drop (k + 1))) := ⟨by omega, by omega, unhide HPP⟩
                  have m0 : 0 ≤ a * 8 := by omega
                  clear HPP
                  first
                  | (exfalso; omega)
                  | (go_wp2_with (go_at_call 201; refine (unhide HLL _).mono ?_; rintro e w' ⟨rfl, hw'⟩; obtain rfl := hw'.symm)
                     go_roundg (t.length - (k + 1))
                     case measure => omega
                     case rel => exact ⟨k + 1, a * 8 + (q - 87), rfl, rfl, by go_num, by go_num, by omega, rfl, HN⟩))
        · have hdv : dvM c = 255 := by rw [dvM, if_neg hdg, if_neg hlt]
          rw [hdv, Hid, if_pos (by decide)] at HPP
          obtain rfl := unhide HPP
          clear hdv
          generalize bits .or .u8 c 32 = q at *
          have hnl : ¬ (97 ≤ q) ∨ ¬ (q ≤ 122) := by omega
          rcases hnd with n0 | n0 <;> rcases hnl with l0 | l0
          all_goals (
            go_wp2_with (go_at_call 201; refine (unhide HLL _).mono ?_; rintro e w' ⟨rfl, hw'⟩; obtain rfl := hw'.symm)
            go_ret2
            exact ⟨rfl, unhide HBW⟩)
    · have i1 : ¬ (k : Int) < (t.length : Int) := by omega
      rw [List.drop_eq_nil_of_le (by omega), puM] at hp
      obtain rfl := hp
      clear HP
      go_wp2
      go_ret2
      exact ⟨rfl, unhide HBW⟩

set_option maxRecDepth 100000 in
set_option maxHeartbeats 8000000 in
theorem pu10_any (t : List UInt8) (hne : t ≠ []) (hmax : t.length ≤ 140737488355328) (w : World) :
    Calls Tryz.prog 199 #[.string ⟨t.toArray⟩, .int .i64 10, .int .i64 64] w fun e w' => e = .returned (.tuple #[.int .u64 (puM 10 1844674407370955162 0 t).1, errI (puM 10 1844674407370955162 0 t).2]) ∧ Below w.heap.size w w' := by
  have HL := hide (fun c w => lower_any c w)
  have hcv := Lib.run_convert_string_bytes (P := Tryz.prog) w 9 176 5 ⟨t.toArray⟩ (u := .string) Tryz.underlying9 Tryz.underlying176 Tryz.underlying5
  have HBW := hide (below_bytes w 5 ⟨t.toArray⟩)
  have HC : Hid (∀ j (h : j < t.length), (Lib.bytesWorld w 5 ⟨t.toArray⟩).cell? ⟨w.heap.size, j, none⟩ = some (.int .u8 (t[j].toNat : Int))) := fun j h => by
    have := Lib.bytesWorld_cell w 5 ⟨t.toArray⟩ j (by show j < t.toArray.size; simpa using h)
    rw [this]
    simp [List.getD, List.getElem?_eq_getElem h]
  have hsz : (⟨t.toArray⟩ : ByteArray).size = t.length := by show t.toArray.size = _; simp
  rw [hsz] at hcv
  generalize Lib.bytesWorld w 5 ⟨t.toArray⟩ = W1 at *
  generalize grownCap w t.length 0 5 = gc at *
  have hte : (t == []) = false := by cases t with
    | nil => exact absurd rfl hne
    | cons x r => rfl
  have hmv : IntKind.u64.wrap (IntKind.u64.wrap 18446744073709551616 - 1) = 18446744073709551615 := by
    rw [IntKind.wrap_u64, IntKind.wrap_u64]
    decide
  have HZ : Hid (puM 10 1844674407370955162 0 t = puM 10 1844674407370955162 0 (t.drop 0)) := rfl
  generalize puM 10 1844674407370955162 0 t = Z at *
  clear hsz hne
  go_enter Tryz.func199, Tryz.ntmps199
  go_wp2
  go_loopg [12, 13, 101] t.length (fun gk vu vn vi wr => ∃ (k : Nat) (a : Int), gk = t.length - k ∧ vu = .bool false ∧ vn = .int .u64 a ∧ vi = .int .i64 k ∧ k ≤ t.length ∧ wr = W1 ∧ Hid (0 ≤ a ∧ a < 18446744073709551616 ∧ Z = puM 10 1844674407370955162 a (t.drop k)))
  case atStart => exact ⟨0, 0, rfl, rfl, rfl, rfl, by omega, rfl, by decide, by decide, unhide HZ⟩
  case round =>
    clear HZ hcv
    obtain ⟨k, a, rfl, rfl, rfl, rfl, hk, rfl, HP⟩ := hrel
    obtain ⟨a0, a1, hp⟩ := unhide HP
    by_cases hkt : k < t.length
    · have i1 : (k : Int) < (t.length : Int) := by omega
      have hc := unhide HC k hkt
      rw [List.drop_eq_getElem_cons hkt, puM] at hp
      have c0 : (0 : Int) ≤ (t[k].toNat : Int) := by omega
      have c1 : (t[k].toNat : Int) < 256 := by have := t[k].toNat_lt; omega
      generalize (t[k].toNat : Int) = c at *
      have HPP := hide hp
      clear hp HP
      by_cases hdg : 48 ≤ c ∧ c ≤ 57
      · obtain ⟨d0, d1⟩ := hdg
        have hdv : dvM c = c - 48 := by rw [dvM, if_pos ⟨d0, d1⟩]
        rw [hdv] at HPP
        clear hdv
        by_cases hbd : 10 ≤ c - 48
        · rw [Hid, if_pos hbd] at HPP
          obtain rfl := unhide HPP
          first
          | (exfalso; omega)
          | (go_wp2
             go_ret2
             exact ⟨rfl, unhide HBW⟩)
        · rw [Hid, if_neg hbd] at HPP
          by_cases hcu : 1844674407370955162 ≤ a
          · rw [if_pos hcu] at HPP
            obtain rfl := unhide HPP
            first
            | (exfalso; omega)
            | (go_wp2
               go_ret2
               exact ⟨rfl, unhide HBW⟩)
          · rw [if_neg hcu] at HPP
            by_cases hov : 18446744073709551616 ≤ a * 10 + (c - 48)
            · rw [if_pos hov] at HPP
              obtain rfl := unhide HPP
              first
              | (exfalso; omega)
              | (have hwr : IntKind.u64.wrap (a * 10 + (c - 48)) = a * 10 + (c - 48) - 18446744073709551616 := by
                   rw [IntKind.wrap_u64]
                   omega
                 go_wp2
                 go_ret2
                 exact ⟨rfl, unhide HBW⟩)
            · rw [if_neg hov] at HPP
              have HN : Hid (0 ≤ a * 10 + (c - 48) ∧ a * 10 + (c - 48) < 18446744073709551616 ∧ Z = puM 10 1844674407370955162 (a * 10 + (c - 48)) (t.drop (k + 1))) := ⟨by omega, by omega, unhide HPP⟩
              have m0 : 0 ≤ a * 10 := by omega
              clear HPP
              first
              | (exfalso; omega)
              | (go_wp2
                 go_roundg (t.length - (k + 1))
                 case measure => omega
                 case rel => exact ⟨k + 1, a * 10 + (c - 48), rfl, rfl, by go_num, by go_num, by omega, rfl, HN⟩)
      · by_cases h95 : c = 95
        · subst h95
          have hb95 : bits .or .u8 95 32 = 127 := by decide
          have hdv : dvM 95 = 255 := by rw [dvM, if_neg (by decide), if_neg (by rw [hb95]; decide)]
          rw [hdv, Hid, if_pos (by decide)] at HPP
          obtain rfl := unhide HPP
          clear hdv
          go_wp2_with (go_at_call 201; refine (unhide HL _ _).mono ?_; rintro e w' ⟨rfl, hw'⟩; obtain rfl := hw'.symm)
          go_ret2
          exact ⟨rfl, unhide HBW⟩
        have n95 : (c == 95) = false := by rw [beq_eq_false_iff_ne]; exact h95
        have lo0 := bits_lo_u8 .or c 32
        have lo1 := bits_hi_u8 .or c 32
        have hnd : ¬ (48 ≤ c) ∨ ¬ (c ≤ 57) := by omega
        have HLL := hide (unhide HL c)
        by_cases hlt : 97 ≤ bits .or .u8 c 32 ∧ bits .or .u8 c 32 ≤ 122
        · have hdv : dvM c = bits .or .u8 c 32 - 87 := by rw [dvM, if_neg hdg, if_pos hlt]
          rw [hdv] at HPP
          clear hdv
          obtain ⟨e0, e1⟩ := hlt
          generalize bits .or .u8 c 32 = q at *
          rcases hnd with n0 | n0
          all_goals (
            by_cases hbd : 10 ≤ q - 87
            · rw [Hid, if_pos hbd] at HPP
              obtain rfl := unhide HPP
              first
              | (exfalso; omega)
              | (go_wp2_with (go_at_call 201; refine (unhide HLL _).mono ?_; rintro e w' ⟨rfl, hw'⟩; obtain rfl := hw'.symm)
                 go_ret2
                 exact ⟨rfl, unhide HBW⟩)
            · rw [Hid, if_neg hbd] at HPP
              by_cases hcu : 1844674407370955162 ≤ a
              · rw [if_pos hcu] at HPP
                obtain rfl := unhide HPP
                first
                | (exfalso; omega)
                | (go_wp2_with (go_at_call 201; refine (unhide HLL _).mono ?_; rintro e w' ⟨rfl, hw'⟩; obtain rfl := hw'.symm)
                   go_ret2
                   exact ⟨rfl, unhide HBW⟩)
              · rw [if_neg hcu] at HPP
                by_cases hov : 18446744073709551616 ≤ a * 10 + (q - 87)
                · rw [if_pos hov] at HPP
                  obtain rfl := unhide HPP
                  first
                  | (exfalso; omega)
                  | (have hwr : IntKind.u64.wrap (a * 10 + (q - 87)) = a * 10 + (q - 87) - 18446744073709551616 := by
                       rw [IntKind.wrap_u64]
                       omega
                     go_wp2_with (go_at_call 201; refine (unhide HLL _).mono ?_; rintro e w' ⟨rfl, hw'⟩; obtain rfl := hw'.symm)
                     go_ret2
                     exact ⟨rfl, unhide HBW⟩)
                · rw [if_neg hov] at HPP
                  have HN : Hid (0 ≤ a * 10 + (q - 87) ∧ a * 10 + (q - 87) < 18446744073709551616 ∧ Z = puM 10 1844674407370955162 (a * 10 + (q - 87)) (t.drop (k + 1))) := ⟨by omega, by omega, unhide HPP⟩
                  have m0 : 0 ≤ a * 10 := by omega
                  clear HPP
                  first
                  | (exfalso; omega)
                  | (go_wp2_with (go_at_call 201; refine (unhide HLL _).mono ?_; rintro e w' ⟨rfl, hw'⟩; obtain rfl := hw'.symm)
                     go_roundg (t.length - (k + 1))
                     case measure => omega
                     case rel => exact ⟨k + 1, a * 10 + (q - 87), rfl, rfl, by go_num, by go_num, by omega, rfl, HN⟩))
        · have hdv : dvM c = 255 := by rw [dvM, if_neg hdg, if_neg hlt]
          rw [hdv, Hid, if_pos (by decide)] at HPP
          obtain rfl := unhide HPP
          clear hdv
          generalize bits .or .u8 c 32 = q at *
          have hnl : ¬ (97 ≤ q) ∨ ¬ (q ≤ 122) := by omega
          rcases hnd with n0 | n0 <;> rcases hnl with l0 | l0
          all_goals (
            go_wp2_with (go_at_call 201; refine (unhide HLL _).mono ?_; rintro e w' ⟨rfl, hw'⟩; obtain rfl := hw'.symm)
            go_ret2
            exact ⟨rfl, unhide HBW⟩)
    · have i1 : ¬ (k : Int) < (t.length : Int) := by omega
      rw [List.drop_eq_nil_of_le (by omega), puM] at hp
      obtain rfl := hp
      clear HP
      go_wp2
      go_ret2
      exact ⟨rfl, unhide HBW⟩
end Go.Proofs.YtmpkgjonbjpohaaGreatDoor
