/-
  strings.IndexAny and ContainsAny of "\r\n", of whatever text: the walks.
-/
import Derived.Test.YtnpjgamfjfmjjaaDoorSm
namespace Go.Proofs
open Go.Shelf
theorem Tryd.strings_IndexRune_ascii (s : ByteArray) (r : Int) (w : World) (h0 : 0 ≤ r) (h1 : r < 128) :
    Calls Tryd.prog 58 #[.string s, .int .i32 r] w fun e w' => e = .returned (.int .i64 (Lib.indexByte s.data.toList r.toNat.toUInt8)) ∧ w' = w :=
  Any.strings_IndexRune_ascii { Tryd.lays150 with } s r w h0 h1
open Go.RowKit in
theorem Tryd.strings_IndexAny_long (s chars : ByteArray) (w : World) (h2 : 2 ≤ chars.size) (h8 : 8 < s.size) (hs : s.size < 4294967281) (hcs : chars.size < 4294967281) (hac : ∀ (j : Nat) b, chars.data.toList[j]? = some b → b.toNat < 128) :
    Calls Tryd.prog 51 #[.string s, .string chars] w fun e w' => e = .returned (.int .i64 (Lib.indexAny s.data.toList chars.data.toList)) ∧ Below w.heap.size w w' := by
  have h116 : (Tryd.prog.info? (Tryd.lays150_ren.t 116)).map (fun i => (i.zero, i.size)) = some (some (.agg (Array.replicate 256 (.bool false))), 256) := by kernel_rfl
  refine (Any.strings_IndexAny_long { Tryd.lays150 with } (zero_of_info h116).1 (zero_of_info h116).2 s chars w h2 h8 hs hcs hac).mono fun e w' ⟨h1, h2⟩ => ⟨h1, ?_⟩
  rw [h2]
  exact ((Below.refl _ _).alloc (Nat.le_refl _) _).alloc (by simp) _
end Go.Proofs
namespace Go.Proofs.YtnpjgamfjfmjjaaDoor
open Go Go.RowKit Go.Shelf
set_option linter.unusedVariables false
set_option linter.unusedSimpArgs false

theorem should_any (n : Int) (w : World) : Calls Tryd.prog 59 #[.int .i64 n] w fun e w' => e = .returned (.bool (decide (8 < n))) ∧ w' = w := by
  go_enter Tryd.func59, Tryd.ntmps59
  go_wp2
  go_ret
  exact ⟨rfl, rfl⟩
set_option maxRecDepth 100000 in
set_option maxHeartbeats 4000000 in
theorem any_short (s : ByteArray) (h8 : s.size ≤ 8) (w : World) : Calls Tryd.prog 51 #[.string s, .string ⟨#[13, 10]⟩] w fun e w' => e = .returned (.int .i64 (Lib.indexAny s.data.toList [13, 10])) ∧ Below w.heap.size w w' := by
  have h8z : decide ((8 : Int) < (s.size : Int)) = false := decide_eq_false (by omega)
  have HSI : Hid (∀ W, Calls Tryd.prog 59 #[.int .i64 (s.size : Int)] W fun e w' => e = .returned (.bool false) ∧ w' = W) := fun W => by rw [← h8z]; exact should_any _ W
  have HI0 : Hid ((w.iter s 0).heap[w.heap.size]? = some (.stringIter s 0)) := World.iter_heap w s 0
  have HB0 : Hid (Below w.heap.size w (w.iter s 0)) := (Below.refl _ w).alloc (Nat.le_refl _) _
  have HN0 : Hid (Lib.NoAny s.data.toList [13, 10] 0) := Lib.NoAny.zero _ _
  obtain ⟨R, hR⟩ : ∃ R, Lib.indexAny s.data.toList [13, 10] = R := ⟨_, rfl⟩
  rw [hR]
  have HR := hide hR
  clear h8z h8 hR
  go_enter Tryd.func51, Tryd.ntmps51
  go_wp2_with (go_at_call 59; refine (unhide HSI _).mono ?_; rintro e w' ⟨rfl, hw'⟩; obtain rfl := hw'.symm)
  generalize w.iter s 0 = W0 at *
  go_loopg [9, 10] s.size (fun g _ _ wx => ∃ i : Nat, i + g = s.size ∧ Hid (wx.heap[w.heap.size]? = some (.stringIter s i)) ∧ Hid (Below w.heap.size w wx) ∧ Hid (Lib.NoAny s.data.toList [13, 10] i))
  case atStart => exact ⟨0, by omega, HI0, HB0, HN0⟩
  case round =>
    clear HI0 HB0 HN0
    obtain ⟨i, hig, HI, HBE, HNO⟩ := hrel
    by_cases hlt : i < s.size
    · have hnx := fun ty => next_at (P := Tryd.prog) wr w.heap.size s i ty (unhide HI) hlt
      have hxl : s.data.toList[i]? = some (s[i]'hlt) := Lib.data_getElem? s i hlt
      by_cases hx : (s[i]'hlt).toNat < 128
      · have hd := decode_ascii s i hlt hx
        rw [hd] at hnx
        simp only at hnx
        have HI2 := hide (setIt_at (q := i + 1) (unhide HI))
        have HB2 := hide (setIt_below (q := i + 1) (s := s) (unhide HBE) (Nat.le_refl w.heap.size))
        have hback : ((s[i]'hlt).toNat : Int).toNat.toUInt8 = s[i]'hlt := by simp
        have hIR := fun W => Tryd.strings_IndexRune_ascii ⟨#[13, 10]⟩ ((s[i]'hlt).toNat : Int) W (by omega) (by omega)
        rw [hback] at hIR
        have HIR := hide hIR
        have hcon := Lib.contains_iff_indexByte [13, 10] (s[i]'hlt)
        have HN2 : Hid ([13, 10].contains (s[i]'hlt) = false → Lib.NoAny s.data.toList [13, 10] (i + 1)) := fun h => (unhide HNO).succ hxl h
        have HR2 : Hid ([13, 10].contains (s[i]'hlt) = true → R = i) := fun h => by rw [← unhide HR]; exact Lib.indexAny_hit (unhide HNO) hxl h
        clear hIR hback hd hxl hx
        generalize setIt wr w.heap.size s (i + 1) = W2 at *
        cases hin : [13, 10].contains (s[i]'hlt)
        · rw [hin] at hcon
          have hltz : ¬ ((0 : Int) ≤ Lib.indexByte [13, 10] (s[i]'hlt)) := of_decide_eq_false hcon.symm
          have HN3 := hide (unhide HN2 hin)
          clear hcon hin HN2 HR2
          go_wp2_with (go_at_call 58; refine (unhide HIR _).mono ?_; rintro e w' ⟨rfl, hw'⟩; obtain rfl := hw'.symm)
          go_roundg (s.size - (i + 1))
          case measure => omega
          case rel => exact ⟨i + 1, by omega, HI2, HB2, HN3⟩
        · rw [hin] at hcon
          have hge : (0 : Int) ≤ Lib.indexByte [13, 10] (s[i]'hlt) := of_decide_eq_true hcon.symm
          have HR3 := hide (unhide HR2 hin)
          clear hcon hin HN2 HR2
          go_wp2_with (go_at_call 58; refine (unhide HIR _).mono ?_; rintro e w' ⟨rfl, hw'⟩; obtain rfl := hw'.symm)
          go_ret
          exact ⟨by rw [unhide HR3]; rfl, unhide HB2⟩
      · obtain ⟨d1, d2, d3⟩ := dec_facts s i hlt (by omega)
        have hr := (decode_high s i hlt (by omega)).1
        have HI2 := hide (setIt_at (q := i + (Utf8.decode s i).2) (unhide HI))
        have HB2 := hide (setIt_below (q := i + (Utf8.decode s i).2) (s := s) (unhide HBE) (Nat.le_refl w.heap.size))
        have HIR := hide (fun W => rune_crlf ((Utf8.decode s i).1 : Int) W (by omega))
        have HN2 : Hid (Lib.NoAny s.data.toList [13, 10] (i + (Utf8.decode s i).2)) := fun j b hj hb => by
          by_cases hji : j < i
          · exact unhide HNO j b hji hb
          · have hjs : j < s.size := by omega
            have h128 := d3 j hjs (by omega) hj
            rw [Lib.data_getElem? s j hjs] at hb
            obtain rfl := Option.some.inj hb
            simp only [List.contains_cons, List.contains_nil, Bool.or_false, Bool.or_eq_false_iff, beq_eq_false_iff_ne]
            constructor <;> (intro h; rw [h] at h128; revert h128; decide)
        clear d3 hr hxl hx HNO
        generalize hk : (Utf8.decode s i).2 = k at *
        generalize ((Utf8.decode s i).1 : Int) = r at *
        clear hk
        generalize setIt wr w.heap.size s (i + k) = W2 at *
        have hAl := (Array.getElem?_eq_some_iff.1 (unhide HI2)).1
        go_wp2_with (go_at_call 58; refine (unhide HIR _).mono ?_; rintro e W3 ⟨rfl, hb3⟩)
        go_roundg (s.size - (i + k))
        case measure => omega
        case rel => exact ⟨i + k, by omega, (hb3.block _ hAl).trans (unhide HI2), (unhide HB2).trans (hb3.mono (unhide HB2).size), HN2⟩
    · have hnx := fun ty => next_end (P := Tryd.prog) wr w.heap.size s i ty (unhide HI) hlt
      obtain rfl : i = s.size := by omega
      have HR2 : Hid (R = -1) := by rw [Hid, ← unhide HR]; exact Lib.indexAny_none (by rw [← Lib.size_eq]; exact unhide HNO)
      go_wp2
      go_ret
      exact ⟨by rw [unhide HR2]; rfl, unhide HBE⟩
set_option maxRecDepth 100000 in
set_option maxHeartbeats 4000000 in
theorem contains_crlf (s : ByteArray) (hs : s.size < 4294967281) (w : World) : Calls Tryd.prog 37 #[.string s, .string ⟨#[13, 10]⟩] w fun e w' => e = .returned (.bool (Lib.containsAny s.data.toList [13, 10])) ∧ Below w.heap.size w w' := by
  have hI : Calls Tryd.prog 51 #[.string s, .string ⟨#[13, 10]⟩] w fun e w' => e = .returned (.int .i64 (Lib.indexAny s.data.toList [13, 10])) ∧ Below w.heap.size w w' := by
    by_cases h8 : s.size ≤ 8
    · exact any_short s h8 w
    · exact Tryd.strings_IndexAny_long s ⟨#[13, 10]⟩ w (by decide) (by omega) hs (by decide) (fun j b hb => by
        match j, hb with
        | 0, hb => simp at hb; subst hb; decide
        | 1, hb => simp at hb; subst hb; decide
        | n + 2, hb => simp at hb)
  have HI := hide hI
  unfold Lib.containsAny
  clear hI
  generalize Lib.indexAny s.data.toList [13, 10] = R at *
  go_enter Tryd.func37, Tryd.ntmps37
  go_wp2_with (go_at_call 51; refine (unhide HI).mono ?_; rintro e w' ⟨rfl, hw'⟩)
  go_ret
  exact ⟨rfl, hw'⟩
theorem caOK_crlf (s : List UInt8) (hs : s.length < 4294967281) : CaOK s 13 10 := by
  intro w
  have h := contains_crlf ⟨s.toArray⟩ (by rw [len_toArray]; exact hs) w
  rw [show (⟨s.toArray⟩ : ByteArray).data.toList = s from by simp, containsAny_is] at h
  exact h
end Go.Proofs.YtnpjgamfjfmjjaaDoor
