/-
  strings.ContainsAny of "\r\n", of whatever text.
-/
import Derived.Test.YtnpjgamfjfmjjaaDoorSh
import Derived.Test.YtnpjgamfjfmjjaaDoorXb
import Derived.Laws.Runes
import Derived.Laws.RangeAny
import Derived.Lib.MapLaws
import Derived.BigQuiet
namespace Go.Proofs.YtnpjgamfjfmjjaaDoor
open Go Go.RowKit Go.Shelf
set_option linter.unusedVariables false
set_option linter.unusedSimpArgs false

def CRLF : ByteArray := ⟨#[13, 10]⟩
def Vp (r : Int) (e : Ending) : Prop := ∃ b : Bool, e = .returned (.bool b) ∧ (b = true → Utf8.valid r = true)
set_option maxRecDepth 100000 in
set_option maxHeartbeats 4000000 in
theorem validRune_any (r : Int) (w : World) (h : 128 ≤ r) : Calls Tryd.prog 70 #[.int .i32 r] w fun e w' => Vp r e ∧ w' = w := by
  have h0 : (0 : Int) ≤ r := by omega
  have H : Hid (r < 55296 ∨ (57343 < r ∧ r ≤ 1114111) → Utf8.valid r = true) := fun h1 => by
    unfold Utf8.valid; simp; omega
  clear h
  by_cases h1 : r < 55296
  · go_enter Tryd.func70, Tryd.ntmps70
    go_wp2
    go_ret
    exact ⟨⟨true, rfl, fun _ => unhide H (.inl h1)⟩, rfl⟩
  · by_cases h2 : 57343 < r
    · by_cases h3 : r ≤ 1114111
      · go_enter Tryd.func70, Tryd.ntmps70
        go_wp2
        go_ret
        exact ⟨⟨true, rfl, fun _ => unhide H (.inr ⟨h2, h3⟩)⟩, rfl⟩
      · go_enter Tryd.func70, Tryd.ntmps70
        go_wp2
        go_ret
        exact ⟨⟨false, rfl, fun h => by cases h⟩, rfl⟩
    · go_enter Tryd.func70, Tryd.ntmps70
      go_wp2
      go_ret
      exact ⟨⟨false, rfl, fun h => by cases h⟩, rfl⟩
set_option maxRecDepth 100000 in
set_option maxHeartbeats 4000000 in
/-- No rune of more than one byte stands in two bytes below 128. -/
theorem rune_crlf (r : Int) (w : World) (h : 128 ≤ r) : Calls Tryd.prog 58 #[.string ⟨#[13, 10]⟩, .int .i32 r] w fun e w' => e = .returned (.int .i64 (-1)) ∧ Below w.heap.size w w' := by
  have h0 : (0 : Int) ≤ r := by omega
  have h1 : ¬ r < 128 := by omega
  have HV := hide (validRune_any r w h)
  cases hq : r == 65533
  · go_enter Tryd.func58, Tryd.ntmps58
    go_wp2_with fail
    refine (unhide HV).mono ?_
    rintro e w' ⟨⟨b, rfl, hb⟩, hw'⟩
    obtain rfl := hw'.symm
    cases b
    · go_wp2
      go_ret
      exact ⟨rfl, Below.refl _ _⟩
    · obtain ⟨e2, e4, el⟩ := encode_facts r (hb rfl) h
      clear hb HV
      go_wp2
      go_step3
      go_wp2
      generalize Utf8.encode r = E at *
      go_loopg [9, 10] 1 (fun gk i f wr => i = .int .i64 ((E.size : Int) - 1) ∧ f = .int .i64 0 ∧ wr = w ∧ gk = 1)
      case atStart => exact ⟨rfl, rfl, rfl, rfl⟩
      case round =>
        obtain ⟨rfl, rfl, rfl, rfl⟩ := hrel
        by_cases hE : E.size = 2
        · have hl : (E.size : Int) - 1 = 1 := by omega
          have h1l : 1 < E.size := by omega
          have hel : 128 ≤ (E[1]'h1l).toNat := by have := el (by omega); simpa [hE] using this
          have hne : ((10 : Int) == ((E[1]'h1l).toNat : Int)) = false := by rw [beq_eq_false_iff_ne]; omega
          have HIB : Hid (∀ W, Calls Tryd.prog 69 #[.string ByteArray.empty, .int .u8 ((E[1]'h1l).toNat : Int)] W fun e w' => e = .returned (.int .i64 (-1)) ∧ w' = W) := fun W => Tryd.strings_IndexByte ByteArray.empty _ W
          have hw2 : IntKind.i64.wrap 2 = 2 := by decide
          have hsl : ∀ W, (Instr.slice 9 (.string ⟨#[13, 10]⟩) (some (.int .i64 2)) none none).run Tryd.prog W = .ok (.string ByteArray.empty) W := fun W => by
            rw [run_slice_string_from_if W 9 _ _ _ Tryd.underlying9, if_pos ⟨by decide, by decide⟩]
            have he : (⟨#[13, 10]⟩ : ByteArray).extract ((2 : Int).toNat) (⟨#[13, 10]⟩ : ByteArray).size = ByteArray.empty := by
              apply ByteArray.ext
              rw [ByteArray.data_extract]
              rfl
            rw [he]
          have hne2 : (((((⟨#[13, 10]⟩ : ByteArray)[1]'(by decide)).toNat : Int)) != ((E[1]'h1l).toNat : Int)) = true := by
            have : (((⟨#[13, 10]⟩ : ByteArray)[1]'(by decide)).toNat : Int) = 10 := rfl
            rw [this, bne, hne]; rfl
          clear el e2 e4 hel
          rw [hl]
          go_wp2
          go_step3
          go_upto_region 6 with fail
          go_quiet (fail)
          revert nq
          intro n1
          have HBW : Hid (Below wr.heap.size wr (wr.drewN n1)) := below_drewN (Below.refl _ _) n1
          generalize wr.drewN n1 = w1 at *
          go_upto_region 7 with fail
          go_quiet ((go_at_call 69; exact Calls.quiet_of_same (unhide HIB _)))
          go_wp2
          rw [Exit.noGoto_ret]
          go_simp
          go_ret
          exact ⟨rfl, (unhide HBW).trans (below_drewN (Below.refl _ _) _)⟩
        · have i1 : ¬ (E.size : Int) - 1 < 2 := by omega
          go_wp2
          go_ret
          exact ⟨rfl, Below.refl _ _⟩
  · obtain rfl : r = 65533 := by simpa using hq
    clear HV hq h0 h1 h
    go_enter Tryd.func58, Tryd.ntmps58
    go_wp2
    go_loopg [5, 6] 2 (fun gk _ _ wx => ∃ i : Nat, i + gk = 2 ∧ wx = w.iter ⟨#[13, 10]⟩ i)
    case atStart => exact ⟨0, rfl, rfl⟩
    case round =>
      obtain ⟨i, hi, rfl⟩ := hrel
      match i, hi with
      | 0, hi =>
        obtain rfl : gk = 2 := by omega
        have hnx := fun ty => run_next_ascii (P := Tryd.prog) w ⟨#[13, 10]⟩ 0 ty (by decide) (by decide)
        go_wp2
        go_roundg 1
        case measure => omega
        case rel => exact ⟨1, rfl, rfl⟩
      | 1, hi =>
        obtain rfl : gk = 1 := by omega
        have hnx := fun ty => run_next_ascii (P := Tryd.prog) w ⟨#[13, 10]⟩ 1 ty (by decide) (by decide)
        go_wp2
        go_roundg 0
        case measure => omega
        case rel => exact ⟨2, rfl, rfl⟩
      | 2, hi =>
        obtain rfl : gk = 0 := by omega
        have hnx := run_next_end (P := Tryd.prog) w ⟨#[13, 10]⟩ 2
        go_wp2
        go_ret
        exact ⟨rfl, (Below.refl _ w).alloc (Nat.le_refl _) _⟩
      | n + 3, hi => omega
end Go.Proofs.YtnpjgamfjfmjjaaDoor
