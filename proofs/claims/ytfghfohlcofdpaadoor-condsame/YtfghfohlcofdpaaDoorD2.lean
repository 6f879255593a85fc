/-
  Package cond: isPlain, readCode, readEscape.
-/
import Derived.Test.YtfghfohlcofdpaaDoorC6
import Derived.Test.YtfghfohlcofdpaaDoorC7
import Derived.Test.YtfghfohlcofdpaaDoorC9
namespace Go.Proofs.YtfghfohlcofdpaaDoor
open Go Go.RowKit
set_option linter.unusedVariables false
set_option linter.unusedSimpArgs false

/-- Is a byte a character as it stands? -/
def plainM (c : Int) : Bool := c != 39 && c != 92 && c != 13 && c != 10
set_option maxRecDepth 100000 in
set_option maxHeartbeats 4000000 in
theorem isPlain_any (c : Int) (w : World) : Calls Tryd.prog 32 #[.int .u8 c] w fun e w' => e = .returned (.bool (plainM c)) ∧ w' = w := by
  cases h1 : c != 39 <;> cases h2 : c != 92 <;> cases h3 : c != 13 <;> cases h4 : c != 10
  all_goals (
    go_enter Tryd.func32, Tryd.ntmps32
    go_wp2
    go_ret
    exact ⟨by simp [plainM, h1, h2, h3, h4], rfl⟩)

theorem puB_range (base : Int) (hb : 0 ≤ base) : ∀ (l : List UInt8) (a : Int), 0 ≤ a → a < 256 → 0 ≤ (puB base a l).1 ∧ (puB base a l).1 < 256
  | [], a, h0, h1 => ⟨h0, h1⟩
  | c :: r, a, h0, h1 => by
    have hd : 0 ≤ dvM (c.toNat : Int) := by
      unfold dvM
      split
      · omega
      · split
        · omega
        · omega
    have hm : 0 ≤ a * base := Int.mul_nonneg h0 hb
    rw [puB]
    split
    · exact ⟨by decide, by decide⟩
    · split
      · exact ⟨by decide, by decide⟩
      · exact puB_range base hb r _ (by omega) (by omega)
theorem puSB_range (base : Int) (hb : 0 ≤ base) (t : List UInt8) : 0 ≤ (puSB base t).1 ∧ (puSB base t).1 < 256 := by
  unfold puSB
  split
  · exact ⟨by decide, by decide⟩
  · exact puB_range base hb t 0 (by decide) (by decide)
/-- A code, and whether it is one. -/
def codeM (base : Int) (s : List UInt8) : Int × Bool :=
  if base == 8 && decide (3 < s.length) then (0, false) else if (puSB base s).2 ≠ 0 then (0, false) else ((puSB base s).1, true)
set_option maxRecDepth 100000 in
set_option maxHeartbeats 4000000 in
theorem readCode_any (base : Int) (hb : base = 16 ∨ base = 8) (s : List UInt8) (hs : s.length ≤ 140737488355328) (w : World) (hw : 1 < w.heap.size) (hg : Eg w) :
    Calls Tryd.prog 43 #[.string ⟨s.toArray⟩, .int .i64 base] w fun e w' => e = .returned (.tuple #[.int .u8 (codeM base s).1, .bool (codeM base s).2]) ∧ Below w.heap.size w w' := by
  have HP := hide (ParseUintB_any base hb s hs w hw hg)
  have HR : Hid (codeM base s = if base == 8 && decide (3 < s.length) then (0, false) else if (puSB base s).2 ≠ 0 then (0, false) else ((puSB base s).1, true)) := rfl
  have hrg := puSB_range base (by omega) s
  generalize codeM base s = R at *
  generalize puSB base s = Z at *
  obtain ⟨z, k⟩ := Z
  simp only at HR hrg
  have hwz : z % 256 = z := by omega
  have HWZ := hide hwz
  clear hrg hwz hg hw hs
  have hne := neE
  have hnn := neN
  have hsz : (⟨s.toArray⟩ : ByteArray).size = s.length := by show s.toArray.size = _; simp
  have hwalk : ∀ (X : Bool), (base == 8 && decide (3 < s.length)) = X → Calls Tryd.prog 43 #[.string ⟨s.toArray⟩, .int .i64 base] w fun e w' => e = .returned (.tuple #[.int .u8 R.1, .bool R.2]) ∧ Below w.heap.size w w' := by
    intro X hX
    rw [hX] at HR
    have hb8 : (base == 8) = true ∨ (base == 8) = false := by cases (base == 8) <;> simp
    cases X
    · simp only [Bool.false_eq_true, if_false] at HR
      rcases hb8 with h8 | h8
      · have hl : ¬ (3 : Int) < (s.length : Int) := by simp [h8] at hX; omega
        clear hX hb
        go_enter Tryd.func43, Tryd.ntmps43
        go_wp2_with fail
        refine (unhide HP).mono ?_
        rintro e W1 ⟨⟨er, rfl, hcase⟩, hb1⟩
        have HB := hide hb1
        clear hb1 HP
        simp only at hcase
        rcases hcase with ⟨hz, rfl⟩ | ⟨hz, v, rfl⟩
        · rw [if_neg (by simpa using hz)] at HR
          obtain rfl := unhide HR
          go_wp2
          go_ret2
          exact ⟨by rw [unhide HWZ]; rfl, unhide HB⟩
        · rw [if_pos (by simpa using hz)] at HR
          obtain rfl := unhide HR
          go_wp2
          go_ret2
          exact ⟨rfl, unhide HB⟩
      · clear hX hb
        go_enter Tryd.func43, Tryd.ntmps43
        go_wp2_with fail
        refine (unhide HP).mono ?_
        rintro e W1 ⟨⟨er, rfl, hcase⟩, hb1⟩
        have HB := hide hb1
        clear hb1 HP
        simp only at hcase
        rcases hcase with ⟨hz, rfl⟩ | ⟨hz, v, rfl⟩
        · rw [if_neg (by simpa using hz)] at HR
          obtain rfl := unhide HR
          go_wp2
          go_ret2
          exact ⟨by rw [unhide HWZ]; rfl, unhide HB⟩
        · rw [if_pos (by simpa using hz)] at HR
          obtain rfl := unhide HR
          go_wp2
          go_ret2
          exact ⟨rfl, unhide HB⟩
    · simp only [if_true] at HR
      obtain rfl := unhide HR
      simp only [Bool.and_eq_true, decide_eq_true_eq] at hX
      obtain ⟨h8, h3⟩ := hX
      have hl : (3 : Int) < (s.length : Int) := by omega
      clear hb
      go_enter Tryd.func43, Tryd.ntmps43
      go_wp2
      go_ret2
      exact ⟨rfl, Below.refl _ _⟩
  exact hwalk _ rfl

end Go.Proofs.YtfghfohlcofdpaaDoor
