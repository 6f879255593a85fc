/-
  Package cond: readChar, Char.
-/
import Derived.Test.YtfghfohlcofdpaaDoorD3
namespace Go.Proofs.YtfghfohlcofdpaaDoor
open Go Go.RowKit
set_option linter.unusedVariables false
set_option linter.unusedSimpArgs false

/-- What stands between a character's ends. -/
def innM (s : List UInt8) : List UInt8 := (s.drop 1).take (s.length - 2)
/-- Are a text's ends those of a character, with a byte between? -/
def endsM (s : List UInt8) : Bool := decide (3 ≤ s.length) && (s.head? == some 39 && s.getLast? == some 39)
/-- What stands between the ends is worth. -/
def inM : List UInt8 → Int × Bool
  | [] => (0, false)
  | c :: r => if c == 92 then escpM r else (c.toNat, r == [] && plainM c.toNat)
/-- The byte that a character is, and whether it is one. -/
def rdM (s : List UInt8) : Int × Bool := if endsM s then inM (innM s) else (0, false)
theorem innM_len (s : List UInt8) : (innM s).length = s.length - 2 := by unfold innM; simp; omega
theorem inM_is (t : List UInt8) (h : 0 < t.length) : inM t = if (t[0].toNat : Int) == 92 then escpM (t.drop 1) else ((t[0].toNat : Int), t.length == 1 && plainM (t[0].toNat : Int)) := by
  match t, h with
  | c :: r, h =>
    simp only [inM, List.getElem_cons_zero, List.drop_succ_cons, List.drop_zero]
    have e1 : (c == 92) = ((c.toNat : Int) == 92) := by
      have : c = 92 ↔ c.toNat = 92 := ⟨fun h => by rw [h]; rfl, fun h => UInt8.toNat_inj.1 h⟩
      rw [Bool.eq_iff_iff]; simp [this]; omega
    have e2 : (r == []) = ((c :: r).length == 1) := by cases r <;> simp
    rw [e1, e2]
theorem endsM_is (s : List UInt8) (h : 3 ≤ s.length) : endsM s = ((s[0].toNat : Int) == 39 && (s[s.length - 1].toNat : Int) == 39) := by
  have e : ∀ c : UInt8, (some c == some (39 : UInt8)) = ((c.toNat : Int) == 39) := fun c => by
    have : c = 39 ↔ c.toNat = 39 := ⟨fun h => by rw [h]; rfl, fun h => UInt8.toNat_inj.1 h⟩
    rw [Bool.eq_iff_iff]; simp [this]; omega
  unfold endsM
  rw [decide_eq_true h, Bool.true_and, List.head?_eq_getElem?, List.getElem?_eq_getElem (by omega), List.getLast?_eq_getElem?, List.getElem?_eq_getElem (by omega), e, e]
set_option maxRecDepth 100000 in
set_option maxHeartbeats 400000 in
theorem char_short (B : ByteArray) (h : B.size < 3) (w : World) :
    Calls Tryd.prog 23 #[.string B] w fun e w' => e = .returned (.tuple #[.int .u8 0, .bool false]) ∧ Below w.heap.size w w' := by
  have i0 : (B.size : Int) < 3 := by omega
  go_enter Tryd.func23, Tryd.ntmps23
  go_wp2
  go_ret2
  exact ⟨rfl, Below.refl _ _⟩
set_option maxRecDepth 100000 in
set_option maxHeartbeats 400000 in
theorem char_first (B : ByteArray) (h : 3 ≤ B.size) (hm : B.size ≤ 140737488355328) (w : World) (h1 : ((B[0].toNat : Int) != 39) = true) :
    Calls Tryd.prog 23 #[.string B] w fun e w' => e = .returned (.tuple #[.int .u8 0, .bool false]) ∧ Below w.heap.size w w' := by
  have i0 : ¬ (B.size : Int) < 3 := by omega
  have i1 : 0 < B.size := by omega
  go_enter Tryd.func23, Tryd.ntmps23
  go_wp2
  go_ret2
  exact ⟨rfl, Below.refl _ _⟩
set_option maxRecDepth 100000 in
set_option maxHeartbeats 400000 in
theorem char_last (B : ByteArray) (h : 3 ≤ B.size) (hm : B.size ≤ 140737488355328) (w : World) (h1 : ((B[0].toNat : Int) != 39) = false) (h2 : ((B[B.size - 1].toNat : Int) != 39) = true) :
    Calls Tryd.prog 23 #[.string B] w fun e w' => e = .returned (.tuple #[.int .u8 0, .bool false]) ∧ Below w.heap.size w w' := by
  have i0 : ¬ (B.size : Int) < 3 := by omega
  have i1 : 0 < B.size := by omega
  have i2 : (1 : Int) ≤ (B.size : Int) := by omega
  have i3 : (B.size : Int) - 1 < (B.size : Int) := by omega
  go_enter Tryd.func23, Tryd.ntmps23
  go_wp2
  go_ret2
  exact ⟨rfl, Below.refl _ _⟩
set_option maxRecDepth 100000 in
set_option maxHeartbeats 400000 in
theorem char_in (B : ByteArray) (h : 3 ≤ B.size) (hm : B.size ≤ 140737488355328) (w : World) (h1 : ((B[0].toNat : Int) != 39) = false) (h2 : ((B[B.size - 1].toNat : Int) != 39) = false)
    (T : ByteArray) (hT : B.extract 1 (B.size - 1) = T) (hT0 : 0 < T.size) (Z : Int × Bool)
    (HE : Hid (((T[0].toNat : Int) == 92) = true → ∀ T2, T.extract 1 T.size = T2 → Calls Tryd.prog 31 #[.string T2] w fun e w' => e = .returned (.tuple #[.int .u8 Z.1, .bool Z.2]) ∧ Below w.heap.size w w'))
    (HN : Hid (((T[0].toNat : Int) == 92) = false → Z = ((T[0].toNat : Int), T.size == 1 && plainM (T[0].toNat : Int)))) :
    Calls Tryd.prog 23 #[.string B] w fun e w' => e = .returned (.tuple #[.int .u8 Z.1, .bool Z.2]) ∧ Below w.heap.size w w' := by
  have i0 : ¬ (B.size : Int) < 3 := by omega
  have i1 : 0 < B.size := by omega
  have i2 : (1 : Int) ≤ (B.size : Int) := by omega
  have i3 : (B.size : Int) - 1 < (B.size : Int) := by omega
  have i4 : (1 : Int) ≤ (B.size : Int) - 1 := by omega
  have i5 : (1 : Int) ≤ (T.size : Int) := by omega
  have hsl : ∀ W : World, (Instr.slice 9 (.string B) (some (.int .i64 1)) (some (.int .i64 ((B.size : Int) - 1))) none).run Tryd.prog W = .ok (.string T) W := fun W => by
    have := run_slice_string (P := Tryd.prog) (w := W) 9 B .i64 .i64 1 ((B.size : Int) - 1) Tryd.underlying9 (by omega) (by omega) (by omega)
    rw [this, ← hT]
    have : ((B.size : Int) - 1).toNat = B.size - 1 := by omega
    rw [this]; rfl
  clear hT
  cases h3 : (T[0].toNat : Int) == 92
  · have HZ := hide (unhide HN h3)
    have HP := hide (fun W => isPlain_any (T[0].toNat : Int) W)
    generalize plainM (T[0].toNat : Int) = pm at *
    clear HE HN
    go_enter Tryd.func23, Tryd.ntmps23
    cases hts : T.size == 1
    · rw [hts] at HZ
      simp only [Bool.false_and] at HZ
      obtain rfl := unhide HZ
      have hts' : ((T.size : Int) == 1) = false := by simp at hts ⊢; omega
      clear HZ hts
      go_upto_region 6 with fail
      go_quiet (fail)
      go_wp2
      go_ret2
      exact ⟨rfl, below_drewN (Below.refl _ _) _⟩
    · rw [hts] at HZ
      simp only [Bool.true_and] at HZ
      obtain rfl := unhide HZ
      have hts' : ((T.size : Int) == 1) = true := by simp at hts ⊢; omega
      clear HZ hts
      go_upto_region 6 with fail
      go_quiet ((go_at_call 32; exact Calls.quiet_of_same (unhide HP _)))
      go_wp2
      go_ret2
      exact ⟨rfl, below_drewN (Below.refl _ _) _⟩
  · obtain ⟨T2, hT2⟩ : ∃ T2, T.extract 1 T.size = T2 := ⟨_, rfl⟩
    have HC := hide (unhide HE h3 T2 hT2)
    clear HE HN
    go_enter Tryd.func23, Tryd.ntmps23
    go_wp2_with (go_at_call 31; refine (unhide HC).mono ?_; rintro e W1 ⟨rfl, hb1⟩)
    go_ret2
    exact ⟨rfl, hb1⟩
theorem readChar_any (s : List UInt8) (hs : s.length ≤ 140737488355328) (w : World) (hw : 1 < w.heap.size) (hg : Eg w) :
    Calls Tryd.prog 23 #[.string ⟨s.toArray⟩] w fun e w' => e = .returned (.tuple #[.int .u8 (rdM s).1, .bool (rdM s).2]) ∧ Below w.heap.size w w' := by
  have hlen : (⟨s.toArray⟩ : ByteArray).size = s.length := by show s.toArray.size = _; simp
  by_cases h3 : 3 ≤ s.length
  · have hat : ∀ i (h : i < s.length), (⟨s.toArray⟩ : ByteArray)[i]'(by rw [hlen]; exact h) = s[i] := fun i h => rfl
    have he := endsM_is s h3
    cases h1 : ((s[0].toNat : Int) != 39)
    · cases h2 : ((s[s.length - 1].toNat : Int) != 39)
      · have hE : endsM s = true := by rw [he]; simp only [bne_eq_false_iff_eq] at h1 h2; rw [h1, h2]; rfl
        rw [rdM, hE, if_pos rfl]
        have hil := innM_len s
        have h0 : 0 < (innM s).length := by omega
        have hil' : (⟨(innM s).toArray⟩ : ByteArray).size = (innM s).length := by show (innM s).toArray.size = _; simp
        have hX : (⟨s.toArray⟩ : ByteArray).extract 1 ((⟨s.toArray⟩ : ByteArray).size - 1) = ⟨(innM s).toArray⟩ := by
          rw [ext_list, hlen, innM, List.drop_take, show s.length - 1 - 1 = s.length - 2 by omega]
        refine char_in ⟨s.toArray⟩ (by rw [hlen]; exact h3) (by rw [hlen]; exact hs) w h1 (by simp only [hlen]; exact h2) ⟨(innM s).toArray⟩ hX (by rw [hil']; exact h0) (inM (innM s)) ?_ ?_
        · intro hc T2 hT2
          rw [inM_is _ h0]
          have hc' : ((innM s)[0].toNat : Int) == 92 := hc
          rw [if_pos hc']
          rw [ext_list, hil', List.take_length] at hT2
          subst hT2
          exact readEscape_any ((innM s).drop 1) (by simp; omega) w hw hg
        · intro hc
          rw [inM_is _ h0]
          have hc' : (((innM s)[0].toNat : Int) == 92) = false := hc
          rw [if_neg (by rw [hc']; simp)]
          simp only [hil']
          rfl
      · have hE : endsM s = false := by rw [he]; simp only [bne_iff_ne] at h2; simp [h2]
        rw [rdM, hE]
        exact char_last ⟨s.toArray⟩ (by rw [hlen]; exact h3) (by rw [hlen]; exact hs) w h1 (by simp only [hlen]; exact h2)
    · have hE : endsM s = false := by rw [he]; simp only [bne_iff_ne] at h1; simp [h1]
      rw [rdM, hE]
      exact char_first ⟨s.toArray⟩ (by rw [hlen]; exact h3) (by rw [hlen]; exact hs) w h1
  · have hE : endsM s = false := by rw [endsM, decide_eq_false h3]; rfl
    rw [rdM, hE]
    exact char_short ⟨s.toArray⟩ (by rw [hlen]; omega) w
/-- What Char tells. -/
def charV (Z : Int × Bool) : Value := if Z.2 then .tuple #[.int .i64 (wrap64 (IntKind.i8.wrap Z.1)), .int .i64 0] else .tuple #[.int .i64 0, .int .i64 50]
theorem escM_range (c : Int) (h : 0 ≤ c ∧ c < 256) : 0 ≤ (escM c).1 ∧ (escM c).1 < 256 := by
  unfold escM
  repeat' split
  all_goals first | exact h | exact ⟨by decide, by decide⟩
theorem codeM_range (base : Int) (hb : 0 ≤ base) (s : List UInt8) : 0 ≤ (codeM base s).1 ∧ (codeM base s).1 < 256 := by
  unfold codeM
  repeat' split
  · exact ⟨by decide, by decide⟩
  · exact ⟨by decide, by decide⟩
  · exact puSB_range base hb s
theorem byte_range (c : UInt8) : 0 ≤ (c.toNat : Int) ∧ (c.toNat : Int) < 256 := by have := c.toNat_lt; omega
theorem escpM_range (s : List UInt8) : 0 ≤ (escpM s).1 ∧ (escpM s).1 < 256 := by
  cases hp : Tk.pre [120] s
  · cases s with
    | nil => exact ⟨by decide, by decide⟩
    | cons c r =>
      rw [escpM_is (c :: r) (by simp) hp]
      split
      · exact codeM_range 8 (by decide) _
      · split
        · exact escM_range _ (byte_range _)
        · exact ⟨by decide, by decide⟩
  · rw [show escpM s = codeM 16 (s.drop 1) by unfold escpM; rw [hp]; rfl]
    exact codeM_range 16 (by decide) _
theorem inM_range (s : List UInt8) : 0 ≤ (inM s).1 ∧ (inM s).1 < 256 := by
  cases s with
  | nil => exact ⟨by decide, by decide⟩
  | cons c r =>
    rw [inM]
    split
    · exact escpM_range _
    · exact byte_range c
theorem rdM_range (s : List UInt8) : 0 ≤ (rdM s).1 ∧ (rdM s).1 < 256 := by
  unfold rdM
  split
  · exact inM_range _
  · exact ⟨by decide, by decide⟩
set_option maxRecDepth 100000 in
set_option maxHeartbeats 400000 in
theorem Char_any (s : List UInt8) (hs : s.length ≤ 140737488355328) (w : World) (hw : 1 < w.heap.size) (hg : Eg w) :
    Calls Tryd.prog 11 #[.string ⟨s.toArray⟩] w fun e w' => e = .returned (charV (rdM s)) ∧ Below w.heap.size w w' := by
  have HR := hide (readChar_any s hs w hw hg)
  have hr := rdM_range s
  generalize rdM s = Z at *
  obtain ⟨z, ok⟩ := Z
  simp only [charV] at *
  have HZ := hide hr
  clear hg hw hs hr
  cases ok
  · go_enter Tryd.func11, Tryd.ntmps11
    go_wp2_with (go_at_call 23; refine (unhide HR).mono ?_; rintro e W1 ⟨rfl, hb1⟩)
    go_ret2
    exact ⟨rfl, hb1⟩
  · go_enter Tryd.func11, Tryd.ntmps11
    go_wp2_with (go_at_call 23; refine (unhide HR).mono ?_; rintro e W1 ⟨rfl, hb1⟩)
    go_ret2
    exact ⟨rfl, hb1⟩
end Go.Proofs.YtfghfohlcofdpaaDoor
