/-
  Package cond: readEscape.
-/
import Derived.Test.YtfghfohlcofdpaaDoorD2
namespace Go.Proofs.YtfghfohlcofdpaaDoor
open Go Go.RowKit
set_option linter.unusedVariables false
set_option linter.unusedSimpArgs false

/-- What an escape is worth, from behind the backslash on. -/
def escpM (s : List UInt8) : Int × Bool :=
  if Tk.pre [120] s then codeM 16 (s.drop 1)
  else match s with
    | [] => (0, false)
    | c :: r => if digM c.toNat 8 then codeM 8 (c :: r) else if r == [] then escM c.toNat else (0, false)
theorem escpM_nil : escpM [] = (0, false) := rfl
theorem escpM_is (s : List UInt8) (h : 0 < s.length) (hp : Tk.pre [120] s = false) : escpM s = if digM (s[0].toNat : Int) 8 then codeM 8 s else if s.length == 1 then escM (s[0].toNat : Int) else (0, false) := by
  match s, h with
  | c :: r, h =>
    rw [escpM, hp]
    simp only [Bool.false_eq_true, if_false, List.getElem_cons_zero]
    cases r <;> rfl
set_option maxRecDepth 100000 in
set_option maxHeartbeats 400000 in
theorem escape_no (s : List UInt8) (hn : 0 < s.length) (h1 : (s.length == 1) = false) (w : World)
    (H1 : Hid (∀ W, Calls Tryd.prog 40 #[.string ⟨s.toArray⟩, .string ⟨#[120]⟩] W fun e w' => e = .returned (.bool false) ∧ w' = W))
    (HD : Hid (∀ W, Calls Tryd.prog 28 #[.int .u8 (s[0].toNat : Int), .int .i64 8] W fun e w' => e = .returned (.bool false) ∧ w' = W)) :
    Calls Tryd.prog 31 #[.string ⟨s.toArray⟩] w fun e w' => e = .returned (.tuple #[.int .u8 0, .bool false]) ∧ Below w.heap.size w w' := by
  have hlen : (⟨s.toArray⟩ : ByteArray).size = s.length := by show s.toArray.size = _; simp
  have i0 : (0 : Int) < (s.length : Int) := by omega
  have i1 : ((s.length : Int) == 1) = false := by simp at h1 ⊢; omega
  clear h1
  go_enter Tryd.func31, Tryd.ntmps31
  go_wp2_with (first
    | (go_at_call 40; refine (unhide H1 _).mono ?_; rintro e w' ⟨rfl, hw'⟩; obtain rfl := hw'.symm)
    | (go_at_call 28; refine (unhide HD _).mono ?_; rintro e w' ⟨rfl, hw'⟩; obtain rfl := hw'.symm))
  go_ret2
  exact ⟨rfl, Below.refl _ _⟩
set_option maxRecDepth 100000 in
set_option maxHeartbeats 400000 in
theorem escape_one (s : List UInt8) (hn : 0 < s.length) (h1 : (s.length == 1) = true) (w : World) (em : Int × Bool)
    (H1 : Hid (∀ W, Calls Tryd.prog 40 #[.string ⟨s.toArray⟩, .string ⟨#[120]⟩] W fun e w' => e = .returned (.bool false) ∧ w' = W))
    (HD : Hid (∀ W, Calls Tryd.prog 28 #[.int .u8 (s[0].toNat : Int), .int .i64 8] W fun e w' => e = .returned (.bool false) ∧ w' = W))
    (HE : Hid (∀ W, Calls Tryd.prog 44 #[.int .u8 (s[0].toNat : Int)] W fun e w' => e = .returned (.tuple #[.int .u8 em.1, .bool em.2]) ∧ w' = W)) :
    Calls Tryd.prog 31 #[.string ⟨s.toArray⟩] w fun e w' => e = .returned (.tuple #[.int .u8 em.1, .bool em.2]) ∧ Below w.heap.size w w' := by
  have hlen : (⟨s.toArray⟩ : ByteArray).size = s.length := by show s.toArray.size = _; simp
  have i0 : (0 : Int) < (s.length : Int) := by omega
  have i1 : ((s.length : Int) == 1) = true := by simp at h1 ⊢; omega
  clear h1
  go_enter Tryd.func31, Tryd.ntmps31
  go_wp2_with (first
    | (go_at_call 40; refine (unhide H1 _).mono ?_; rintro e w' ⟨rfl, hw'⟩; obtain rfl := hw'.symm)
    | (go_at_call 28; refine (unhide HD _).mono ?_; rintro e w' ⟨rfl, hw'⟩; obtain rfl := hw'.symm)
    | (go_at_call 44; refine (unhide HE _).mono ?_; rintro e w' ⟨rfl, hw'⟩; obtain rfl := hw'.symm))
  go_ret2
  exact ⟨rfl, Below.refl _ _⟩
set_option maxRecDepth 100000 in
set_option maxHeartbeats 400000 in
theorem escape_oct (s : List UInt8) (hn : 0 < s.length) (w : World) (em : Int × Bool)
    (H1 : Hid (∀ W, Calls Tryd.prog 40 #[.string ⟨s.toArray⟩, .string ⟨#[120]⟩] W fun e w' => e = .returned (.bool false) ∧ w' = W))
    (HD : Hid (∀ W, Calls Tryd.prog 28 #[.int .u8 (s[0].toNat : Int), .int .i64 8] W fun e w' => e = .returned (.bool true) ∧ w' = W))
    (HC : Hid (Calls Tryd.prog 43 #[.string ⟨s.toArray⟩, .int .i64 8] w fun e w' => e = .returned (.tuple #[.int .u8 em.1, .bool em.2]) ∧ Below w.heap.size w w')) :
    Calls Tryd.prog 31 #[.string ⟨s.toArray⟩] w fun e w' => e = .returned (.tuple #[.int .u8 em.1, .bool em.2]) ∧ Below w.heap.size w w' := by
  have hlen : (⟨s.toArray⟩ : ByteArray).size = s.length := by show s.toArray.size = _; simp
  have i0 : (0 : Int) < (s.length : Int) := by omega
  go_enter Tryd.func31, Tryd.ntmps31
  go_wp2_with (first
    | (go_at_call 40; refine (unhide H1 _).mono ?_; rintro e w' ⟨rfl, hw'⟩; obtain rfl := hw'.symm)
    | (go_at_call 28; refine (unhide HD _).mono ?_; rintro e w' ⟨rfl, hw'⟩; obtain rfl := hw'.symm)
    | (go_at_call 43; refine (unhide HC).mono ?_; rintro e W1 ⟨rfl, hb1⟩))
  go_ret2
  exact ⟨rfl, hb1⟩
set_option maxRecDepth 100000 in
set_option maxHeartbeats 400000 in
theorem escape_nil (w : World)
    (H1 : Hid (∀ W, Calls Tryd.prog 40 #[.string ⟨#[]⟩, .string ⟨#[120]⟩] W fun e w' => e = .returned (.bool false) ∧ w' = W)) :
    Calls Tryd.prog 31 #[.string ⟨#[]⟩] w fun e w' => e = .returned (.tuple #[.int .u8 0, .bool false]) ∧ Below w.heap.size w w' := by
  go_enter Tryd.func31, Tryd.ntmps31
  go_wp2_with (go_at_call 40; refine (unhide H1 _).mono ?_; rintro e w' ⟨rfl, hw'⟩; obtain rfl := hw'.symm)
  go_ret2
  exact ⟨rfl, Below.refl _ _⟩
set_option maxRecDepth 100000 in
set_option maxHeartbeats 400000 in
theorem escape_hex (s : List UInt8) (hn : 1 ≤ s.length) (w : World) (em : Int × Bool)
    (H1 : Hid (∀ W, Calls Tryd.prog 40 #[.string ⟨s.toArray⟩, .string ⟨#[120]⟩] W fun e w' => e = .returned (.bool true) ∧ w' = W))
    (HC : Hid (Calls Tryd.prog 43 #[.string ⟨(s.drop 1).toArray⟩, .int .i64 16] w fun e w' => e = .returned (.tuple #[.int .u8 em.1, .bool em.2]) ∧ Below w.heap.size w w')) :
    Calls Tryd.prog 31 #[.string ⟨s.toArray⟩] w fun e w' => e = .returned (.tuple #[.int .u8 em.1, .bool em.2]) ∧ Below w.heap.size w w' := by
  have hlen : (⟨s.toArray⟩ : ByteArray).size = s.length := by show s.toArray.size = _; simp
  have HX : (⟨s.toArray⟩ : ByteArray).extract 1 s.length = ⟨(s.drop 1).toArray⟩ := by rw [ext_list, List.take_length]
  have i0 : (1 : Int) ≤ (s.length : Int) := by omega
  generalize s.drop 1 = t at *
  go_enter Tryd.func31, Tryd.ntmps31
  go_wp2_with (first
    | (go_at_call 40; refine (unhide H1 _).mono ?_; rintro e w' ⟨rfl, hw'⟩; obtain rfl := hw'.symm)
    | (go_at_call 43; refine (unhide HC).mono ?_; rintro e W1 ⟨rfl, hb1⟩))
  go_ret2
  exact ⟨rfl, hb1⟩
theorem readEscape_any (s : List UInt8) (hs : s.length ≤ 140737488355328) (w : World) (hw : 1 < w.heap.size) (hg : Eg w) :
    Calls Tryd.prog 31 #[.string ⟨s.toArray⟩] w fun e w' => e = .returned (.tuple #[.int .u8 (escpM s).1, .bool (escpM s).2]) ∧ Below w.heap.size w w' := by
  have hsz : (⟨s.toArray⟩ : ByteArray).size ≤ maxLen := by show s.toArray.size ≤ _; simp; unfold maxLen; omega
  have H1 := hide (fun W => hasPre ⟨s.toArray⟩ ⟨#[120]⟩ W hsz (by unfold maxLen; decide))
  simp only at H1
  cases hp : Tk.pre [120] s
  · rw [hp] at H1
    by_cases hn : 0 < s.length
    · rw [escpM_is s hn hp]
      have HD := hide (fun W => isDigitC_any (s[0].toNat : Int) 8 W)
      cases hd : digM (s[0].toNat : Int) 8
      · rw [hd] at HD
        simp only [Bool.false_eq_true, if_false]
        cases h1 : s.length == 1
        · simp only [Bool.false_eq_true, if_false]
          exact escape_no s hn h1 w H1 HD
        · simp only [if_true]
          exact escape_one s hn h1 w _ H1 HD (fun W => plainEscape_any _ W)
      · rw [hd] at HD
        simp only [if_true]
        exact escape_oct s hn w _ H1 HD (readCode_any 8 (.inr rfl) s hs w hw hg)
    · obtain rfl : s = [] := List.length_eq_zero_iff.1 (by omega)
      rw [escpM_nil]
      exact escape_nil w H1
  · have hl1 : 1 ≤ s.length := by
      match s, hp with
      | [], h => simp [Tk.pre] at h
      | c :: r, _ => simp
    rw [hp] at H1
    rw [show escpM s = codeM 16 (s.drop 1) by unfold escpM; rw [hp]; rfl]
    exact escape_hex s hl1 w _ H1 (readCode_any 16 (.inl rfl) (s.drop 1) (by simp; omega) w hw hg)
end Go.Proofs.YtfghfohlcofdpaaDoor
