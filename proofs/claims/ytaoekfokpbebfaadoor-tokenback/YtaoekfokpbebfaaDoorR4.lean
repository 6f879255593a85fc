/-
  The document's own words: first, the token that begins a text.
-/
import Derived.Test.YtaoekfokpbebfaaDoorR1
import Derived.Test.YtaoekfokpbebfaaDoorR2
import Derived.Test.YtaoekfokpbebfaaDoorR3
import Derived.Test.YtaoekfokpbebfaaDoorP6
namespace Go.Proofs.YtaoekfokpbebfaaDoor
open Go Go.RowKit
set_option linter.unusedVariables false
set_option linter.unusedSimpArgs false

/-- What 'first' tells, in the parts that it asks. -/
def fiR (nm nu : Nat) (x : Int) (q sg : Nat) : Nat × Nat :=
  if 0 < nm then (1, nm) else if 0 < nu then (2, nu) else if x == 34 then (4, q) else if x == 39 then (3, if q = 2 then 0 else q) else if 0 < sg then (5, sg) else (6, 1)
theorem fi_ms (s : ByteArray) (h0 : 0 < s.size) : fiR (nmR s.data.toList) (nuR s.data.toList) (s[0].toNat : Int) (qr s h0) (Tk.sgL s.data.toList) = Tk.ms s.data.toList := by
  have hd := drop_at s 0 h0
  simp only [List.drop_zero, Nat.zero_add] at hd
  have e39 : ((s[0].toNat : Int) == 39) = (s[0] == 39) := (byte_eq s[0] 39).symm
  have e34 : ((s[0].toNat : Int) == 34) = (s[0] == 34) := (byte_eq s[0] 34).symm
  unfold fiR
  rw [e39, e34]
  have hN : nmR s.data.toList = if Tk.le s[0] then Tk.nmL (s.data.toList.drop 1) + 1 else 0 := by
    conv => lhs; rw [hd]
    rfl
  have hU : nuR s.data.toList = if Tk.dg s[0] || (s[0] == 46 && Tk.dig1 (s.data.toList.drop 1)) then Tk.nuL s[0] (s.data.toList.drop 1) + 1 else 0 := by
    conv => lhs; rw [hd]
    rfl
  have hM : Tk.ms s.data.toList = if Tk.dg s[0] || (s[0] == 46 && Tk.dig1 (s.data.toList.drop 1)) then (2, Tk.nuL s[0] (s.data.toList.drop 1) + 1)
    else if Tk.nm s[0] then (1, Tk.nmL (s.data.toList.drop 1) + 1)
    else if s[0] == 39 then (3, if Tk.quL 39 false (s.data.toList.drop 1) = 1 then 0 else Tk.up (Tk.quL 39 false (s.data.toList.drop 1)))
    else if s[0] == 34 then (4, Tk.up (Tk.quL 34 false (s.data.toList.drop 1)))
    else if 0 < Tk.sgL s.data.toList then (5, Tk.sgL s.data.toList) else (6, 1) := by
    conv => lhs; rw [hd]
    rw [Tk.ms, ← hd]
  have hQ : qr s h0 = Tk.up (Tk.quL s[0] false (s.data.toList.drop 1)) := rfl
  rw [hN, hU, hM, hQ]
  have hle : Tk.le s[0] = true → Tk.dg s[0] = false ∧ (s[0] == 46) = false := by
    intro h
    refine ⟨?_, ?_⟩
    · rw [Bool.eq_false_iff]
      intro h2
      revert h h2
      generalize s[0] = c
      unfold Tk.le Tk.dg
      simp only [Bool.or_eq_true, Bool.and_eq_true, decide_eq_true_eq, beq_iff_eq, UInt8.le_iff_toNat_le]
      intro h h2
      rcases h with (h | h) | h
      · have := h.1; have := h2.2; simp at *; omega
      · have := h.1; have := h2.2; simp at *; omega
      · subst h; simp at h2
    · rw [beq_eq_false_iff_ne]
      intro h2
      rw [h2] at h
      revert h; decide
  cases hl : Tk.le s[0]
  · simp only [Bool.false_eq_true, if_false, Nat.lt_irrefl, Tk.nm, hl, Bool.false_or]
    cases hu : (Tk.dg s[0] || (s[0] == 46 && Tk.dig1 (s.data.toList.drop 1)))
    · have hdg : Tk.dg s[0] = false := by
        cases h : Tk.dg s[0]
        · rfl
        · rw [h] at hu; cases hu
      simp only [Bool.false_eq_true, if_false, Nat.lt_irrefl, hdg]
      by_cases h39 : s[0] = 39
      · have h34 : (s[0] == 34) = false := by rw [h39]; decide
        rw [h34, h39]
        simp only [beq_self_eq_true, if_true, Bool.false_eq_true, if_false]
        congr 1
        generalize Tk.quL 39 false (s.data.toList.drop 1) = Q
        unfold Tk.up
        by_cases hq : Q = 1
        · simp [hq]
        · by_cases hq0 : Q = 0
          · simp [hq0]
          · simp [hq, hq0]
      · have h39' : (s[0] == 39) = false := by simpa using h39
        by_cases h34 : s[0] = 34
        · rw [h34]; simp
        · have h34' : (s[0] == 34) = false := by simpa using h34
          rw [h39', h34']; simp
    · simp
  · obtain ⟨h1, h2⟩ := hle hl
    rw [h1, h2]
    simp [Tk.nm, hl]

set_option maxHeartbeats 8000000 in
theorem rfirst_x (s : ByteArray) (w : World) (h0 : 0 < s.size) (nm nu q sg : Nat)
    (HNM : Hid (∀ w, Calls Tryd.prog 45 #[.string s] w fun e w' => e = .returned (.int .i64 (nm : Nat)) ∧ w' = w))
    (HNU : Hid (∀ w, Calls Tryd.prog 46 #[.string s] w fun e w' => e = .returned (.int .i64 (nu : Nat)) ∧ w' = w))
    (HQU : Hid (∀ w, Calls Tryd.prog 47 #[.string s] w fun e w' => e = .returned (.int .i64 (q : Nat)) ∧ ∃ m, w' = w.drewN m))
    (HSG : Hid (∀ w, Calls Tryd.prog 48 #[.string s] w fun e w' => e = .returned (.int .i64 (sg : Nat)) ∧ w' = w)) :
    Calls Tryd.prog 36 #[.string s] w fun e w' => e = .returned (pairV (fiR nm nu (s[0].toNat : Int) q sg)) ∧ ∃ m, w' = w.drewN m := by
  have i0 : (0 : Int) < (s.size : Int) := by omega
  have hcs : (0 < nm ∧ fiR nm nu (s[0].toNat : Int) q sg = (1, nm)) ∨ (nm = 0 ∧ 0 < nu ∧ fiR nm nu (s[0].toNat : Int) q sg = (2, nu)) ∨
      (nm = 0 ∧ nu = 0 ∧ ((s[0].toNat : Int) == 39) = false ∧ ((s[0].toNat : Int) == 34) = true ∧ fiR nm nu (s[0].toNat : Int) q sg = (4, q)) ∨
      (nm = 0 ∧ nu = 0 ∧ ((s[0].toNat : Int) == 34) = false ∧ ((s[0].toNat : Int) == 39) = true ∧ q = 2 ∧ fiR nm nu (s[0].toNat : Int) q sg = (3, 0)) ∨
      (nm = 0 ∧ nu = 0 ∧ ((s[0].toNat : Int) == 34) = false ∧ ((s[0].toNat : Int) == 39) = true ∧ ((q : Int) == 2) = false ∧ fiR nm nu (s[0].toNat : Int) q sg = (3, q)) ∨
      (nm = 0 ∧ nu = 0 ∧ ((s[0].toNat : Int) == 34) = false ∧ ((s[0].toNat : Int) == 39) = false ∧ 0 < sg ∧ fiR nm nu (s[0].toNat : Int) q sg = (5, sg)) ∨
      (nm = 0 ∧ nu = 0 ∧ ((s[0].toNat : Int) == 34) = false ∧ ((s[0].toNat : Int) == 39) = false ∧ sg = 0 ∧ fiR nm nu (s[0].toNat : Int) q sg = (6, 1)) := by
    unfold fiR
    by_cases h1 : 0 < nm
    · simp [h1]
    · by_cases h2 : 0 < nu
      · simp [h1, h2]; omega
      · have e1 : nm = 0 := by omega
        have e2 : nu = 0 := by omega
        subst e1; subst e2
        cases h34 : ((s[0].toNat : Int) == 34)
        · cases h39 : ((s[0].toNat : Int) == 39)
          · by_cases h3 : 0 < sg
            · simp [h3]
            · simp [h3]; omega
          · by_cases hq : q = 2
            · simp [hq]
            · have : ((q : Int) == 2) = false := by rw [beq_eq_false_iff_ne]; omega
              simp [hq, this]
        · have h39 : ((s[0].toNat : Int) == 39) = false := by rw [beq_iff_eq] at h34; rw [h34]; rfl
          simp [h39]
  generalize fiR nm nu (s[0].toNat : Int) q sg = C at *
  rcases hcs with ⟨h1, rfl⟩ | ⟨rfl, h2, rfl⟩ | ⟨rfl, rfl, h39, h34, rfl⟩ | ⟨rfl, rfl, h34, h39, rfl, rfl⟩ | ⟨rfl, rfl, h34, h39, hq, rfl⟩ | ⟨rfl, rfl, h34, h39, hsg, rfl⟩ | ⟨rfl, rfl, h34, h39, rfl, rfl⟩
  all_goals
    go_enter Tryd.func36, Tryd.ntmps36
    go_wp2_with (first | (go_at_call 45; refine (unhide HNM _).mono ?_; rintro e w' ⟨rfl, hw'⟩; obtain rfl := hw'.symm) | (go_at_call 46; refine (unhide HNU _).mono ?_; rintro e w' ⟨rfl, hw'⟩; obtain rfl := hw'.symm) | (go_at_call 47; refine (unhide HQU _).mono ?_; rintro e w' ⟨rfl, mq, rfl⟩) | (go_at_call 48; refine (unhide HSG _).mono ?_; rintro e w' ⟨rfl, hw'⟩; obtain rfl := hw'.symm))
    go_ret2
    first | exact ⟨rfl, 0, rfl⟩ | exact ⟨rfl, mq, rfl⟩
theorem rfirst_any (s : ByteArray) (w : World) (hs : s.size ≤ 140737488355328) (h0 : 0 < s.size) :
    Calls Tryd.prog 36 #[.string s] w fun e w' => e = .returned (pairV (Tk.ms s.data.toList)) ∧ ∃ m, w' = w.drewN m := by
  have hm : s.size ≤ maxLen := by unfold maxLen; omega
  rw [← fi_ms s h0]
  exact rfirst_x s w h0 _ _ _ _ (fun w => rname_any s w hm h0) (fun w => rnumber_any s w hm h0) (fun w => rquote_any s w hs h0) (fun w => rsign_any s w hs)
end Go.Proofs.YtaoekfokpbebfaaDoor
