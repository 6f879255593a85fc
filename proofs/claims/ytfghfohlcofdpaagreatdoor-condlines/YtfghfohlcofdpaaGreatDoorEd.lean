/-
  The document's own characters, on lists: they are the program's.
  The document's own escape: the walk.
  The document's own Bytes: the walk.
  The document's own Char: the walk.
  burinlaw05.CondNumbers: the walk.
-/
import Derived.Test.YtfghfohlcofdpaaGreatDoorEc
import Derived.Laws.AppendOwn
namespace Go.Proofs.YtfghfohlcofdpaaGreatDoor
open Go Go.RowKit
set_option linter.unusedVariables false
set_option linter.unusedSimpArgs false

/-- Hexadecimal digits: their value (256 at most), and how many. -/
def hexL : Int → List UInt8 → Int × Nat
  | v, [] => (v, 0)
  | v, c :: r => if hexM c.toNat < 16 then ((hexL (min 256 (16 * v + hexM c.toNat)) r).1, (hexL (min 256 (16 * v + hexM c.toNat)) r).2 + 1) else (v, 0)
/-- Octal digits, so many at most: their value, and how many. -/
def octL : Nat → Int → List UInt8 → Int × Nat
  | 0, v, _ => (v, 0)
  | _ + 1, v, [] => (v, 0)
  | m + 1, v, c :: r => if hexM c.toNat < 8 then ((octL m (8 * v + hexM c.toNat) r).1, (octL m (8 * v + hexM c.toNat) r).2 + 1) else (v, 0)
/-- The document's escape: its value, and how many bytes it has. -/
def escR : List UInt8 → Int × Nat
  | [] => (0, 0)
  | c :: d => if (escM c.toNat).2 then ((escM c.toNat).1, 1)
    else if (c.toNat : Int) == 120 then (if (hexL 0 d).2 = 0 then (0, 0) else if 255 < (hexL 0 d).1 then (0, 0) else ((hexL 0 d).1, (hexL 0 d).2 + 1))
    else (if 255 < (octL 3 0 (c :: d)).1 then (0, 0) else octL 3 0 (c :: d))
theorem hexL_le : ∀ (l : List UInt8) (v : Int), (hexL v l).2 ≤ l.length
  | [], v => Nat.le_refl _
  | c :: r, v => by
    rw [hexL]
    split
    · have := hexL_le r (min 256 (16 * v + hexM c.toNat)); simp; omega
    · simp
theorem hexL_range : ∀ (l : List UInt8) (v : Int), 0 ≤ v → v ≤ 256 → 0 ≤ (hexL v l).1 ∧ (hexL v l).1 ≤ 256
  | [], v, h0, h1 => ⟨h0, h1⟩
  | c :: r, v, h0, h1 => by
    have := hexM_range (c.toNat : Int)
    rw [hexL]
    split
    · exact hexL_range r _ (by omega) (by omega)
    · exact ⟨h0, h1⟩
theorem hexL_top : ∀ (l : List UInt8), (hexL 256 l).1 = 256
  | [] => rfl
  | c :: r => by
    have := hexM_range (c.toNat : Int)
    rw [hexL]
    split
    · have e : min 256 (16 * 256 + hexM c.toNat) = (256 : Int) := by omega
      rw [e]; exact hexL_top r
    · rfl
theorem octL_le : ∀ (m : Nat) (l : List UInt8) (v : Int), (octL m v l).2 ≤ l.length ∧ (octL m v l).2 ≤ m
  | 0, l, v => ⟨Nat.zero_le _, Nat.le_refl _⟩
  | m + 1, [], v => ⟨Nat.le_refl _, Nat.zero_le _⟩
  | m + 1, c :: r, v => by
    rw [octL]
    split
    · have := octL_le m r (8 * v + hexM c.toNat); simp; omega
    · simp
theorem octL_ge : ∀ (m : Nat) (l : List UInt8) (v : Int), 0 ≤ v → v ≤ (octL m v l).1
  | 0, l, v, h => Int.le_refl _
  | m + 1, [], v, h => Int.le_refl _
  | m + 1, c :: r, v, h => by
    have := hexM_range (c.toNat : Int)
    rw [octL]
    split
    · have := octL_ge m r (8 * v + hexM c.toNat) (by omega); simp only; omega
    · exact Int.le_refl _
theorem dv_hex (c : UInt8) : (16 ≤ dvM (c.toNat : Int) ↔ ¬ hexM c.toNat < 16) ∧ (hexM c.toNat < 16 → dvM (c.toNat : Int) = hexM c.toNat) ∧ (8 ≤ dvM (c.toNat : Int) ↔ ¬ hexM c.toNat < 8) := by
  have h : ∀ n : Fin 256, (16 ≤ dvM ((UInt8.ofNat n.1).toNat : Int) ↔ ¬ hexM (UInt8.ofNat n.1).toNat < 16) ∧ (hexM (UInt8.ofNat n.1).toNat < 16 → dvM ((UInt8.ofNat n.1).toNat : Int) = hexM (UInt8.ofNat n.1).toNat) ∧ (8 ≤ dvM ((UInt8.ofNat n.1).toNat : Int) ↔ ¬ hexM (UInt8.ofNat n.1).toNat < 8) := by decide +kernel
  have := h ⟨c.toNat, c.toNat_lt⟩
  simp only [UInt8.ofNat_toNat] at this
  exact this
theorem pu_hexL : ∀ (l : List UInt8) (v : Int), 0 ≤ v → v < 256 → (if (puB 16 v l).2 ≠ 0 then ((0 : Int), false) else ((puB 16 v l).1, true)) = if (hexL v l).1 ≤ 255 ∧ (hexL v l).2 = l.length then ((hexL v l).1, true) else (0, false)
  | [], v, h0, h1 => by
    rw [puB, hexL]
    simp
    omega
  | c :: r, v, h0, h1 => by
    obtain ⟨d1, d2, _⟩ := dv_hex c
    have hr := hexM_range (c.toNat : Int)
    rw [puB, hexL]
    by_cases hc : hexM c.toNat < 16
    · rw [if_neg (fun h => (d1.1 h) hc), if_pos hc, d2 hc]
      by_cases hx : 256 ≤ v * 16 + hexM c.toNat
      · have e : min 256 (16 * v + hexM c.toNat) = (256 : Int) := by omega
        rw [if_pos hx, e, hexL_top]
        simp
      · have e : min 256 (16 * v + hexM c.toNat) = v * 16 + hexM c.toNat := by omega
        rw [if_neg hx, e, pu_hexL r _ (by omega) (by omega)]
        simp
    · rw [if_pos (d1.2 hc), if_neg hc]
      simp
theorem pu_octL : ∀ (m : Nat) (l : List UInt8) (v : Int), 0 ≤ v → v < 256 → l.length ≤ m → (if (puB 8 v l).2 ≠ 0 then ((0 : Int), false) else ((puB 8 v l).1, true)) = if (octL m v l).1 ≤ 255 ∧ (octL m v l).2 = l.length then ((octL m v l).1, true) else (0, false)
  | 0, [], v, h0, h1, _ => by
    rw [puB, octL]
    simp
    omega
  | 0, c :: r, v, h0, h1, hl => absurd hl (by simp)
  | m + 1, [], v, h0, h1, _ => by
    rw [puB, octL]
    simp
    omega
  | m + 1, c :: r, v, h0, h1, hl => by
    obtain ⟨_, d2, d3⟩ := dv_hex c
    have hr := hexM_range (c.toNat : Int)
    rw [puB, octL]
    by_cases hc : hexM c.toNat < 8
    · rw [if_neg (fun h => (d3.1 h) hc), if_pos hc, d2 (by omega)]
      by_cases hx : 256 ≤ v * 8 + hexM c.toNat
      · have e : 8 * v + hexM c.toNat = v * 8 + hexM c.toNat := by omega
        have := octL_ge m r (v * 8 + hexM c.toNat) (by omega)
        rw [if_pos hx, e]
        have hno : ¬ (octL m (v * 8 + hexM c.toNat) r).1 ≤ 255 := by omega
        simp [hno]
      · have e : 8 * v + hexM c.toNat = v * 8 + hexM c.toNat := by omega
        rw [if_neg hx, e, pu_octL m r _ (by omega) (by omega) (by simp at hl; omega)]
        simp
    · rw [if_pos (d3.2 hc), if_neg hc]
      simp
theorem esc_facts (c : UInt8) : ((escM (c.toNat : Int)).2 = true → (c == 120) = false ∧ digM (c.toNat : Int) 8 = false) ∧ ((escM (c.toNat : Int)).2 = false → escM (c.toNat : Int) = (0, false)) := by
  have h : ∀ n : Fin 256, ((escM ((UInt8.ofNat n.1).toNat : Int)).2 = true → ((UInt8.ofNat n.1) == 120) = false ∧ digM ((UInt8.ofNat n.1).toNat : Int) 8 = false) ∧ ((escM ((UInt8.ofNat n.1).toNat : Int)).2 = false → escM ((UInt8.ofNat n.1).toNat : Int) = (0, false)) := by decide +kernel
  have := h ⟨c.toNat, c.toNat_lt⟩
  simp only [UInt8.ofNat_toNat] at this
  exact this
theorem pre120 (c : UInt8) (d : List UInt8) : Tk.pre [120] (c :: d) = (c == 120) := by
  simp [Tk.pre, List.isPrefixOf, BEq.comm]
theorem c120 (c : UInt8) : ((c.toNat : Int) == 120) = (c == 120) := by
  have : c = 120 ↔ c.toNat = 120 := ⟨fun h => by rw [h]; rfl, fun h => UInt8.toNat_inj.1 h⟩
  rw [Bool.eq_iff_iff]; simp [this]; omega
/-- What the program tells of an escape is what the document does, if the escape ends where the text does. -/
theorem escR_is (r : List UInt8) : escpM r = if (escR r).2 ≠ 0 ∧ (escR r).2 = r.length then ((escR r).1, true) else (0, false) := by
  cases r with
  | nil => rfl
  | cons c d =>
    obtain ⟨f1, f2⟩ := esc_facts c
    rw [escR, c120]
    cases he : (escM (c.toNat : Int)).2
    · simp only [Bool.false_eq_true, if_false]
      cases hx : c == 120
      · simp only [Bool.false_eq_true, if_false]
        have hp : Tk.pre [120] (c :: d) = false := by rw [pre120, hx]
        rw [escpM_is (c :: d) (by simp) hp]
        simp only [List.getElem_cons_zero, List.length_cons]
        have hd8 := (hex_facts c).1 8 (.inr (.inl rfl))
        rw [hd8]
        have ho := octL_le 3 (c :: d) 0
        by_cases h8 : hexM c.toNat < 8
        · rw [if_pos (decide_eq_true h8), codeM]
          by_cases h3 : 3 < (c :: d).length
          · rw [if_pos (by simp at h3 ⊢; exact h3)]
            rw [if_neg]
            split
            · simp
            · simp at h3; omega
          · rw [show ((8 : Int) == 8 && decide (3 < (c :: d).length)) = false by simp at h3 ⊢; omega, show puSB 8 (c :: d) = puB 8 0 (c :: d) by rw [puSB, if_neg (by simp)]]
            simp only [Bool.false_eq_true, if_false]
            rw [pu_octL 3 (c :: d) 0 (by decide) (by decide) (by omega)]
            by_cases hv : (octL 3 0 (c :: d)).1 ≤ 255
            · rw [if_neg (show ¬ 255 < (octL 3 0 (c :: d)).1 by omega)]
              by_cases hn : (octL 3 0 (c :: d)).2 = (c :: d).length
              · rw [if_pos ⟨hv, hn⟩, if_pos ⟨by rw [hn]; simp, by simpa using hn⟩]
              · rw [if_neg (fun h => hn h.2), if_neg (fun h => hn (by simpa using h.2))]
            · rw [if_neg (fun h => hv h.1), if_pos (show 255 < (octL 3 0 (c :: d)).1 by omega)]
              simp
        · rw [if_neg (by simpa using h8), f2 he]
          have : octL 3 0 (c :: d) = (0, 0) := by rw [octL, if_neg h8]
          rw [this]
          simp
      · simp only [if_true]
        rw [show escpM (c :: d) = codeM 16 d by unfold escpM; rw [pre120, hx]; rfl]
        rw [codeM, if_neg (by simp), puSB]
        have hr := hexL_range d 0 (by decide) (by decide)
        have hl := hexL_le d 0
        by_cases hd : d = []
        · subst hd
          simp [hexL]
        · rw [if_neg hd, pu_hexL d 0 (by decide) (by decide)]
          have hdl : d.length ≠ 0 := by cases d with
            | nil => exact absurd rfl hd
            | cons x y => simp
          by_cases hn : (hexL 0 d).2 = d.length
          · by_cases hv : (hexL 0 d).1 ≤ 255
            · rw [if_pos ⟨hv, hn⟩, if_neg (show ¬ (hexL 0 d).2 = 0 by omega), if_neg (show ¬ 255 < (hexL 0 d).1 by omega), if_pos ⟨by simp, by simp; omega⟩]
            · rw [if_neg (fun h => hv h.1), if_neg (show ¬ (hexL 0 d).2 = 0 by omega), if_pos (show 255 < (hexL 0 d).1 by omega)]
              simp
          · rw [if_neg (fun h => hn h.2)]
            split
            · simp
            · split
              · simp
              · rw [if_neg (by simp; omega)]
    · obtain ⟨g1, g2⟩ := f1 he
      have hp : Tk.pre [120] (c :: d) = false := by rw [pre120, g1]
      rw [escpM_is (c :: d) (by simp) hp]
      simp only [List.getElem_cons_zero, List.length_cons, g2, Bool.false_eq_true, if_false, if_true]
      by_cases hd : d.length = 0
      · simp [hd, ← he]
      · have hq : (d.length + 1 == 1) = false := by simp; exact fun h => hd (by rw [h]; rfl)
        have hq2 : ¬ 1 = d.length + 1 := by omega
        rw [hq]
        simp [hd]
theorem escR_le (r : List UInt8) : (escR r).2 ≤ r.length := by
  cases r with
  | nil => exact Nat.le_refl _
  | cons c d =>
    have ho := octL_le 3 (c :: d) 0
    have hl := hexL_le d 0
    rw [escR]
    repeat' split
    all_goals simp only [List.length_cons] at *
    all_goals omega
theorem escR_range (r : List UInt8) : 0 ≤ (escR r).1 ∧ (escR r).1 < 256 := by
  cases r with
  | nil => exact ⟨by decide, by decide⟩
  | cons c d =>
    have ho := octL_ge 3 (c :: d) 0 (by decide)
    have hl := hexL_range d 0 (by decide) (by decide)
    have hm := escM_range (c.toNat : Int) (byte_range c)
    rw [escR]
    repeat' split
    · exact hm
    · exact ⟨by decide, by decide⟩
    · exact ⟨by decide, by decide⟩
    · exact ⟨hl.1, by simp only; omega⟩
    · exact ⟨by decide, by decide⟩
    · exact ⟨ho, by omega⟩
/-- What stands between the ends is worth, byte by byte; none: an escape is none. -/
def byR : Nat → List UInt8 → Option (List Int)
  | _, [] => some []
  | 0, _ :: _ => some []
  | f + 1, c :: r => if (c.toNat : Int) != 92 then (byR f r).map ((c.toNat : Int) :: ·) else if (escR r).2 = 0 then none else (byR f (r.drop (escR r).2)).map ((escR r).1 :: ·)
theorem byR_nil (f : Nat) (l : List UInt8) (hf : l.length ≤ f) : byR f l = some [] ↔ l = [] := by
  cases l with
  | nil => simp [byR]
  | cons c r =>
    cases f with
    | zero => simp at hf
    | succ f =>
      rw [byR]
      constructor
      · intro h
        split at h
        · cases hb : byR f r <;> simp [hb] at h
        · split at h
          · cases h
          · cases hb : byR f (r.drop (escR r).2) <;> simp [hb] at h
      · intro h; cases h
/-- Of a list of one: what is made of it. -/
def pick1 (A : Value) (g : Int → Value) : Option (List Int) → Value
  | some [x] => g x
  | _ => A
/-- What the document's Char tells. -/
def rcharM (s : List UInt8) : Value :=
  if endsM s then pick1 (.tuple #[.int .i64 0, .int .i64 50]) (fun x => if innM s == [39] || innM s == [10] || innM s == [13] then .tuple #[.int .i64 0, .int .i64 50] else .tuple #[.int .i64 (wrap64 (IntKind.i8.wrap x)), .int .i64 0]) (byR (innM s).length (innM s))
  else .tuple #[.int .i64 0, .int .i64 50]
theorem by_one {f : Nat} {l : List UInt8} (hf : l.length ≤ f) (v : Int) : ((byR f l).map (v :: ·) = some [v] ∧ l = []) ∨ (l ≠ [] ∧ ∀ x, (byR f l).map (v :: ·) ≠ some [x]) := by
  by_cases h : l = []
  · subst h
    exact .inl ⟨by cases f <;> rfl, rfl⟩
  · refine .inr ⟨h, fun x hx => h ((byR_nil f l hf).1 ?_)⟩
    cases hb : byR f l with
    | none => rw [hb] at hx; simp at hx
    | some y => rw [hb] at hx; simp at hx; rw [hx.2]
theorem match_not {X : Option (List Int)} {A : Value} {g : Int → Value} (h : ∀ x, X ≠ some [x]) : pick1 A g X = A := by
  match X, h with
  | none, _ => rfl
  | some [], _ => rfl
  | some [x], h => exact absurd rfl (h x)
  | some (x :: y :: r), _ => rfl
theorem rchar_is (s : List UInt8) : rcharM s = charV (rdM s) := by
  unfold rcharM rdM
  cases hE : endsM s
  · simp [charV]
  · simp only [if_true]
    generalize innM s = t
    cases t with
    | nil => simp [byR, inM, charV, pick1]
    | cons c r =>
      simp only [List.length_cons]
      rw [byR, inM]
      have e92 : ((c.toNat : Int) != 92) = !(c == 92) := by
        have : c = 92 ↔ c.toNat = 92 := ⟨fun h => by rw [h]; rfl, fun h => UInt8.toNat_inj.1 h⟩
        rw [Bool.eq_iff_iff]; simp [this]; omega
      rw [e92]
      cases hc : c == 92
      · simp only [Bool.not_false, if_true, Bool.false_eq_true, if_false]
        rcases by_one (f := r.length) (l := r) (Nat.le_refl _) (c.toNat : Int) with ⟨h1, rfl⟩ | ⟨h1, h2⟩
        · rw [h1]
          simp only [beq_self_eq_true, Bool.true_and]
          have hk : plainM (c.toNat : Int) = !(c == 39 || c == 10 || c == 13) := by
            have e : ∀ d : UInt8, ((c.toNat : Int) != (d.toNat : Int)) = !(c == d) := fun d => by
              have : c = d ↔ c.toNat = d.toNat := UInt8.toNat_inj.symm
              rw [Bool.eq_iff_iff]; simp [this]; omega
            have a1 := e 39
            have a2 := e 92
            have a3 := e 13
            have a4 := e 10
            unfold plainM
            rw [show ((39 : UInt8).toNat : Int) = 39 from rfl] at a1
            rw [show ((92 : UInt8).toNat : Int) = 92 from rfl] at a2
            rw [show ((13 : UInt8).toNat : Int) = 13 from rfl] at a3
            rw [show ((10 : UInt8).toNat : Int) = 10 from rfl] at a4
            rw [a1, a2, a3, a4, hc]
            cases (c == 39) <;> cases (c == 10) <;> cases (c == 13) <;> rfl
          rw [hk]
          have el : ∀ d : UInt8, ([c] == [d]) = (c == d) := fun d => by simp
          rw [el, el, el]
          cases (c == 39 || c == 10 || c == 13) <;> simp [charV, pick1]
        · rw [match_not h2]
          have : (r == []) = false := by cases r with
            | nil => exact absurd rfl h1
            | cons x y => rfl
          simp [charV, this]
      · obtain rfl : c = 92 := by simpa using hc
        simp only [Bool.not_true, Bool.false_eq_true, if_false, if_true]
        rw [escR_is r]
        have hle := escR_le r
        by_cases hz : (escR r).2 = 0
        · rw [if_pos hz, if_neg (fun h => h.1 hz)]
          rfl
        · rw [if_neg hz]
          rcases by_one (f := r.length) (l := r.drop (escR r).2) (by simp) (escR r).1 with ⟨h1, h2⟩ | ⟨h1, h2⟩
          · have hl : (escR r).2 = r.length := by
              have := congrArg List.length h2
              rw [List.length_drop, List.length_nil] at this
              omega
            rw [h1, if_pos ⟨hz, hl⟩]
            simp [charV, pick1]
          · have hl : ¬ (escR r).2 = r.length := fun h => h1 (List.drop_of_length_le (by omega))
            rw [match_not h2, if_neg (fun h => hl h.2)]
            rfl
end Go.Proofs.YtfghfohlcofdpaaGreatDoor
namespace Go.Proofs.YtfghfohlcofdpaaGreatDoor
open Go Go.RowKit
set_option linter.unusedVariables false
set_option linter.unusedSimpArgs false

abbrev fromA : ByteArray := ⟨#[110, 116, 118, 98, 114, 102, 97, 92, 39, 34, 63]⟩
abbrev toA : ByteArray := ⟨#[10, 9, 11, 8, 13, 12, 7, 92, 39, 34, 63]⟩
theorem tab_hit : ∀ k (h : k < 11), escM ((fromA[k]'h).toNat : Int) = (((toA[k]'h).toNat : Int), true) := by
  have : ∀ k : Fin 11, escM ((fromA[k.1]'k.2).toNat : Int) = (((toA[k.1]'k.2).toNat : Int), true) := by decide +kernel
  exact fun k h => this ⟨k, h⟩
theorem tab_miss (c : UInt8) (h : ∀ k (hk : k < 11), (c.toNat : Int) ≠ ((fromA[k]'hk).toNat : Int)) : escM (c.toNat : Int) = (0, false) := by
  have g : ∀ x : Int, (∃ k, ∃ hk : k < 11, x = ((fromA[k]'hk).toNat : Int)) → ((c.toNat : Int) == x) = false := fun x hx => by
    obtain ⟨k, hk, rfl⟩ := hx
    simpa using h k hk
  unfold escM
  rw [g 110 ⟨0, by decide, rfl⟩, g 116 ⟨1, by decide, rfl⟩, g 118 ⟨2, by decide, rfl⟩, g 98 ⟨3, by decide, rfl⟩, g 114 ⟨4, by decide, rfl⟩, g 102 ⟨5, by decide, rfl⟩, g 97 ⟨6, by decide, rfl⟩, g 92 ⟨7, by decide, rfl⟩, g 39 ⟨8, by decide, rfl⟩, g 34 ⟨9, by decide, rfl⟩, g 63 ⟨10, by decide, rfl⟩]
  rfl
set_option maxRecDepth 100000 in
set_option maxHeartbeats 1000000 in
theorem esc_nil (w : World) : Calls Tryz.prog 89 #[.string ⟨#[]⟩] w fun e w' => e = .returned (.tuple #[.int .i64 0, .int .i64 0]) ∧ Below w.heap.size w w' := by
  go_enter Tryz.func89, Tryz.ntmps89
  go_wp2
  go_ret2
  exact ⟨rfl, Below.refl _ _⟩
set_option maxRecDepth 100000 in
set_option maxHeartbeats 4000000 in
theorem esc_go (T : ByteArray) (s : List UInt8) (hlen : T.size = s.length) (HAT : Hid (∀ i (h : i < s.length), ∃ h2 : i < T.size, T[i] = s[i])) (h0 : 0 < s.length) (hs : s.length ≤ 140737488355328) (w : World) (Z : Int × Nat)
    (HT : Hid ((escM (s[0].toNat : Int)).2 = true → Z = ((escM (s[0].toNat : Int)).1, 1)))
    (HX : Hid ((escM (s[0].toNat : Int)).2 = false → ((s[0].toNat : Int) == 120) = true → Z = if (hexL 0 (s.drop 1)).2 = 0 then (0, 0) else if 255 < (hexL 0 (s.drop 1)).1 then (0, 0) else ((hexL 0 (s.drop 1)).1, (hexL 0 (s.drop 1)).2 + 1)))
    (HO : Hid ((escM (s[0].toNat : Int)).2 = false → ((s[0].toNat : Int) == 120) = false → Z = if 255 < (octL 3 0 s).1 then (0, 0) else octL 3 0 s)) :
    Calls Tryz.prog 89 #[.string T] w fun e w' => e = .returned (.tuple #[.int .i64 Z.1, .int .i64 (Z.2 : Int)]) ∧ Below w.heap.size w w' := by
  have HHX := hide (fun c h0 h1 W => hex_any c h0 h1 W)
  obtain ⟨hT0, ha0⟩ := unhide HAT 0 h0
  rw [← ha0] at HT HX HO
  have HTM := hide (tab_miss T[0])
  have hl0 : ((s.length : Int) == 0) = false := beq_false_of_ne (by omega)
  clear ha0
  go_enter Tryz.func89, Tryz.ntmps89
  go_wp2
  go_loopg [6] 11 (fun gk vi wr => ∃ k : Nat, gk = 11 - k ∧ vi = .int .i64 (k : Int) ∧ k ≤ 11 ∧ Hid (∀ j (hj : j < 11), j < k → (T[0].toNat : Int) ≠ ((fromA[j]'hj).toNat : Int)) ∧ Hid (Below w.heap.size w wr))
  case atStart => exact ⟨0, rfl, rfl, by omega, fun j _ h => absurd h (by omega), Below.refl _ _⟩
  case round =>
    obtain ⟨k, rfl, rfl, hk, HM, HB⟩ := hrel
    by_cases hk11 : k < 11
    · have i1 : (k : Int) < 11 := by omega
      have hkF : k < (⟨#[110, 116, 118, 98, 114, 102, 97, 92, 39, 34, 63]⟩ : ByteArray).size := hk11
      have hkT : k < (⟨#[10, 9, 11, 8, 13, 12, 7, 92, 39, 34, 63]⟩ : ByteArray).size := hk11
      cases hm : ((T[0].toNat : Int) == ((⟨#[110, 116, 118, 98, 114, 102, 97, 92, 39, 34, 63]⟩ : ByteArray)[k].toNat : Int))
      · have HM2 : Hid (∀ j (hj : j < 11), j < k + 1 → (T[0].toNat : Int) ≠ ((fromA[j]'hj).toNat : Int)) := fun j hj hlt => by
          by_cases hjk : j = k
          · subst hjk; simpa using hm
          · exact unhide HM j hj (by omega)
        clear HM HT HX HO HTM HHX HAT
        go_upto_region 8 with fail
        go_quiet (fail)
        have HBa := hide (below_drewN (unhide HB) nq)
        generalize World.drewN _ nq = Wa at *
        clear HB nq
        go_wp2
        go_roundg (11 - (k + 1))
        case measure => omega
        case rel => exact ⟨k + 1, rfl, by go_num, by omega, HM2, HBa⟩
      · have hth := tab_hit k hk11
        have hmm : (T[0].toNat : Int) = ((fromA[k]'hk11).toNat : Int) := by simpa using hm
        rw [← hmm] at hth
        have HZ := hide (unhide HT (by rw [hth]))
        rw [hth] at HZ
        simp only at HZ
        obtain rfl := unhide HZ
        have HW : Hid (wrap64 ((⟨#[10, 9, 11, 8, 13, 12, 7, 92, 39, 34, 63]⟩ : ByteArray)[k].toNat : Int) = ((⟨#[10, 9, 11, 8, 13, 12, 7, 92, 39, 34, 63]⟩ : ByteArray)[k].toNat : Int)) := by
          have := byte_range (⟨#[10, 9, 11, 8, 13, 12, 7, 92, 39, 34, 63]⟩ : ByteArray)[k]
          rw [Hid]; unfold wrap64; omega
        clear HM HT HX HO HTM HHX HAT hth hmm
        go_upto_region 8 with fail
        go_quiet (fail)
        have HBa := hide (below_drewN (unhide HB) nq)
        generalize World.drewN _ nq = Wa at *
        clear HB nq
        go_wp2
        go_ret2
        exact ⟨by rw [unhide HW]; rfl, unhide HBa⟩
    · obtain rfl : k = 11 := by omega
      have hno := unhide HTM (fun j hj => unhide HM j hj hj)
      have HX2 := hide (unhide HX (by rw [hno]))
      have HO2 := hide (unhide HO (by rw [hno]))
      clear HX HO HT HTM HM hno hk11 hk
      have i1 : ¬ ((11 : Nat) : Int) < 11 := by omega
      cases h120 : ((T[0].toNat : Int) == 120)
      · have HZ := hide (unhide HO2 h120)
        clear HO2 HX2
        have HZ0 : Hid (octL 3 0 s = ((octL 3 0 (s.drop 0)).1, (octL 3 0 (s.drop 0)).2 + 0)) := rfl
        go_wp2
        go_loopg [7, 8] 3 (fun gk vv vn wx => ∃ (k : Nat) (v : Int), gk = 3 - k ∧ vv = .int .i64 v ∧ vn = .int .i64 (k : Int) ∧ k ≤ 3 ∧ k ≤ s.length ∧ 0 ≤ v ∧ Hid (v < 8 ^ k) ∧ Hid (octL 3 0 s = ((octL (3 - k) v (s.drop k)).1, (octL (3 - k) v (s.drop k)).2 + k)) ∧ wx = wr)
        case atStart => exact ⟨0, 0, rfl, rfl, rfl, by omega, by omega, by decide, by rw [Hid]; decide, HZ0, rfl⟩
        case round =>
          clear HZ0
          obtain ⟨k, v, rfl, rfl, rfl, hk3, hks, hv0, HP, HQ, rfl⟩ := hrel
          have hv511 : v ≤ 511 := by
            have := unhide HP
            rcases (show k = 0 ∨ k = 1 ∨ k = 2 ∨ k = 3 by omega) with rfl | rfl | rfl | rfl <;> omega
          by_cases hgo : k < 3 ∧ k < s.length
          · obtain ⟨hk, hkl⟩ := hgo
            have hv63 : v ≤ 63 := by
              have := unhide HP
              rcases (show k = 0 ∨ k = 1 ∨ k = 2 by omega) with rfl | rfl | rfl <;> omega
            obtain ⟨hkT, hak⟩ := unhide HAT k hkl
            have hq := unhide HQ
            rw [show 3 - k = (3 - (k + 1)) + 1 by omega, List.drop_eq_getElem_cons hkl, octL, ← hak] at hq
            obtain ⟨c0, c1⟩ := byte_range T[k]
            have HH := hide (fun W => unhide HHX (T[k].toNat : Int) c0 c1 W)
            obtain ⟨x0, x1⟩ := hexM_range (T[k].toNat : Int)
            generalize hexM (T[k].toNat : Int) = x at *
            have j1 : (k : Int) < (s.length : Int) := by omega
            have j2 : (k : Int) < 3 := by omega
            by_cases hx : x < 8
            · rw [if_pos hx] at hq
              have HQ2 : Hid (octL 3 0 s = ((octL (3 - (k + 1)) (8 * v + x) (s.drop (k + 1))).1, (octL (3 - (k + 1)) (8 * v + x) (s.drop (k + 1))).2 + (k + 1))) := by
                rw [Hid, hq]
                simp only [Prod.mk.injEq, true_and]
                omega
              have HP2 : Hid (8 * v + x < 8 ^ (k + 1)) := by
                have := unhide HP
                rw [Hid, Int.pow_succ]
                omega
              clear hq HQ HP HAT HHX HZ hak c0 c1
              go_wp2_with (go_at_call 83; refine (unhide HH _).mono ?_; rintro e w' ⟨rfl, hw'⟩; obtain rfl := hw'.symm)
              go_roundg (3 - (k + 1))
              case measure => omega
              case rel => exact ⟨k + 1, 8 * v + x, rfl, rfl, by go_num, by omega, by omega, by omega, HP2, HQ2, rfl⟩
            · rw [if_neg hx] at hq
              have hq2 : octL 3 0 s = (v, k) := by rw [hq]; simp
              rw [hq2] at HZ
              simp only at HZ
              clear hq HQ HP HAT HHX hak c0 c1 hq2
              by_cases h255 : 255 < v
              · exfalso; omega
              · rw [if_neg h255] at HZ
                obtain rfl := unhide HZ
                go_wp2_with (go_at_call 83; refine (unhide HH _).mono ?_; rintro e w' ⟨rfl, hw'⟩; obtain rfl := hw'.symm)
                go_ret2
                exact ⟨rfl, unhide HB⟩
          · have hq2 : octL 3 0 s = (v, k) := by
              have hq := unhide HQ
              by_cases hk : k < 3
              · rw [show 3 - k = (3 - (k + 1)) + 1 by omega, List.drop_eq_nil_of_le (by omega), octL] at hq
                rw [hq]; simp
              · rw [show 3 - k = 0 by omega, octL] at hq
                rw [hq]; simp
            rw [hq2] at HZ
            simp only at HZ
            clear HQ HP HAT HHX hq2
            by_cases hkl : k < s.length
            · have j1 : (k : Int) < (s.length : Int) := by omega
              have j2 : ¬ (k : Int) < 3 := by omega
              clear hgo
              by_cases h255 : 255 < v
              · rw [if_pos h255] at HZ
                obtain rfl := unhide HZ
                go_wp2
                go_ret2
                exact ⟨rfl, unhide HB⟩
              · rw [if_neg h255] at HZ
                obtain rfl := unhide HZ
                go_wp2
                go_ret2
                exact ⟨rfl, unhide HB⟩
            · have j1 : ¬ (k : Int) < (s.length : Int) := by omega
              clear hgo
              by_cases h255 : 255 < v
              · rw [if_pos h255] at HZ
                obtain rfl := unhide HZ
                go_wp2
                go_ret2
                exact ⟨rfl, unhide HB⟩
              · rw [if_neg h255] at HZ
                obtain rfl := unhide HZ
                go_wp2
                go_ret2
                exact ⟨rfl, unhide HB⟩
      · have HZ := hide (unhide HX2 h120)
        clear HO2 HX2
        have HZ0 : Hid (hexL 0 (s.drop 1) = ((hexL 0 (s.drop (1 + 0))).1, (hexL 0 (s.drop (1 + 0))).2 + 0)) := rfl
        go_wp2
        go_loopg [7, 8] s.length (fun gk vv vn wx => ∃ (k : Nat) (v : Int), gk = s.length - k ∧ vv = .int .i64 v ∧ vn = .int .i64 ((1 + k : Nat) : Int) ∧ 1 + k ≤ s.length ∧ 0 ≤ v ∧ v ≤ 256 ∧ Hid (hexL 0 (s.drop 1) = ((hexL v (s.drop (1 + k))).1, (hexL v (s.drop (1 + k))).2 + k)) ∧ wx = wr)
        case atStart => exact ⟨0, 0, rfl, rfl, rfl, by omega, by decide, by decide, HZ0, rfl⟩
        case round =>
          clear HZ0
          obtain ⟨k, v, rfl, rfl, rfl, hks, hv0, hv1, HQ, rfl⟩ := hrel
          have fin : Hid (hexL 0 (s.drop 1) = (v, k) → (k = 0 → Z = (0, 0)) ∧ (k ≠ 0 → 255 < v → Z = (0, 0)) ∧ (k ≠ 0 → ¬ 255 < v → Z = (v, 1 + k))) := fun h => by
            have hz := unhide HZ
            rw [h] at hz
            simp only at hz
            refine ⟨fun h0 => by rw [hz, if_pos h0], fun h0 h1 => by rw [hz, if_neg h0, if_pos h1], fun h0 h1 => by rw [hz, if_neg h0, if_neg h1, Nat.add_comm]⟩
          by_cases hkl : 1 + k < s.length
          · obtain ⟨hkT, hak⟩ := unhide HAT (1 + k) hkl
            have hq := unhide HQ
            rw [List.drop_eq_getElem_cons hkl, hexL, ← hak] at hq
            obtain ⟨c0, c1⟩ := byte_range T[1 + k]
            have HH := hide (fun W => unhide HHX (T[1 + k].toNat : Int) c0 c1 W)
            obtain ⟨x0, x1⟩ := hexM_range (T[1 + k].toNat : Int)
            generalize hexM (T[1 + k].toNat : Int) = x at *
            have j1 : ((1 + k : Nat) : Int) < (s.length : Int) := by omega
            by_cases hx : x < 16
            · rw [if_pos hx] at hq
              have HQ2 : Hid (hexL 0 (s.drop 1) = ((hexL (min 256 (16 * v + x)) (s.drop (1 + (k + 1)))).1, (hexL (min 256 (16 * v + x)) (s.drop (1 + (k + 1)))).2 + (k + 1))) := by
                rw [Hid, hq]
                simp only [Prod.mk.injEq, true_and]
                refine ⟨rfl, ?_⟩
                show _ = _
                rw [show 1 + (k + 1) = 1 + k + 1 by omega]
                omega
              clear hq HQ HAT HHX HZ hak c0 c1 fin
              go_wp2_with (go_at_call 83; refine (unhide HH _).mono ?_; rintro e w' ⟨rfl, hw'⟩; obtain rfl := hw'.symm)
              go_roundg (s.length - (k + 1))
              case measure => omega
              case rel => exact ⟨k + 1, min 256 (16 * v + x), rfl, rfl, by go_num, by omega, by omega, by omega, HQ2, rfl⟩
            · rw [if_neg hx] at hq
              obtain ⟨f1, f2, f3⟩ := unhide fin (by rw [hq]; simp)
              clear hq HQ HAT HHX HZ hak c0 c1 fin
              by_cases hk0 : k = 0
              · obtain rfl := f1 hk0
                subst hk0
                clear f1 f2 f3
                go_wp2_with (go_at_call 83; refine (unhide HH _).mono ?_; rintro e w' ⟨rfl, hw'⟩; obtain rfl := hw'.symm)
                go_ret2
                exact ⟨rfl, unhide HB⟩
              · have hk1 : (1 + (k : Int) == 1) = false := beq_false_of_ne (by omega)
                by_cases h255 : 255 < v
                · obtain rfl := f2 hk0 h255
                  clear f1 f2 f3
                  go_wp2_with (go_at_call 83; refine (unhide HH _).mono ?_; rintro e w' ⟨rfl, hw'⟩; obtain rfl := hw'.symm)
                  go_ret2
                  exact ⟨rfl, unhide HB⟩
                · obtain rfl := f3 hk0 h255
                  clear f1 f2 f3
                  go_wp2_with (go_at_call 83; refine (unhide HH _).mono ?_; rintro e w' ⟨rfl, hw'⟩; obtain rfl := hw'.symm)
                  go_ret2
                  exact ⟨rfl, unhide HB⟩
          · have hq := unhide HQ
            rw [show s.drop (1 + k) = [] from List.drop_eq_nil_of_le (by omega), hexL] at hq
            obtain ⟨f1, f2, f3⟩ := unhide fin (by rw [hq]; simp)
            have j1 : ¬ ((1 + k : Nat) : Int) < (s.length : Int) := by omega
            clear hq HQ HAT HHX HZ fin
            by_cases hk0 : k = 0
            · obtain rfl := f1 hk0
              subst hk0
              clear f1 f2 f3
              go_wp2
              go_ret2
              exact ⟨rfl, unhide HB⟩
            · have hk1 : (1 + (k : Int) == 1) = false := beq_false_of_ne (by omega)
              by_cases h255 : 255 < v
              · obtain rfl := f2 hk0 h255
                clear f1 f2 f3
                go_wp2
                go_ret2
                exact ⟨rfl, unhide HB⟩
              · obtain rfl := f3 hk0 h255
                clear f1 f2 f3
                go_wp2
                go_ret2
                exact ⟨rfl, unhide HB⟩
theorem escR_any (s : List UInt8) (hs : s.length ≤ 140737488355328) (w : World) :
    Calls Tryz.prog 89 #[.string ⟨s.toArray⟩] w fun e w' => e = .returned (.tuple #[.int .i64 (escR s).1, .int .i64 ((escR s).2 : Int)]) ∧ Below w.heap.size w w' := by
  have hlen : (⟨s.toArray⟩ : ByteArray).size = s.length := by show s.toArray.size = _; simp
  match s, hs, hlen with
  | [], hs, hlen => exact esc_nil w
  | c :: d, hs, hlen =>
    refine esc_go ⟨(c :: d).toArray⟩ (c :: d) hlen (fun i h => ⟨by rw [hlen]; exact h, rfl⟩) (by simp) hs w _ ?_ ?_ ?_
    · intro h
      have h' : (escM (c.toNat : Int)).2 = true := h
      rw [escR, h']
      rfl
    · intro h h2
      have h' : (escM (c.toNat : Int)).2 = false := h
      have h2' : ((c.toNat : Int) == 120) = true := h2
      rw [escR, h', h2']
      rfl
    · intro h h2
      have h' : (escM (c.toNat : Int)).2 = false := h
      have h2' : ((c.toNat : Int) == 120) = false := h2
      rw [escR, h', h2']
      rfl
end Go.Proofs.YtfghfohlcofdpaaGreatDoor
namespace Go.Proofs.YtfghfohlcofdpaaGreatDoor
open Go Go.RowKit
set_option linter.unusedVariables false
set_option linter.unusedSimpArgs false

theorem Tryz.info5 : (Tryz.prog.info? 5).map (fun i => (i.zero, i.size, i.bytes)) = some (some (.int .u8 0), 1, 1) := by kernel_rfl
theorem one_cell (W : World) (u1 : Value) (t : TypeId) : ∀ (j : Nat) (u : Value), [u1][j]? = some u → (W.alloc (.cells #[u1] t)).cell? ((⟨W.heap.size, 0, none⟩ : Addr).add j) = some u := by
  intro j u h
  match j, h with
  | 0, h => simp at h; subst h; simp [Addr.add]
def bCells (l : List Int) : List Value := l.map fun x => .int .u8 x
theorem bCells_app (l : List Int) (x : Int) : bCells (l ++ [x]) = bCells l ++ [.int .u8 x] := by simp [bCells]
/-- What Bytes tells. -/
def ByP (w : World) (Z : Option (List Int)) (e : Ending) (w' : World) : Prop :=
  (match Z with
   | none => e = .returned (.tuple #[.slice none 0 0, .bool false])
   | some L => ∃ v, e = .returned (.tuple #[v, .bool true]) ∧ w'.ownsRow w.heap.size 5 1 v L.length (bCells L)) ∧ Below w.heap.size w w'
set_option maxRecDepth 100000 in
set_option maxHeartbeats 4000000 in
theorem Bytes_any (T : ByteArray) (t : List UInt8) (hlen : T.size = t.length) (HAT : Hid (∀ i (h : i < t.length), ∃ h2 : i < T.size, T[i] = t[i])) (HEX : Hid (∀ i, T.extract i t.length = ⟨(t.drop i).toArray⟩)) (ht : t.length ≤ 140737488355328) (w : World) :
    Calls Tryz.prog 85 #[.string T] w fun e w' => ByP w (byR t.length t) e w' := by
  obtain ⟨i5, hi5, hz5a, hz5b, hz5c⟩ := info_parts Tryz.info5
  have HES := hide (fun (s : List UInt8) (hs : s.length ≤ 140737488355328) W => escR_any s hs W)
  have HZ0 : Hid (byR t.length t = (byR t.length (t.drop 0)).map ([] ++ ·)) := by rw [Hid, List.drop_zero]; cases byR t.length t <;> rfl
  generalize byR t.length t = Z at *
  go_enter Tryz.func85, Tryz.ntmps85
  go_wp2
  go_loopg [4, 5, 6, 7] t.length (fun gk vo vi vv vn wr => ∃ (k f : Nat) (L : List Int), gk = t.length - k ∧ vi = .int .i64 (k : Int) ∧ k ≤ t.length ∧ t.length - k ≤ f ∧ L.length ≤ k ∧ wr.ownsRow w.heap.size 5 1 vo L.length (bCells L) ∧ Hid (Z = (byR f (t.drop k)).map (L ++ ·)) ∧ Hid (Below w.heap.size w wr))
  case atStart => exact ⟨0, t.length, [], rfl, rfl, by omega, by omega, by decide, World.ownsRow_nil _ _ _ _, HZ0, Below.refl _ _⟩
  case round =>
    clear HZ0
    obtain ⟨k, f, L, rfl, rfl, hk, hf, hLk, hB, HZ, HB⟩ := hrel
    have hzr := (unhide HB).size
    by_cases hkl : k < t.length
    · have i1 : (k : Int) < (t.length : Int) := by omega
      obtain ⟨hkT, hak⟩ := unhide HAT k hkl
      obtain ⟨f', rfl⟩ : ∃ f', f = f' + 1 := ⟨f - 1, by omega⟩
      have hz := unhide HZ
      rw [List.drop_eq_getElem_cons hkl, byR, ← hak] at hz
      have hzA : ∀ u, w.heap.size ≤ (wr.alloc (.cells #[u] 5)).heap.size := fun u => by simp; omega
      cases h92 : ((T[k].toNat : Int) != 92)
      · rw [h92] at hz
        simp only [Bool.false_eq_true, if_false] at hz
        have hex := unhide HEX (k + 1)
        have hdl : (t.drop (k + 1)).length = t.length - (k + 1) := by simp
        have HE := hide (unhide HES (t.drop (k + 1)) (by omega) wr)
        have hle := escR_le (t.drop (k + 1))
        obtain ⟨e0, e1⟩ := escR_range (t.drop (k + 1))
        rw [hdl] at hle
        have HDD : Hid (∀ n, (t.drop (k + 1)).drop n = t.drop (k + 1 + n)) := fun n => by rw [List.drop_drop]
        generalize escR (t.drop (k + 1)) = EV at *
        obtain ⟨ev, en⟩ := EV
        simp only at hz e0 e1 hle HE
        rw [unhide HDD en] at hz
        generalize (⟨(t.drop (k + 1)).toArray⟩ : ByteArray) = D at *
        have HZ2 := hide hz
        clear hz HZ hak HAT HEX HES HDD hdl
        by_cases hen : en = 0
        · subst hen
          rw [if_pos rfl] at HZ2
          obtain rfl := unhide HZ2
          go_wp2_with (go_at_call 89; refine (unhide HE).mono ?_; rintro e W2 ⟨rfl, hb2⟩)
          go_ret2
          exact ⟨rfl, (unhide HB).trans (hb2.mono (unhide HB).size)⟩
        · rw [if_neg hen] at HZ2
          have HZ3 : Hid (Z = (byR f' (t.drop (k + 1 + en))).map ((L ++ [ev]) ++ ·)) := by
            rw [Hid, unhide HZ2, Option.map_map]
            congr 1
            funext y
            simp
          have hen' : ((en : Int) == 0) = false := beq_false_of_ne (by omega)
          have HEN := hide hen
          clear HZ2 hen
          have HOW := hide hB
          clear hB
          go_wp2_with fail
          refine (unhide HE).mono ?_
          rintro e W2 ⟨rfl, hb2⟩
          have hB2 := ownsRow_bel (unhide HOW) hb2
          have HB2 := hide ((unhide HB).trans (hb2.mono (unhide HB).size))
          have hz2 := (unhide HB2).size
          clear HE HB hb2 hzA
          have hzA : ∀ u, w.heap.size ≤ (W2.alloc (.cells #[u] 5)).heap.size := fun u => by simp; omega
          go_wp2_with (at_builtin; refine wpList_append_own _ rfl _ _ 113 rfl w.heap.size 5 i5 (.int .u8 0) 1 1 Tryz.underlying113 hi5 hz5a hz5b hz5c rfl (by decide) _ _ _ rfl (hB2.alloc _) ⟨W2.heap.size, 0, none⟩ 1 1 [.int .u8 ev] rfl rfl (one_cell W2 _ 5) (fun u hu => by simp at hu; subst hu; rfl) (by unfold maxLen; omega) (by omega) (hzA _) ?_; intro u2 w2 hown2 hgrow2 _; have hb3 : Below w.heap.size w w2 := ((unhide HB2).alloc hz2 _).grown hgrow2 (hzA _) (fun r e => (row_turn hB2 r e).1))
          go_roundg (t.length - (k + 1 + en))
          case measure => omega
          case rel =>
            refine ⟨k + 1 + en, f', L ++ [ev], rfl, ?_, by omega, by omega, by simp; omega, by rw [bCells_app, List.length_append]; exact hown2, HZ3, hb3⟩
            first | (go_num; done) | (congr 1; omega) | (simp; omega)
      · rw [h92] at hz
        simp only [if_true] at hz
        have HZ2 : Hid (Z = (byR f' (t.drop (k + 1))).map ((L ++ [(T[k].toNat : Int)]) ++ ·)) := by
          rw [Hid, hz, Option.map_map]
          congr 1
          funext y
          simp
        clear hz HZ hak HAT HEX HES
        go_wp2_with (at_builtin; refine wpList_append_own _ rfl _ _ 113 rfl w.heap.size 5 i5 (.int .u8 0) 1 1 Tryz.underlying113 hi5 hz5a hz5b hz5c rfl (by decide) _ _ _ rfl (hB.alloc _) ⟨wr.heap.size, 0, none⟩ 1 1 [.int .u8 (T[k].toNat : Int)] rfl rfl (one_cell wr _ 5) (fun u hu => by simp at hu; subst hu; rfl) (by unfold maxLen; omega) (by omega) (hzA _) ?_; intro u2 w2 hown2 hgrow2 _; have hb2 : Below w.heap.size w w2 := ((unhide HB).alloc hzr _).grown hgrow2 (hzA _) (fun r e => (row_turn hB r e).1))
        go_roundg (t.length - (k + 1))
        case measure => omega
        case rel => exact ⟨k + 1, f', L ++ [(T[k].toNat : Int)], rfl, by go_num, by omega, by omega, by simp; omega, by rw [bCells_app, List.length_append]; exact hown2, HZ2, hb2⟩
    · have i1 : ¬ (k : Int) < (t.length : Int) := by omega
      have hz := unhide HZ
      rw [List.drop_eq_nil_of_le (by omega), byR] at hz
      have hz2 : Z = some L := by rw [hz]; simp
      subst hz2
      clear HZ hz HAT HEX HES
      have HOW := hide hB
      clear hB
      go_wp2
      go_ret2
      exact ⟨⟨_, rfl, unhide HOW⟩, unhide HB⟩
/-- What stands in the first place of a row of one. -/
theorem row_one {W : World} {base : Nat} {v : Value} {x : Int} (h : W.ownsRow base 5 1 v 1 (bCells [x])) : ∃ g cap, v = .slice (some ⟨g, 0, none⟩) 1 cap ∧ 1 ≤ cap ∧ cap ≤ maxLen ∧ W.cell? ⟨g, 0, none⟩ = some (.int .u8 x) := by
  have hc : ∀ {g : Nat}, v.ownBlock = some g → ∀ j u, (bCells [x])[j]? = some u → W.cell? ((⟨g, 0, none⟩ : Addr).add j) = some u := fun hg => h.cells hg
  rcases h.2 with ⟨_, h0⟩ | ⟨g, cap, cur, rfl, _, _, h1, h2, _⟩
  · cases h0
  · have := hc (g := g) rfl 0 _ rfl
    exact ⟨g, cap, rfl, h1, h2, by simpa [Addr.add] using this⟩
end Go.Proofs.YtfghfohlcofdpaaGreatDoor
namespace Go.Proofs.YtfghfohlcofdpaaGreatDoor
open Go Go.RowKit
set_option linter.unusedVariables false
set_option linter.unusedSimpArgs false

set_option maxRecDepth 100000 in
set_option maxHeartbeats 400000 in
theorem rchar_short (B : ByteArray) (h : B.size < 3) (w : World) :
    Calls Tryz.prog 69 #[.string B] w fun e w' => e = .returned (.tuple #[.int .i64 0, .int .i64 50]) ∧ Below w.heap.size w w' := by
  have i0 : (B.size : Int) < 3 := by omega
  go_enter Tryz.func69, Tryz.ntmps69
  go_wp2
  go_ret2
  exact ⟨rfl, Below.refl _ _⟩
set_option maxRecDepth 100000 in
set_option maxHeartbeats 400000 in
theorem rchar_first (B : ByteArray) (h : 3 ≤ B.size) (hm : B.size ≤ 140737488355328) (w : World) (h1 : ((B[0].toNat : Int) != 39) = true) :
    Calls Tryz.prog 69 #[.string B] w fun e w' => e = .returned (.tuple #[.int .i64 0, .int .i64 50]) ∧ Below w.heap.size w w' := by
  have i0 : ¬ (B.size : Int) < 3 := by omega
  have i1 : 0 < B.size := by omega
  go_enter Tryz.func69, Tryz.ntmps69
  go_wp2
  go_ret2
  exact ⟨rfl, Below.refl _ _⟩
set_option maxRecDepth 100000 in
set_option maxHeartbeats 400000 in
theorem rchar_last (B : ByteArray) (h : 3 ≤ B.size) (hm : B.size ≤ 140737488355328) (w : World) (h1 : ((B[0].toNat : Int) != 39) = false) (h2 : ((B[B.size - 1].toNat : Int) != 39) = true) :
    Calls Tryz.prog 69 #[.string B] w fun e w' => e = .returned (.tuple #[.int .i64 0, .int .i64 50]) ∧ Below w.heap.size w w' := by
  have i0 : ¬ (B.size : Int) < 3 := by omega
  have i1 : 0 < B.size := by omega
  have i2 : (1 : Int) ≤ (B.size : Int) := by omega
  have i3 : (B.size : Int) - 1 < (B.size : Int) := by omega
  go_enter Tryz.func69, Tryz.ntmps69
  go_wp2
  go_ret2
  exact ⟨rfl, Below.refl _ _⟩
set_option maxRecDepth 100000 in
set_option maxHeartbeats 2000000 in
theorem rchar_in (B : ByteArray) (h : 3 ≤ B.size) (hm : B.size ≤ 140737488355328) (w : World) (h1 : ((B[0].toNat : Int) != 39) = false) (h2 : ((B[B.size - 1].toNat : Int) != 39) = false)
    (t : List UInt8) (hT : B.extract 1 (B.size - 1) = ⟨t.toArray⟩) (Z : Option (List Int))
    (HB : Hid (Calls Tryz.prog 85 #[.string ⟨t.toArray⟩] w fun e w' => ByP w Z e w')) :
    Calls Tryz.prog 69 #[.string B] w fun e w' => e = .returned (pick1 (.tuple #[.int .i64 0, .int .i64 50]) (fun x => if t == [39] || t == [10] || t == [13] then .tuple #[.int .i64 0, .int .i64 50] else .tuple #[.int .i64 (wrap64 (IntKind.i8.wrap x)), .int .i64 0]) Z) ∧ Below w.heap.size w w' := by
  have i0 : ¬ (B.size : Int) < 3 := by omega
  have i1 : 0 < B.size := by omega
  have i2 : (1 : Int) ≤ (B.size : Int) := by omega
  have i3 : (B.size : Int) - 1 < (B.size : Int) := by omega
  have hsl : ∀ W : World, (Instr.slice 9 (.string B) (some (.int .i64 1)) (some (.int .i64 ((B.size : Int) - 1))) none).run Tryz.prog W = .ok (.string ⟨t.toArray⟩) W := fun W => by
    have := run_slice_string (P := Tryz.prog) (w := W) 9 B .i64 .i64 1 ((B.size : Int) - 1) Tryz.underlying9 (by omega) (by omega) (by omega)
    rw [this, ← hT]
    have : ((B.size : Int) - 1).toNat = B.size - 1 := by omega
    rw [this]; rfl
  clear hT
  obtain ⟨RV, hRV⟩ : ∃ RV, pick1 (.tuple #[.int .i64 0, .int .i64 50]) (fun x => if t == [39] || t == [10] || t == [13] then .tuple #[.int .i64 0, .int .i64 50] else .tuple #[.int .i64 (wrap64 (IntKind.i8.wrap x)), .int .i64 0]) Z = RV := ⟨_, rfl⟩
  rw [hRV]
  have HRV := hide hRV
  clear hRV
  go_enter Tryz.func69, Tryz.ntmps69
  go_wp2_with fail
  refine (unhide HB).mono ?_
  rintro e W1 ⟨hz, hb1⟩
  have HB1 := hide hb1
  clear HB hb1 hsl
  cases Z with
  | none =>
    obtain rfl := hz
    simp only [pick1] at HRV
    obtain rfl := unhide HRV
    go_wp2
    go_ret2
    exact ⟨rfl, unhide HB1⟩
  | some L =>
    obtain ⟨v, rfl, hr⟩ := hz
    by_cases hL : L.length = 1
    · obtain ⟨x, rfl⟩ : ∃ x, L = [x] := by
        match L, hL with
        | [x], _ => exact ⟨x, rfl⟩
      obtain ⟨g, cap, rfl, c1, c2, hc⟩ := row_one hr
      simp only [pick1] at HRV
      clear hr hL
      unfold maxLen at c2
      cases a1 : t == [39] <;> cases a2 : t == [10] <;> cases a3 : t == [13]
      all_goals (
        rw [a1, a2, a3] at HRV
        simp only [Bool.or_self, Bool.or_false, Bool.or_true, Bool.true_or, Bool.false_or, Bool.false_eq_true, if_true, if_false] at HRV
        obtain rfl := unhide HRV
        go_wp2
        first
        | done
        | (go_ret2
           exact ⟨rfl, unhide HB1⟩))
    · have hnp : ∀ (A : Value) (gf : Int → Value), pick1 A gf (some L) = A := fun A gf => match_not (fun x hx => hL (by simp at hx; rw [hx]; rfl))
      rw [hnp] at HRV
      obtain rfl := unhide HRV
      obtain ⟨p, cap, rfl⟩ := ownsRow_slice hr
      have hL' : ((L.length : Int) != 1) = true := by simp; omega
      clear hr hnp hL
      go_wp2
      go_ret2
      exact ⟨rfl, unhide HB1⟩
theorem rChar_any (s : List UInt8) (hs : s.length ≤ 140737488355328) (w : World) :
    Calls Tryz.prog 69 #[.string ⟨s.toArray⟩] w fun e w' => e = .returned (rcharM s) ∧ Below w.heap.size w w' := by
  have hlen : (⟨s.toArray⟩ : ByteArray).size = s.length := by show s.toArray.size = _; simp
  unfold rcharM
  by_cases h3 : 3 ≤ s.length
  · have he := endsM_is s h3
    cases h1 : ((s[0].toNat : Int) != 39)
    · cases h2 : ((s[s.length - 1].toNat : Int) != 39)
      · have hE : endsM s = true := by rw [he]; simp only [bne_eq_false_iff_eq] at h1 h2; rw [h1, h2]; rfl
        rw [hE, if_pos rfl]
        have hil := innM_len s
        have hil' : (⟨(innM s).toArray⟩ : ByteArray).size = (innM s).length := by show (innM s).toArray.size = _; simp
        have hX : (⟨s.toArray⟩ : ByteArray).extract 1 ((⟨s.toArray⟩ : ByteArray).size - 1) = ⟨(innM s).toArray⟩ := by
          rw [ext_list, hlen, innM, List.drop_take, show s.length - 1 - 1 = s.length - 2 by omega]
        exact rchar_in ⟨s.toArray⟩ (by rw [hlen]; exact h3) (by rw [hlen]; exact hs) w h1 (by simp only [hlen]; exact h2) (innM s) hX _
          (Bytes_any ⟨(innM s).toArray⟩ (innM s) hil' (fun i h => ⟨by rw [hil']; exact h, rfl⟩) (fun i => by rw [ext_list, List.take_length]) (by omega) w)
      · have hE : endsM s = false := by rw [he]; simp only [bne_iff_ne] at h2; simp [h2]
        rw [hE]
        exact rchar_last ⟨s.toArray⟩ (by rw [hlen]; exact h3) (by rw [hlen]; exact hs) w h1 (by simp only [hlen]; exact h2)
    · have hE : endsM s = false := by rw [he]; simp only [bne_iff_ne] at h1; simp [h1]
      rw [hE]
      exact rchar_first ⟨s.toArray⟩ (by rw [hlen]; exact h3) (by rw [hlen]; exact hs) w h1
  · have hE : endsM s = false := by rw [endsM, decide_eq_false h3]; rfl
    rw [hE]
    exact rchar_short ⟨s.toArray⟩ (by rw [hlen]; omega) w
end Go.Proofs.YtfghfohlcofdpaaGreatDoor
namespace Go.Proofs.YtfghfohlcofdpaaGreatDoor
open Go Go.RowKit
set_option linter.unusedVariables false
set_option linter.unusedSimpArgs false

theorem rNumber_any (s : List UInt8) (hs : s.length ≤ 140737488355328) (w : World) :
    Calls Tryz.prog 68 #[.string ⟨s.toArray⟩] w fun e w' => e = .returned (rnumM s) ∧ Below w.heap.size w w' := by
  unfold rnumM
  by_cases hne : s = []
  · subst hne
    rw [if_pos rfl]
    exact rNumber_nil w
  · rw [if_neg hne]
    have hat : ∃ A0 : Nat, atM s = (A0 : Int) ∧ s.drop A0 = restM s ∧ A0 ≤ s.length := by
      unfold atM restM
      cases h16 : baseM s == 16
      · exact ⟨0, rfl, rfl, Nat.zero_le _⟩
      · exact ⟨2, rfl, rfl, base16_len (by simpa using h16)⟩
    obtain ⟨A0, h1, h2, h3⟩ := hat
    exact rNumber_go s hne hs w (baseM s) A0 (restM s) rfl h1 h2 h3
end Go.Proofs.YtfghfohlcofdpaaGreatDoor
