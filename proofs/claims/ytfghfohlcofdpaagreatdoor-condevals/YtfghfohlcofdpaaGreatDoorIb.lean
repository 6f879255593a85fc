/-
  The program's way through a condition follows the document's, on lists.
-/
import Derived.Test.YtfghfohlcofdpaaGreatDoorIa
namespace Go.Proofs.YtfghfohlcofdpaaGreatDoor
open Go Go.RowKit
set_option linter.unusedVariables false
set_option linter.unusedSimpArgs false

theorem isS_iff {s : List UInt8} {t : Gt} (h : isS s t = true) : t.kind = 5 ∧ t.s = s := by simpa [isS] using h
theorem nxL_iff {t : Gt} {r : List Gt} (h : nxL (t :: r) ≠ 0) : t.kind = 5 ∧ levM t.s ≠ 0 ∧ nxL (t :: r) = levM t.s := by
  simp only [nxL] at *
  by_cases hk : (t.kind == 5) = true
  · rw [if_pos hk] at h ⊢; exact ⟨by simpa using hk, h, rfl⟩
  · rw [if_neg hk] at h; exact absurd rfl h
theorem levM_le (s : List UInt8) : levM s ≤ 11 := by
  unfold levM
  repeat' split
  all_goals omega
theorem levM_two (s : List UInt8) (h : levM s ≠ 0) : 2 ≤ levM s := by
  revert h; unfold levM; repeat' split
  all_goals (intro h; first | omega | exact absurd rfl h)
theorem op_step {k n : Int} {st P : List Wt} {w v : Vl} {uc : Bool} {t : Gt} {r : List Gt} (hA : Abs k st P w uc v) (hT : Top n st) (hx : nxL (t :: r) ≠ 0) (hn : n ≤ nxL (t :: r)) (hk : nxL (t :: r) ≤ k) :
    reckM opT (t :: r) (P ++ st) uc (some (w, true)) = reckM opT r (bx t v :: st) false none := by
  obtain ⟨k5, h0, e⟩ := nxL_iff hx
  rw [e] at hn hk
  have h2 := levM_two t.s h0
  have hs := hA (levM t.s) (by omega) hk
  rw [settle_top hT hn] at hs
  have h63 : (t.s == [63]) = false := by
    cases h : t.s == [63]
    · rfl
    · have : t.s = [63] := by simpa using h
      rw [this] at h0; exact absurd rfl h0
  have h58 : (t.s == [58]) = false := by
    cases h : t.s == [58]
    · rfl
    · have : t.s = [58] := by simpa using h
      rw [this] at h0; exact absurd rfl h0
  have hb : behindM t (P ++ st) uc w = (true, bx t v :: st, false) := by
    unfold behindM
    rw [show (t.kind != 5) = false by simp [k5], h63, h58, show (levM t.s == 0) = false by simp [h0]]
    simp only [Bool.false_eq_true, if_false]
    rw [hs]
    rfl
  rw [reckM, hb]
  simp
/-- What stands behind: it goes on to a value, or fails. -/
def Res (kk : Int) (l : List Gt) (st : List Wt) (v : Vl) (rest : List Gt) (k : Bool) : Prop :=
  (k = false → (reckM opT l st false none).2 = false) ∧ (k = true → ∃ P w uc, reckM opT l st false none = reckM opT rest (P ++ st) uc (some (w, true)) ∧ Abs kk st P w uc v)
def SimK : Kd → Bool → List Gt → Vl → List Gt → Bool → Prop
  | .front, live, l, v, rest, k => ∀ st, (live = true ↔ skN st = 0) → Res 12 l st v rest k
  | .atom, live, l, v, rest, k => (∀ t r, l = t :: r → preS t = false) → ∀ st, (live = true ↔ skN st = 0) → Res 12 l st v rest k
  | .chain n, live, l, v, rest, k => ∀ st, (live = true ↔ skN st = 0) → Top n st → 2 ≤ n → n ≤ 12 → Res n l st v rest k ∧ (k = true → nxL rest = 0 ∨ nxL rest < n)
  | .loop n v0, live, l, v, rest, k => ∀ st P w uc kk, (live = true ↔ skN st = 0) → Top n st → 2 ≤ n → n ≤ kk → kk ≤ 12 → Abs kk st P w uc v0 → (nxL l = 0 ∨ nxL l ≤ kk) →
      (k = false → (reckM opT l (P ++ st) uc (some (w, true))).2 = false) ∧ (k = true → (∃ P' w' uc', reckM opT l (P ++ st) uc (some (w, true)) = reckM opT rest (P' ++ st) uc' (some (w', true)) ∧ Abs n st P' w' uc' v) ∧ (nxL rest = 0 ∨ nxL rest < n))
  | .choice, live, l, v, rest, k => ∀ st, (live = true ↔ skN st = 0) → Top 2 st → Res 1 l st v rest k ∧ (k = true → nxL rest = 0 ∧ nxS [63] rest = false)
theorem nxL_low {l : List Gt} (h : nxL l = 0 ∨ nxL l < 2) : nxL l = 0 := by
  cases l with
  | nil => rfl
  | cons t r =>
    rcases h with h | h
    · exact h
    · by_cases h0 : nxL (t :: r) = 0
      · exact h0
      · obtain ⟨_, h1, h2⟩ := nxL_iff h0
        have := levM_two t.s h1
        omega
theorem doom {l : List Gt} {st : List Wt} {u : Bool} {w : Vl} {m : Int} (hm : 2 ≤ m) (hs : ∀ l', 1 ≤ l' → l' ≤ m → (settleM l' st u w).2.1 = true) (hx : nxL l = 0 ∨ nxL l ≤ m) : (reckM opT l st u (some (w, true))).2 = false := by
  have s1 := hs 1 (by decide) (by omega)
  have s2 := hs 2 (by decide) hm
  cases l with
  | nil => rw [reckM, finM, s1]; simp
  | cons t r =>
    rw [reckM]
    simp only [if_true]
    have hb : (behindM t st u w).1 = true → (behindM t st u w).2.2 = true := by
      unfold behindM
      by_cases hk : (t.kind != 5) = true
      · rw [if_pos hk]; intro h; cases h
      · rw [if_neg hk]
        by_cases h63 : (t.s == [63]) = true
        · rw [if_pos h63]; exact fun _ => s2
        · rw [if_neg h63]
          by_cases h58 : (t.s == [58]) = true
          · rw [if_pos h58]
            split
            · exact fun _ => s1
            · intro h; cases h
          · rw [if_neg h58]
            by_cases h0 : (levM t.s == 0) = true
            · rw [if_pos h0]; intro h; cases h
            · rw [if_neg h0]
              intro _
              have k5 : (t.kind == 5) = true := by simpa [bne] using hk
              simp only [nxL, k5, if_true] at hx
              have h0' : levM t.s ≠ 0 := by simpa using h0
              have := levM_two t.s h0'
              exact hs _ (by omega) (hx.resolve_left h0')
    cases hbb : (behindM t st u w).1
    · simp only [Bool.false_eq_true, if_false]
      by_cases h41 : t.kind = 5 ∧ t.s = [41]
      · have hbe : behindM t st u w = (false, st, u) := by unfold behindM; rw [h41.2, show (t.kind != 5) = false by simp [h41.1]]; rfl
        have hce : (closeM t st u w).2.2.2 = true := by unfold closeM; rw [h41.2, show (t.kind != 5) = false by simp [h41.1]]; exact s1
        rw [hbe, hce]
        exact reck_und opT r _ _
      · have hc : ∀ st u, (closeM t st u w).2.1 = false := fun st u => by
          unfold closeM
          have : (t.kind != 5 || t.s != [41]) = true := by
            by_cases h : t.kind = 5
            · have h2 : t.s ≠ [41] := fun e => h41 ⟨h, e⟩
              simp [h2]
            · simp [h]
          rw [if_pos this]
        rw [hc]
        exact reck_fail opT r _ _ _
    · simp only [if_true]
      rw [hb hbb]
      exact reck_und opT r _ none
theorem ask_step {st P : List Wt} {w v : Vl} {uc : Bool} {q : Gt} {r : List Gt} (hA : Abs 2 st P w uc v) (hT : Top 2 st) (hq : isS [63] q = true) :
    reckM opT (q :: r) (P ++ st) uc (some (w, true)) = reckM opT r (⟨[63], 0, ⟨0, false⟩, v.b != 0, v.b == 0⟩ :: st) false none := by
  obtain ⟨k5, hs⟩ := isS_iff hq
  have h2 := hA 2 (by decide) (by decide)
  rw [settle_top hT (by decide) false v] at h2
  have hb : behindM q (P ++ st) uc w = (true, ⟨[63], 0, ⟨0, false⟩, v.b != 0, v.b == 0⟩ :: st, false) := by
    unfold behindM
    rw [hs, show (q.kind != 5) = false by simp [k5]]
    simp only [h2]
    rfl
  rw [reckM, hb]
  simp
theorem simK {kd : Kd} {live : Bool} {l : List Gt} {v : Vl} {rest : List Gt} {k : Bool} (h : Pr kd live l v rest k) : SimK kd live l v rest k := by
  induction h with
  | @frontPre live t r v rest k hp hr ih =>
    intro st hl
    have hpp : t.kind = 5 ∧ (t.s = [43] ∨ t.s = [45] ∨ t.s = [126] ∨ t.s = [33]) := by
      simp only [preS, Bool.or_eq_true] at hp
      rcases hp with ((h | h) | h) | h
      · exact ⟨(isS_iff h).1, .inl (isS_iff h).2⟩
      · exact ⟨(isS_iff h).1, .inr (.inl (isS_iff h).2)⟩
      · exact ⟨(isS_iff h).1, .inr (.inr (.inl (isS_iff h).2))⟩
      · exact ⟨(isS_iff h).1, .inr (.inr (.inr (isS_iff h).2))⟩
    obtain ⟨k5, hs⟩ := hpp
    have ha : aheadM t st = (true, ⟨t.s, 12, ⟨0, false⟩, false, false⟩ :: st) := by
      unfold aheadM
      rcases hs with h | h | h | h <;> rw [h, show (t.kind != 5) = false by simp [k5]] <;> rfl
    have e : reckM opT (t :: r) st false none = reckM opT r (⟨t.s, 12, ⟨0, false⟩, false, false⟩ :: st) false none := by rw [reckM, ha]; simp
    have := ih (⟨t.s, 12, ⟨0, false⟩, false, false⟩ :: st) (by
      have := live_cons hl ⟨t.s, 12, ⟨0, false⟩, false, false⟩
      simpa using this)
    refine ⟨fun hk => by rw [e]; exact this.1 hk, fun hk => ?_⟩
    obtain ⟨P, w, uc, h1, h2⟩ := this.2 hk
    refine ⟨P ++ [⟨t.s, 12, ⟨0, false⟩, false, false⟩], w, uc, by rw [e, h1]; simp, fun l hl1 hl2 => ?_⟩
    have h3 := h2 l hl1 hl2
    rw [List.append_assoc]
    show settleM l (P ++ (⟨t.s, 12, ⟨0, false⟩, false, false⟩ :: st)) uc w = _
    rw [h3, settleM, if_pos hl2]
    rfl
  | @frontAtom live l v rest k hp hr ih =>
    intro st hl
    exact ih hp st hl
  | @atomBr live t r v c rest ht hc hr ih =>
    intro hp st hl
    obtain ⟨k5, hs⟩ := isS_iff ht
    have ha : aheadM t st = (true, brW :: st) := by unfold aheadM; rw [hs, show (t.kind != 5) = false by simp [k5]]; rfl
    have e : reckM opT (t :: r) st false none = reckM opT r (brW :: st) false none := by rw [reckM, ha]; simp
    have ih' := ih (brW :: st) (by have := live_cons hl brW; simpa [brW] using this) (fun x q h => by cases h; decide)
    refine ⟨fun hk => (by cases hk), fun _ => ?_⟩
    obtain ⟨P, w, uc, h1, h2⟩ := ih'.1.2 rfl
    obtain ⟨c5, cs⟩ := isS_iff hc
    have hs1 := h2 1 (by decide) (by decide)
    rw [show settleM 1 (brW :: st) false v = (brW :: st, false, v) from settle_top (k := 1) (fun x q h => by cases h; decide) (by decide) false v] at hs1
    have hb : behindM c (P ++ brW :: st) uc w = (false, P ++ brW :: st, uc) := by unfold behindM; rw [cs, show (c.kind != 5) = false by simp [c5]]; rfl
    have hcl : closeM c (P ++ brW :: st) uc w = (v, true, st, false) := by
      unfold closeM
      rw [cs, show (c.kind != 5) = false by simp [c5]]
      simp only [hs1]
      rfl
    refine ⟨[], v, false, ?_, Abs.nil 12 st v⟩
    rw [e, h1, reckM, hb]
    simp only [if_true, Bool.false_eq_true, if_false]
    rw [hcl]
    rfl
  | @atomBrNo live t r v rest k v' rest' ht hr hno ih =>
    intro hp st hl
    obtain ⟨k5, hs⟩ := isS_iff ht
    have ha : aheadM t st = (true, brW :: st) := by unfold aheadM; rw [hs, show (t.kind != 5) = false by simp [k5]]; rfl
    have e : reckM opT (t :: r) st false none = reckM opT r (brW :: st) false none := by rw [reckM, ha]; simp
    have ih' := ih (brW :: st) (by have := live_cons hl brW; simpa [brW] using this) (fun x q h => by cases h; decide)
    refine ⟨fun _ => ?_, fun hk => by cases hk⟩
    rw [e]
    cases k with
    | false => exact ih'.1.1 rfl
    | true =>
      have hno' : nxS [41] rest = false := hno.resolve_left (by simp)
      obtain ⟨P, w, uc, h1, h2⟩ := ih'.1.2 rfl
      obtain ⟨n0, n63⟩ := ih'.2 rfl
      have hs1 := h2 1 (by decide) (by decide)
      rw [show settleM 1 (brW :: st) false v = (brW :: st, false, v) from settle_top (k := 1) (fun x q h => by cases h; decide) (by decide) false v] at hs1
      rw [h1]
      refine stop_fail uc w n0 n63 (fun _ => by rw [hs1]; rfl) (fun h => by rw [hno'] at h; cases h) (fun _ => by rw [hs1]; simp)
  | @atomNil live v rest =>
    intro hp st hl
    exact ⟨fun _ => rfl, fun hk => by cases hk⟩
  | @atomOp live t r ht ho =>
    intro hp st hl
    have ha : (aheadM t st).1 = false := by
      have hpr := hp t r rfl
      unfold aheadM
      by_cases hk : (t.kind != 5) = true
      · rw [if_pos hk]
      · rw [if_neg hk]
        have k5 : (t.kind == 5) = true := by simpa [bne] using hk
        simp only [isS, k5, Bool.true_and] at ht
        simp only [preS, isS, k5, Bool.true_and] at hpr
        rw [ht, hpr]
        rfl
    refine ⟨fun hk => (by cases hk), fun _ => ⟨[], (opT t).1, false, ?_, Abs.nil 12 st _⟩⟩
    rw [reckM, ha]
    simp only [Bool.false_eq_true, if_false, List.nil_append]
    rw [show opT t = ((opT t).1, true) by rw [← ho]]
  | @atomOpNo live t r v rest ht ho =>
    intro hp st hl
    have ha : (aheadM t st).1 = false := by
      have hpr := hp t r rfl
      unfold aheadM
      by_cases hk : (t.kind != 5) = true
      · rw [if_pos hk]
      · rw [if_neg hk]
        have k5 : (t.kind == 5) = true := by simpa [bne] using hk
        simp only [isS, k5, Bool.true_and] at ht
        simp only [preS, isS, k5, Bool.true_and] at hpr
        rw [ht, hpr]
        rfl
    refine ⟨fun _ => ?_, fun hk => by cases hk⟩
    rw [reckM, ha]
    simp only [Bool.false_eq_true, if_false]
    rw [show opT t = ((opT t).1, false) by rw [← ho]]
    exact reck_fail opT r _ _ _
  | @chain n live l v r w rest k hf hl' ih1 ih2 =>
    intro st hl hT h2 h12
    obtain ⟨P, w1, uc, e1, a1⟩ := (ih1 st hl).2 rfl
    have hnx : nxL r = 0 ∨ nxL r ≤ 12 := by
      cases r with
      | nil => exact .inl rfl
      | cons t q =>
        by_cases h0 : nxL (t :: q) = 0
        · exact .inl h0
        · obtain ⟨_, _, e⟩ := nxL_iff h0
          have := levM_le t.s
          exact .inr (by omega)
    have := ih2 st P w1 uc 12 hl hT h2 h12 (by decide) a1 hnx
    refine ⟨⟨fun hk => by rw [e1]; exact this.1 hk, fun hk => ?_⟩, fun hk => (this.2 hk).2⟩
    obtain ⟨P', w', uc', e2, a2⟩ := (this.2 hk).1
    exact ⟨P', w', uc', by rw [e1, e2], a2⟩
  | @chainNo n live l v r v' rest hf ih =>
    intro st hl hT h2 h12
    exact ⟨⟨fun _ => (ih st hl).1 rfl, fun hk => by cases hk⟩, fun hk => by cases hk⟩
  | @loopEnd n v live l hn =>
    intro st P w uc kk hl hT h2 hnk hk12 hA hx
    exact ⟨fun hk => (by cases hk), fun _ => ⟨⟨P, w, uc, rfl, hA.le hnk⟩, hn⟩⟩
  | @loopOp n v live t r w r' v' rest k hx0 hxn hc hdef hlp ih1 ih2 =>
    intro st P w1 uc kk hl hT h2 hnk hk12 hA hx
    have hxk : nxL (t :: r) ≤ kk := hx.resolve_left hx0
    have e1 := op_step hA hT hx0 hxn hxk
    obtain ⟨_, _, e0⟩ := nxL_iff hx0
    have hle := levM_le t.s
    rw [e0] at hxn
    have hl2 := live_cons hl (bx t v)
    obtain ⟨⟨_, g2⟩, g3⟩ := ih1 (bx t v :: st) hl2 (fun x q h => by cases h; show levM t.s < levM t.s + 1; omega) (by omega) (by omega)
    obtain ⟨P2, w2, uc2, e2, a2⟩ := g2 rfl
    have hnx := g3 rfl
    have hA3 : Abs (levM t.s) st (P2 ++ [bx t v]) w2 uc2 (ofM (bx t v) w).1 := fun l h1 h2 => by
      rw [List.append_assoc]
      show settleM l (P2 ++ (bx t v :: st)) uc2 w2 = _
      rw [a2 l h1 (by omega), settleM, if_pos (show l ≤ (bx t v).lev from h2)]
      congr 1
      cases hd : (ofM (bx t v) w).2
      · have hnl : ¬ live = true := fun h => by rw [hdef h] at hd; cases hd
        have : ¬ skN st = 0 := fun h => hnl (hl.2 h)
        simp [this]
      · simp
    have := ih2 st (P2 ++ [bx t v]) w2 uc2 (levM t.s) hl hT h2 hxn (by omega) hA3 (by omega)
    have e3 : reckM opT (t :: r) (P ++ st) uc (some (w1, true)) = reckM opT r' ((P2 ++ [bx t v]) ++ st) uc2 (some (w2, true)) := by rw [e1, e2]; simp
    rw [e3]
    exact this
  | @loopNo n v live t r w r' v' rest hx0 hxn hc ih =>
    intro st P w1 uc kk hl hT h2 hnk hk12 hA hx
    have hxk : nxL (t :: r) ≤ kk := hx.resolve_left hx0
    have e1 := op_step hA hT hx0 hxn hxk
    obtain ⟨_, h0, e0⟩ := nxL_iff hx0
    have hle := levM_le t.s
    have hl2 := live_cons hl (bx t v)
    have := levM_two t.s h0
    obtain ⟨⟨g1, _⟩, _⟩ := ih (bx t v :: st) hl2 (fun x q h => by cases h; show levM t.s < levM t.s + 1; omega) (by omega) (by omega)
    exact ⟨fun _ => by rw [e1]; exact g1 rfl, fun hk => by cases hk⟩
  | @loopUnd n v live t r w r' v' rest hx0 hxn hc hlv hund ih =>
    intro st P w1 uc kk hl hT h2 hnk hk12 hA hx
    have hxk : nxL (t :: r) ≤ kk := hx.resolve_left hx0
    have e1 := op_step hA hT hx0 hxn hxk
    obtain ⟨_, h0, e0⟩ := nxL_iff hx0
    have hle := levM_le t.s
    have hl2 := live_cons hl (bx t v)
    have h2' := levM_two t.s h0
    obtain ⟨⟨_, g2⟩, g3⟩ := ih (bx t v :: st) hl2 (fun x q h => by cases h; show levM t.s < levM t.s + 1; omega) (by omega) (by omega)
    obtain ⟨P2, w2, uc2, e2, a2⟩ := g2 rfl
    have hnx := g3 rfl
    refine ⟨fun _ => ?_, fun hk => by cases hk⟩
    rw [e1, e2]
    have hsu : ∀ l, 1 ≤ l → l ≤ levM t.s → (settleM l (P2 ++ bx t v :: st) uc2 w2).2.1 = true := fun l h1 h2 => by
      rw [a2 l h1 (by omega), settleM, if_pos (show l ≤ (bx t v).lev from h2), hund, hl.1 hlv]
      exact settle_mono l st _
    exact doom h2' hsu (by omega)
  | @plain live l v rest hc hq ih =>
    intro st hl hT
    obtain ⟨⟨_, g2⟩, g3⟩ := ih st hl hT (by decide) (by decide)
    obtain ⟨P, w, uc, e, a⟩ := g2 rfl
    exact ⟨⟨fun hk => (by cases hk), fun _ => ⟨P, w, uc, e, a.le (by decide)⟩⟩, fun _ => ⟨nxL_low (g3 rfl), hq⟩⟩
  | @no live l v rest v' rest' hc ih =>
    intro st hl hT
    exact ⟨⟨fun _ => (ih st hl hT (by decide) (by decide)).1.1 rfl, fun hk => by cases hk⟩, fun hk => by cases hk⟩
  | @ask live l v q r1 a c r2 b rest k h1 hq h2 hc h3 ih1 ih2 ih3 =>
    intro st hl hT
    obtain ⟨⟨_, g2⟩, _⟩ := ih1 st hl hT (by decide) (by decide)
    obtain ⟨P1, w1, uc1, e1, a1⟩ := g2 rfl
    have e2 := ask_step (r := r1) a1 hT hq
    have hl2 := live_cons hl ⟨[63], 0, ⟨0, false⟩, v.b != 0, v.b == 0⟩
    obtain ⟨⟨_, g2⟩, _⟩ := ih2 (⟨[63], 0, ⟨0, false⟩, v.b != 0, v.b == 0⟩ :: st) hl2 (fun x q h => by cases h; exact (show (0 : Int) < 2 by decide))
    obtain ⟨P2, w2, uc2, e3, a2⟩ := g2 rfl
    obtain ⟨c5, cs⟩ := isS_iff hc
    have hs1 := a2 1 (by decide) (by decide)
    rw [show settleM 1 (⟨[63], 0, ⟨0, false⟩, v.b != 0, v.b == 0⟩ :: st) false a = (⟨[63], 0, ⟨0, false⟩, v.b != 0, v.b == 0⟩ :: st, false, a) from settle_top (k := 1) (fun x q h => by cases h; exact (show (0 : Int) < 1 by decide)) (by decide) false a] at hs1
    have hb : behindM c (P2 ++ ⟨[63], 0, ⟨0, false⟩, v.b != 0, v.b == 0⟩ :: st) uc2 w2 = (true, ⟨[58], 1, a, v.b != 0, v.b != 0⟩ :: st, false) := by
      unfold behindM
      rw [cs, show (c.kind != 5) = false by simp [c5]]
      simp only [hs1]
      rfl
    have e4 : reckM opT (c :: r2) (P2 ++ ⟨[63], 0, ⟨0, false⟩, v.b != 0, v.b == 0⟩ :: st) uc2 (some (w2, true)) = reckM opT r2 (⟨[58], 1, a, v.b != 0, v.b != 0⟩ :: st) false none := by
      rw [reckM, hb]; simp
    have hl3 := live_cons hl ⟨[58], 1, a, v.b != 0, v.b != 0⟩
    simp only [show (!(v.b != 0)) = (v.b == 0) by simp [bne]] at hl3
    have h3' := ih3 (⟨[58], 1, a, v.b != 0, v.b != 0⟩ :: st) hl3 (fun x q h => by cases h; exact (show (1 : Int) < 2 by decide))
    have e : reckM opT l st false none = reckM opT r2 (⟨[58], 1, a, v.b != 0, v.b != 0⟩ :: st) false none := by rw [e1, e2, e3, e4]
    refine ⟨⟨fun hk => by rw [e]; exact h3'.1.1 hk, fun hk => ?_⟩, h3'.2⟩
    obtain ⟨P3, w3, uc3, e5, a3⟩ := h3'.1.2 hk
    refine ⟨P3 ++ [⟨[58], 1, a, v.b != 0, v.b != 0⟩], w3, uc3, by rw [e, e5]; simp, fun l h1 h2 => ?_⟩
    obtain rfl : l = 1 := by omega
    rw [List.append_assoc]
    show settleM 1 (P3 ++ (⟨[58], 1, a, v.b != 0, v.b != 0⟩ :: st)) uc3 w3 = _
    rw [a3 1 (by decide) (by decide), settleM, if_pos (show (1 : Int) ≤ 1 by decide)]
    rfl
  | @askNo live l v q r1 a r2 k v' rest' h1 hq h2 hno ih1 ih2 =>
    intro st hl hT
    obtain ⟨⟨_, g2⟩, _⟩ := ih1 st hl hT (by decide) (by decide)
    obtain ⟨P1, w1, uc1, e1, a1⟩ := g2 rfl
    have e2 := ask_step (r := r1) a1 hT hq
    have hl2 := live_cons hl ⟨[63], 0, ⟨0, false⟩, v.b != 0, v.b == 0⟩
    have ih' := ih2 (⟨[63], 0, ⟨0, false⟩, v.b != 0, v.b == 0⟩ :: st) hl2 (fun x q h => by cases h; exact (show (0 : Int) < 2 by decide))
    refine ⟨⟨fun _ => ?_, fun hk => by cases hk⟩, fun hk => by cases hk⟩
    rw [e1, e2]
    cases k with
    | false => exact ih'.1.1 rfl
    | true =>
      have hno' : nxS [58] r2 = false := hno.resolve_left (by simp)
      obtain ⟨P, w, uc, h1, h2⟩ := ih'.1.2 rfl
      obtain ⟨n0, n63⟩ := ih'.2 rfl
      have hs1 := h2 1 (by decide) (by decide)
      rw [show settleM 1 (⟨[63], 0, ⟨0, false⟩, v.b != 0, v.b == 0⟩ :: st) false a = (⟨[63], 0, ⟨0, false⟩, v.b != 0, v.b == 0⟩ :: st, false, a) from settle_top (k := 1) (fun x q h => by cases h; exact (show (0 : Int) < 1 by decide)) (by decide) false a] at hs1
      rw [h1]
      refine stop_fail uc w n0 n63 (fun h => by rw [hno'] at h; cases h) (fun _ => by rw [hs1]; rfl) (fun _ => by rw [hs1]; simp)
/-- The document's answer. -/
theorem ev_yes {l : List Gt} {v : Vl} (h : Pr .choice true l v [] true) : evM l = (v, true) := by
  obtain ⟨⟨_, g2⟩, _⟩ := simK h [] (by simp [skN]) (fun x q h => by cases h)
  obtain ⟨P, w, uc, e, a⟩ := g2 rfl
  have := a 1 (by decide) (by decide)
  unfold evM
  rw [e, reckM, finM, this]
  rfl
theorem ev_no {l : List Gt} {v : Vl} {rest : List Gt} {k : Bool} (h : Pr .choice true l v rest k) (hno : k = false ∨ rest ≠ []) : (evM l).2 = false := by
  have h' := simK h [] (by simp [skN]) (fun x q h => by cases h)
  unfold evM
  cases k with
  | false => exact h'.1.1 rfl
  | true =>
    obtain ⟨P, w, uc, e, a⟩ := h'.1.2 rfl
    obtain ⟨n0, n63⟩ := h'.2 rfl
    have hr : rest ≠ [] := hno.resolve_left (by simp)
    have hs := a 1 (by decide) (by decide)
    rw [e]
    refine stop_fail uc w n0 n63 (fun _ => by rw [hs]; rfl) (fun _ => by rw [hs]; rfl) (fun h => absurd h hr)
end Go.Proofs.YtfghfohlcofdpaaGreatDoor
