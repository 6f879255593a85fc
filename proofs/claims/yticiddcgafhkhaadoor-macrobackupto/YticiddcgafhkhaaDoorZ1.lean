/-
  Plain lists: what Show shows, lexed and parsed, is the same macro.
-/
import Derived.Test.YticiddcgafhkhaaDoorX3
import Derived.Test.YticiddcgafhkhaaDoorV6
import Derived.Test.YticiddcgafhkhaaDoorUc
namespace Go.Proofs.YticiddcgafhkhaaDoor
set_option linter.unusedVariables false
set_option linter.unusedSimpArgs false
namespace Tk
theorem nmL_stop {z : List UInt8} (hz : nmL z = 0) : ∀ (r : List UInt8), nmL r = r.length → nmL (r ++ z) = r.length
  | [], _ => hz
  | c :: r, h => by
    rw [nmL] at h
    split at h
    · rename_i hc
      simp at h
      rw [List.cons_append, nmL, if_pos hc, nmL_stop hz r h]
      simp
    · simp at h
/-- A name: its first byte is no digit, all belong to it. -/
def isN (N : List UInt8) : Prop := ∃ c r, N = c :: r ∧ nm c = true ∧ dg c = false ∧ nmL r = r.length
theorem isN_ms {N : List UInt8} (h : (ms N).1 = 1) (hl : (ms N).2 = N.length) (hne : N ≠ []) : isN N := by
  cases N with
  | nil => exact absurd rfl hne
  | cons c r =>
    rw [ms] at h hl
    split at h
    · simp at h
    · rename_i h1
      rw [if_neg h1] at hl
      split at h
      · rename_i h2
        rw [if_pos h2] at hl
        refine ⟨c, r, rfl, h2, ?_, by simpa using hl⟩
        cases hd : dg c with
        | false => rfl
        | true => simp [hd] at h1
      · split at h
        · simp at h
        · split at h
          · simp at h
          · split at h
            · simp at h
            · simp at h
theorem nm_not {c : UInt8} (h : nm c = true) : c ≠ 47 ∧ bl c = false ∧ c ≠ 46 := by
  refine ⟨?_, ?_, ?_⟩
  · rintro rfl; exact absurd h (by decide)
  · cases hb : bl c with
    | false => rfl
    | true =>
      simp only [bl, Bool.or_eq_true, beq_iff_eq] at hb
      rcases hb with ((rfl | rfl) | rfl) | rfl <;> exact absurd h (by decide)
  · rintro rfl; exact absurd h (by decide)
theorem pre2_no {a b c : UInt8} {s : List UInt8} (h : c ≠ a) : pre [a, b] (c :: s) = false := by
  cases hp : pre [a, b] (c :: s) with
  | false => rfl
  | true =>
    have := (List.isPrefixOf_iff_prefix.1 hp)
    obtain ⟨t, ht⟩ := this
    simp at ht
    exact absurd ht.1.symm h
theorem name_step {N z : List UInt8} (hN : isN N) (hz : nmL z = 0) (n : Int) (R : List Ln) (sp fi : Bool) : ev ((n, N ++ z) :: R) sp fi = (⟨1, N, n, sp, fi⟩, 0) :: ev ((n, z) :: R) false false := by
  obtain ⟨c, r, rfl, hc, hd, hl⟩ := hN
  obtain ⟨h1, h2, h3⟩ := nm_not hc
  have hms : ms (c :: r ++ z) = (1, r.length + 1) := by
    rw [List.cons_append, ms, hd]
    have : (c == 46) = false := by rw [beq_eq_false_iff_ne]; exact h3
    rw [this]
    simp [hc, nmL_stop hz r hl]
  have hT : isT (c :: r ++ z) = true := by
    rw [List.cons_append, isT_iff, pre2_no h1, pre2_no h1, h2]; rfl
  rw [ev_tok R sp fi hT (by rw [hms]; simp), hms]
  simp
theorem sgL_one {c : UInt8} (z : List UInt8) (hp : pn [c] = true) (h2 : ∀ d, pn [c, d] = false) (h3 : ∀ d e, pn [c, d, e] = false) : sgL (c :: z) = 1 := by
  match z with
  | [] => simp [sgL, hp]
  | [d] => simp [sgL, hp, h2]
  | d :: e :: r => simp [sgL, hp, h2, h3]
theorem sign_step {c : UInt8} (hc : c = 40 ∨ c = 41 ∨ c = 44) (z : List UInt8) (n : Int) (R : List Ln) (sp fi : Bool) : ev ((n, c :: z) :: R) sp fi = (⟨5, [c], n, sp, fi⟩, 0) :: ev ((n, z) :: R) false false := by
  have hsg : sgL (c :: z) = 1 := by
    rcases hc with rfl | rfl | rfl
    · exact sgL_one z (by decide) (fun d => by simp [pn, signs]) (fun d e => by simp [pn, signs])
    · exact sgL_one z (by decide) (fun d => by simp [pn, signs]) (fun d e => by simp [pn, signs])
    · exact sgL_one z (by decide) (fun d => by simp [pn, signs]) (fun d e => by simp [pn, signs])
  have hms : ms (c :: z) = (5, 1) := by
    rw [ms, hsg]
    rcases hc with rfl | rfl | rfl <;> simp [dg, nm, le]
  have hT : isT (c :: z) = true := by
    rw [isT_iff]
    rcases hc with rfl | rfl | rfl <;> (rw [pre2_no (by decide), pre2_no (by decide)]; rfl)
  rw [ev_tok R sp fi hT (by rw [hms]; simp), hms]
  rfl
theorem dots_step (z : List UInt8) (n : Int) (R : List Ln) (sp fi : Bool) : ev ((n, 46 :: 46 :: 46 :: z) :: R) sp fi = (⟨5, [46, 46, 46], n, sp, fi⟩, 0) :: ev ((n, z) :: R) false false := by
  have hsg : sgL (46 :: 46 :: 46 :: z) = 3 := by simp [sgL, pn, signs]
  have hms : ms (46 :: 46 :: 46 :: z) = (5, 3) := by
    rw [ms, hsg]
    simp [dg, nm, le, dig1]
  have hT : isT (46 :: 46 :: 46 :: z) = true := by
    rw [isT_iff, pre2_no (by decide), pre2_no (by decide)]; rfl
  rw [ev_tok R sp fi hT (by rw [hms]; simp), hms]
  rfl
/-- Events that are alike but for the blanks ahead of the first one. -/
def hq : List (T × Int) → List (T × Int) → Prop
  | [], [] => True
  | x :: r, y :: q => r = q ∧ x.1.kind = y.1.kind ∧ x.1.s = y.1.s ∧ x.2 = y.2
  | _, _ => False
theorem ev_flags (n : Int) : ∀ (f : Nat) (s : List UInt8) (sp fi sp' fi' : Bool), hq (evF f [(n, s)] sp fi) (evF f [(n, s)] sp' fi')
  | 0, _, _, _, _, _ => trivial
  | f + 1, [], sp, fi, sp', fi' => by
    rw [evF, evF]
    cases f <;> trivial
  | f + 1, c :: s, sp, fi, sp', fi' => by
    rw [evF, evF]
    split
    · cases f <;> trivial
    · split
      · have hcl : cl [(n, s.drop 1)] = (fc (s.drop 1)).map (fun t => [(n, t)]) := by rw [cl]; cases fc (s.drop 1) <;> rfl
        rw [hcl]
        cases ht : fc (s.drop 1) with
        | none => exact ⟨rfl, rfl, rfl, rfl⟩
        | some t => exact ev_flags n f t true fi true fi'
      · split
        · exact ev_flags n f s true fi true fi'
        · split
          · exact ⟨rfl, rfl, rfl, rfl⟩
          · exact ⟨rfl, rfl, rfl, rfl⟩
theorem ev_sp (n : Int) : ∀ (f : Nat) (s : List UInt8) (fi : Bool) (x : T × Int) (r : List (T × Int)), evF f [(n, s)] true fi = x :: r → x.2 = 0 → x.1.sp = true
  | 0, _, _, _, _, h, _ => by simp [evF] at h
  | f + 1, [], fi, x, r, h, _ => by rw [evF] at h; cases f <;> simp [evF] at h
  | f + 1, c :: s, fi, x, r, h, h0 => by
    rw [evF] at h
    split at h
    · cases f <;> simp [evF] at h
    · split at h
      · have hcl : cl [(n, s.drop 1)] = (fc (s.drop 1)).map (fun t => [(n, t)]) := by rw [cl]; cases fc (s.drop 1) <;> rfl
        rw [hcl] at h
        cases ht : fc (s.drop 1) with
        | none =>
          rw [ht] at h
          simp [er] at h
          rw [← h.1] at h0
          simp at h0
        | some t => rw [ht] at h; exact ev_sp n f t fi x r h h0
      · split at h
        · exact ev_sp n f s fi x r h h0
        · split at h
          · simp [er] at h
            rw [← h.1] at h0
            simp at h0
          · simp at h
            rw [← h.1]
end Tk
end Go.Proofs.YticiddcgafhkhaaDoor
