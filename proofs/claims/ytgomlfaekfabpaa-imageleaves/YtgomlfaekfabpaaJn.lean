/-
  The document's own SameSpots, at two lists that are the same.
-/
import Derived.Test.YtgomlfaekfabpaaJm
import Derived.Laws.StructEq
import Derived.BigQuiet
namespace Go.Proofs.Ytgomlfaekfabpaa
open Go Go.RowKit Go.Shelf
set_option linter.unusedVariables false
set_option linter.unusedSimpArgs false

theorem heldSp : Try.prog.stoodInHeld 42 = false := by kernel_rfl
theorem fieldsSp : Try.prog.underlying 42 = some (.struct (Try.prog.fieldsOf 42)) := by kernel_rfl
/-- Two spots compared. -/
theorem spot_eq (a b c a' b' c' : Int) (W : World) : (Op.equalIn 10000 42 (.agg #[.int .i64 a, .int .i64 b, .int .i64 c]) (.agg #[.int .i64 a', .int .i64 b', .int .i64 c'])).run Try.prog W = .ok (decide (a = a' ∧ b = b' ∧ c = c')) W := by
  rw [run_equalIn_struct _ 9999 42 _ _ fieldsSp heldSp]
  simp only [Program.fieldsOf, Try.underlying42]
  simp [Op.eqFields, go_sem]
  by_cases h1 : a = a' <;> by_cases h2 : b = b' <;> by_cases h3 : c = c' <;> simp [*]
theorem spot_neq (a b c a' b' c' : Int) (W : World) : (binOp .neq 42 (.agg #[.int .i64 a, .int .i64 b, .int .i64 c]) (.agg #[.int .i64 a', .int .i64 b', .int .i64 c'])).run Try.prog W = .ok (.bool (!decide (a = a' ∧ b = b' ∧ c = c'))) W := by
  rw [run_neq_struct, spot_eq]; rfl
theorem spCs_at : ∀ (l : List Mb) (i : Nat) (h : i < l.length), (spCs l)[i * 3]? = some (.int .i64 l[i].bit) ∧ (spCs l)[i * 3 + 1]? = some (.int .i64 l[i].bits) ∧ (spCs l)[i * 3 + 2]? = some (.int .i64 l[i].k)
  | [], _, h => absurd h (Nat.not_lt_zero _)
  | m :: r, 0, _ => by simp [spCs, spC]
  | m :: r, i + 1, h => by
    have ih := spCs_at r i (by simpa using h)
    have e : spCs (m :: r) = spC m ++ spCs r := by simp [spCs]
    rw [e]
    have e3 : (spC m).length = 3 := rfl
    refine ⟨?_, ?_, ?_⟩
    · rw [List.getElem?_append_right (by omega), e3, show (i + 1) * 3 - 3 = i * 3 by omega]; exact ih.1
    · rw [List.getElem?_append_right (by omega), e3, show (i + 1) * 3 + 1 - 3 = i * 3 + 1 by omega]; exact ih.2.1
    · rw [List.getElem?_append_right (by omega), e3, show (i + 1) * 3 + 2 - 3 = i * 3 + 2 by omega]; exact ih.2.2
/-- The cells of one spot. -/
theorem row_at {W : World} {base : Nat} {p : Option Addr} {n cap : Nat} {L : List Mb} (h : W.ownsRow base 42 3 (.slice p n cap) L.length (spCs L)) {i : Nat} (hi : i < L.length) :
    n = L.length ∧ n ≤ cap ∧ ∃ g, p = some ⟨g, 0, none⟩ ∧ base ≤ g ∧ g < W.heap.size ∧ W.cell? ⟨g, i * 3, none⟩ = some (.int .i64 L[i].bit) ∧ W.cell? ⟨g, i * 3 + 1, none⟩ = some (.int .i64 L[i].bits) ∧ W.cell? ⟨g, i * 3 + 2, none⟩ = some (.int .i64 L[i].k) := by
  obtain ⟨m, hm⟩ : ∃ m, L.length = m + 1 := ⟨L.length - 1, by omega⟩
  rw [hm] at h
  obtain ⟨g, cp, he, h1, h2, h3, h4⟩ := row_cells h
  obtain ⟨rfl, rfl, rfl⟩ : p = some ⟨g, 0, none⟩ ∧ n = m + 1 ∧ cap = cp := by simpa using he
  obtain ⟨e1, e2, e3⟩ := spCs_at L i hi
  exact ⟨hm.symm, h3, g, rfl, h1, h2, h4 _ _ e1, h4 _ _ e2, h4 _ _ e3⟩
set_option maxRecDepth 100000 in
set_option maxHeartbeats 8000000 in
theorem spots_eq (va vb : Value) (L : List Mb) (Ba Bb : Nat) (w : World) (hsz : L.length ≤ 1000000) (ha : w.ownsRow Ba 42 3 va L.length (spCs L)) (hb : w.ownsRow Bb 42 3 vb L.length (spCs L)) :
    Calls Try.prog 23 #[va, vb] w fun e w' => e = .returned (.bool true) ∧ Below w.heap.size w w' := by
  obtain ⟨p, cp, rfl⟩ := row_slice ha
  obtain ⟨q, cq, rfl⟩ := row_slice hb
  have HA := veil ha
  have HB := veil hb
  clear ha hb
  have i0 : (((L.length : Nat) : Int) != ((L.length : Nat) : Int)) = false := by simp
  go_enter Try.func23, Try.ntmps23
  go_wp2
  go_loopg [5] L.length (fun gk i wr => ∃ (k : Nat), gk = L.length - k ∧ i = .int .i64 k ∧ k ≤ L.length ∧ Hid (Below w.heap.size w wr))
  case atStart => exact ⟨0, rfl, rfl, by omega, Below.refl _ _⟩
  case round =>
    obtain ⟨k, rfl, rfl, hk, hw⟩ := hrel
    by_cases hlt : k < L.length
    · have i1 : (k : Int) < (L.length : Int) := by omega
      obtain ⟨_, _, g, rfl, _, hg, a0, a1, a2⟩ := row_at (unveil HA) (i := k) hlt
      obtain ⟨_, _, g', rfl, _, hg', b0, b1, b2⟩ := row_at (unveil HB) (i := k) hlt
      have hww : ∀ b o v, b < w.heap.size → w.cell? ⟨b, o, none⟩ = some v → wr.cell? ⟨b, o, none⟩ = some v := fun b o v hb h => ((unveil hw).cell (p := ⟨b, o, none⟩) hb).trans h
      replace a0 := hww _ _ _ hg a0
      replace a1 := hww _ _ _ hg a1
      replace a2 := hww _ _ _ hg a2
      replace b0 := hww _ _ _ hg' b0
      replace b1 := hww _ _ _ hg' b1
      replace b2 := hww _ _ _ hg' b2
      clear hww
      generalize L[k] = x at *
      obtain ⟨x1, x2, x3, x4⟩ := x
      simp only at a0 a1 a2 b0 b1 b2
      have hneq := fun W => spot_neq x1 x2 x3 x1 x2 x3 W
      simp only [and_self, decide_true, Bool.not_true] at hneq
      go_upto_region 6 with fail
      go_quiet (fail)
      go_wp2
      go_roundg (L.length - (k + 1))
      case measure => omega
      case rel => exact ⟨k + 1, rfl, by go_num, by omega, below_drewS (unveil hw) _⟩
    · have i1 : ¬ (k : Int) < (L.length : Int) := by omega
      go_wp2
      go_ret
      exact ⟨rfl, unveil hw⟩
end Go.Proofs.Ytgomlfaekfabpaa
