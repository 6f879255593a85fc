/-
  burinref01.Same: are two lists of lines the same?
-/
import Derived.Test.YtncccheaeghbiaaA5
import Derived.Deep.QuietTactic
import Derived.BigQuiet
namespace Go.Proofs.Ytncccheaeghbiaa
open Go Go.RowKit
set_option linter.unusedVariables false

/-- A slice value that reads as these lines. -/
def Rd (W : World) (v : Value) (l : List (Nat × List UInt8)) : Prop :=
  ∃ p cap, v = .slice p l.length cap ∧ ∀ (i : Nat) (h : i < l.length), ∃ g, p = some ⟨g, 0, none⟩ ∧ W.cell? ⟨g, i * 2, none⟩ = some (.int .i64 (l[i].1 : Nat)) ∧ W.cell? ⟨g, i * 2 + 1, none⟩ = some (.string ⟨l[i].2.toArray⟩)

theorem lineCells_get (l : List (Nat × List UInt8)) : ∀ (i : Nat) (h : i < l.length), (lineCells l)[i * 2]? = some (.int .i64 (l[i].1 : Nat)) ∧ (lineCells l)[i * 2 + 1]? = some (.string ⟨l[i].2.toArray⟩) := by
  induction l with
  | nil => intro i h; simp at h
  | cons x l ih =>
    intro i h
    cases i with
    | zero => simp [lineCells]
    | succ i =>
      have := ih i (by simpa using h)
      have e : lineCells (x :: l) = .int .i64 (x.1 : Nat) :: .string ⟨x.2.toArray⟩ :: lineCells l := by simp [lineCells]
      rw [e, show (i + 1) * 2 = i * 2 + 1 + 1 by omega]
      simpa using this
theorem add_row (g j : Nat) : (⟨g, 0, none⟩ : Addr).add j = ⟨g, j, none⟩ := by
  cases j <;> simp [Addr.add]
theorem Rd.of {W : World} {base : Nat} {v : Value} {l : List (Nat × List UInt8)} (h : W.ownsRow base 32 2 v l.length (lineCells l)) : Rd W v l := by
  have hc : ∀ {g : Nat}, v.ownBlock = some g → ∀ j u, (lineCells l)[j]? = some u → W.cell? ((⟨g, 0, none⟩ : Addr).add j) = some u := fun hg => h.cells hg
  rcases h.2 with ⟨rfl, h0⟩ | ⟨g, cap, cur, rfl, _⟩
  · exact ⟨none, 0, by rw [h0], fun i hi => by omega⟩
  · refine ⟨some ⟨g, 0, none⟩, cap, rfl, fun i hi => ⟨g, rfl, ?_, ?_⟩⟩
    · have := hc (g := g) rfl (i * 2) _ (lineCells_get l i hi).1
      rw [add_row] at this; exact this
    · have := hc (g := g) rfl (i * 2 + 1) _ (lineCells_get l i hi).2
      rw [add_row] at this; exact this

theorem str_beq (a b : List UInt8) : ((⟨a.toArray⟩ : ByteArray).toList == (⟨b.toArray⟩ : ByteArray).toList) = (a == b) := by simp

set_option maxHeartbeats 1000000 in
theorem Same_any (va vb : Value) (la lb : List (Nat × List UInt8)) (w : World) (ha : Rd w va la) (hb : Rd w vb lb) (hla : la.length ≤ maxLen) (hlb : lb.length ≤ maxLen) :
    Calls Try.prog 12 #[va, vb] w fun e w' => e = .returned (.bool (decide (la = lb))) ∧ ∃ m, w' = w.drewN m := by
  unfold maxLen at hla hlb
  obtain ⟨p, ca, rfl, hca⟩ := ha
  obtain ⟨q, cb, rfl, hcb⟩ := hb
  by_cases hl : la.length = lb.length
  · have hne : ((la.length : Int) != (lb.length : Int)) = false := by simp [hl]
    have HL := hide hl
    clear hl
    go_enter Try.func12, Try.ntmps12
    go_wp2
    go_loopw [5] (fun i wr => ∃ (k m : Nat), i = .int .i64 k ∧ k ≤ la.length ∧ Hid (la.take k = lb.take k) ∧ wr = w.drewN m) (fun i wr => la.length - (intOf i).toNat)
    case atStart => exact ⟨0, 0, rfl, Nat.zero_le _, rfl, rfl⟩
    case round =>
      obtain ⟨k, m, rfl, hk, hpre, rfl⟩ := hrel
      by_cases hlt : k < la.length
      · have hltb : k < lb.length := by rw [← unhide HL]; exact hlt
        obtain ⟨g, rfl, a1, a2⟩ := hca k hlt
        obtain ⟨g', rfl, b1, b2⟩ := hcb k hltb
        generalize hx : la[k] = x at *
        generalize hy : lb[k] = y at *
        have HX := hide hx
        have HY := hide hy
        clear hx hy
        have HCA := hide hca
        have HCB := hide hcb
        clear hca hcb
        have i1 : (k : Int) < (la.length : Int) := by omega
        have i2 : (k : Int) < (lb.length : Int) := by omega
        go_wp2
        refine wp_region_still_plain 8 (by kernel_rfl) (by kernel_rfl) ?_
        simp only [List.take_succ_cons, List.take_zero, List.drop_succ_cons, List.drop_zero]
        repeat still_step
        refine wpStill_nil ?_
        by_cases hxy : x = y
        · subst hxy
          go_wp2
          refine ⟨⟨k + 1, m + 1, by go_num, by omega, ?_, rfl⟩, by simp [intOf]; omega⟩
          rw [Hid, List.take_succ_eq_append_getElem hlt, List.take_succ_eq_append_getElem hltb, unhide HX, unhide HY, unhide hpre]
        · have hne2 : la ≠ lb := fun e => by
            subst e
            exact hxy ((unhide HX).symm.trans (unhide HY))
          go_wp2
          case roundEnd h1 h2 =>
            exact absurd (Prod.ext (by omega) h2) hxy
          all_goals
            go_ret
            exact ⟨by simp [hne2], m + 1, rfl⟩
      · go_wp2
        go_ret
        have e1 : la.take k = la := List.take_of_length_le (by omega)
        have e2 : lb.take k = lb := List.take_of_length_le (by have := unhide HL; omega)
        have e3 : la = lb := by rw [← e1, ← e2]; exact unhide hpre
        exact ⟨by simp [e3], m, rfl⟩
  · have hne : ((la.length : Int) != (lb.length : Int)) = true := by simp; omega
    go_enter Try.func12, Try.ntmps12
    go_wp2
    go_ret
    have e3 : ¬ la = lb := fun e => hl (by rw [e])
    exact ⟨by simp [e3], 0, rfl⟩
end Go.Proofs.Ytncccheaeghbiaa
