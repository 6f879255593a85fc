/-
  Package shape: aligns, fieldFormed, formed; the document's own isAlign, bareField.
-/
import Derived.Test.YtgomlfaekfabpaaUa
namespace Go.Proofs.Ytgomlfaekfabpaa
open Go Go.RowKit
set_option linter.unusedVariables false
set_option linter.unusedSimpArgs false

theorem below_drewS {B : Nat} {w W : World} (h : Below B w W) (m : Nat) : Below B w (W.drewN m) := ⟨h.os, h.tape, h.output, h.size, h.block⟩
def aliM (n : Int) : Bool := n == 0 || n == 1 || n == 2 || n == 4 || n == 8 || n == 16 || n == 32 || n == 64
set_option maxRecDepth 100000 in
set_option maxHeartbeats 4000000 in
theorem aligns_any (n : Int) (w : World) : Calls Try.prog 91 #[.int .i64 n] w fun e w' => e = .returned (.bool (aliM n)) ∧ w' = w := by
  by_cases h0 : n = 0
  · subst h0
    go_enter Try.func91, Try.ntmps91
    go_wp2
    go_ret
    exact ⟨rfl, rfl⟩
  · by_cases h1 : 1 ≤ n
    · by_cases h2 : n ≤ 64
      · have hb : (n == 0) = false := by simpa using h0
        have h1' : n ≥ 1 := h1
        go_enter Try.func91, Try.ntmps91
        go_wp2
        go_ret
        refine ⟨?_, rfl⟩
        have key : (Go.bits BinOp.and IntKind.i64 n (n - 1) == 0) = aliM n := by
          have all : ∀ m : Nat, m < 65 → (m == 0 || (Go.bits BinOp.and IntKind.i64 (m : Int) ((m : Int) - 1) == 0) == aliM (m : Int)) = true := by decide +kernel
          have := all n.toNat (by omega)
          rw [show ((n.toNat : Nat) : Int) = n by omega] at this
          simp only [Bool.or_eq_true, beq_iff_eq] at this
          rcases this with h | h
          · omega
          · exact h
        rw [← key]
        rfl
      · have hb : (n == 0) = false := by simpa using h0
        go_enter Try.func91, Try.ntmps91
        go_wp2
        go_ret
        refine ⟨?_, rfl⟩
        have : aliM n = false := by unfold aliM; simp; omega
        first | simp [this] | simp_all
    · have hb : (n == 0) = false := by simpa using h0
      go_enter Try.func91, Try.ntmps91
      go_wp2
      go_ret
      refine ⟨?_, rfl⟩
      have : aliM n = false := by unfold aliM; simp; omega
      first | simp [this] | simp_all
def ffM (f : FdOf ShT) : Bool := if f.bits < 0 then !f.nm.isEmpty else if f.bits == 0 && !f.nm.isEmpty then false else f.t.sh == 1 && decide (f.bits ≤ 8 * sizM f.t.k)
set_option maxRecDepth 100000 in
set_option maxHeartbeats 4000000 in
theorem fieldFormed_any (f : FdOf ShT) (w : World) : Calls Try.prog 94 #[f.v] w fun e w' => e = .returned (.bool (ffM f)) ∧ Below w.heap.size w w' := by
  have HS := veil (Size_any f.t.k)
  have hsz := siz_cases f.t.k
  unfold ffM FdOf.v FdOf.cs
  generalize f.t.sh = sh
  generalize f.t.k = k at *
  generalize f.t.n = n
  generalize f.t.op = op
  generalize f.t.of.length = ol
  generalize f.t.oc = oc
  generalize f.t.fp = fp
  generalize f.t.fs.length = fl
  generalize f.t.fc = fc
  generalize f.t.pk = pk
  generalize f.t.al = al
  generalize f.bits = bi
  generalize f.nm = nm
  generalize sizM k = z at *
  have hz : 0 ≤ z ∧ z ≤ 8 := by omega
  clear hsz
  obtain ⟨hz0, hz8⟩ := hz
  have hbe : ∀ o, Below w.heap.size w (w.alloc o) := fun o => (Below.refl _ w).alloc (Nat.le_refl _) o
  have HBE := veil hbe
  clear hbe
  by_cases hb : bi < 0
  · go_enter Try.func94, Try.ntmps94
    go_wp2
    go_ret
    refine ⟨?_, unveil HBE _⟩
    simp [hb]
  · cases hn : nm.isEmpty
    · cases h0 : bi == 0
      · cases h1 : sh == 1
        · go_enter Try.func94, Try.ntmps94
          go_wp2
          go_quiet (fail)
          go_wp2
          go_ret
          refine ⟨?_, below_drewS (unveil HBE _) _⟩
          simp [hb]
        · go_enter Try.func94, Try.ntmps94
          go_wp2
          go_quiet ((go_at_call 49; exact Calls.quiet_of_same (unveil HS _)))
          go_wp2
          go_ret
          refine ⟨?_, below_drewS (unveil HBE _) _⟩
          simp [hb]
      · go_enter Try.func94, Try.ntmps94
        go_wp2
        go_ret
        refine ⟨?_, unveil HBE _⟩
        simp [hb]
    · cases h0 : bi == 0
      all_goals (
        cases h1 : sh == 1
        · go_enter Try.func94, Try.ntmps94
          go_wp2
          go_quiet (fail)
          go_wp2
          go_ret
          refine ⟨?_, below_drewS (unveil HBE _) _⟩
          simp [hb]
        · go_enter Try.func94, Try.ntmps94
          go_wp2
          go_quiet ((go_at_call 49; exact Calls.quiet_of_same (unveil HS _)))
          go_wp2
          go_ret
          refine ⟨?_, below_drewS (unveil HBE _) _⟩
          simp [hb])
end Go.Proofs.Ytgomlfaekfabpaa
