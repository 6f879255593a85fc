/-
  The document's own bareField, isAlign.
-/
import Derived.Test.YtgomlfaekfabpaaZza
namespace Go.Proofs.Ytgomlfaekfabpaa
open Go Go.RowKit
set_option linter.unusedVariables false
set_option linter.unusedSimpArgs false

set_option maxRecDepth 100000 in
set_option maxHeartbeats 8000000 in
theorem bareField_any (f : FdOf ShT) (w : World) : Calls Try.prog 83 #[f.v] w fun e w' => e = .returned (.bool (ffM f)) ∧ Below w.heap.size w w' := by
  have HS := veil (RSize_any f.t.k)
  have hsz := siz_cases f.t.k
  unfold ffM FdOf.v FdOf.cs
  generalize f.t.sh = sh
  generalize f.t.k = k at *
  generalize f.t.n = n
  generalize f.t.op = op
  generalize f.t.of.length = ol
  generalize f.t.oc = oc
  generalize f.t.fp = fp
  generalize f.t.fs.length = fl
  generalize f.t.fc = fc
  generalize f.t.pk = pk
  generalize f.t.al = al
  generalize f.bits = bi
  generalize f.nm = nm
  generalize sizM k = z at *
  have hz : 0 ≤ z ∧ z ≤ 8 := by omega
  clear hsz
  obtain ⟨hz0, hz8⟩ := hz
  have hbe : ∀ o, Below w.heap.size w (w.alloc o) := fun o => (Below.refl _ w).alloc (Nat.le_refl _) o
  have HBE := veil hbe
  clear hbe
  by_cases hb : bi < 0
  · go_enter Try.func83, Try.ntmps83
    go_wp2
    go_ret
    refine ⟨?_, unveil HBE _⟩
    simp [hb]
  · cases h1 : sh == 1
    · have h1' : (sh != 1) = true := by simp [bne, h1]
      go_enter Try.func83, Try.ntmps83
      go_wp2
      go_quiet (fail)
      go_wp2
      go_ret
      refine ⟨?_, below_drewS (unveil HBE _) _⟩
      simp [hb]
    · have h1' : (sh != 1) = false := by simp [bne, h1]
      by_cases hg : bi > 8 * z
      · go_enter Try.func83, Try.ntmps83
        go_wp2
        go_quiet ((go_at_call 68; exact Calls.quiet_of_same (unveil HS _)))
        go_wp2
        go_ret
        refine ⟨?_, below_drewS (unveil HBE _) _⟩
        simp [hb, show ¬ bi ≤ 8 * z by omega]
      · by_cases h0 : bi > 0
        · go_enter Try.func83, Try.ntmps83
          go_wp2
          go_quiet ((go_at_call 68; exact Calls.quiet_of_same (unveil HS _)))
          go_wp2
          go_ret
          refine ⟨?_, below_drewS (unveil HBE _) _⟩
          have : ¬ bi = 0 := by omega
          simp [hb, this, show bi ≤ 8 * z by omega]
        · obtain rfl : bi = 0 := by omega
          cases hn : nm.isEmpty
          all_goals
            go_enter Try.func83, Try.ntmps83
            go_wp2
            go_quiet ((go_at_call 68; exact Calls.quiet_of_same (unveil HS _)))
            go_wp2
            go_ret
            refine ⟨?_, below_drewS (unveil HBE _) _⟩
            simp [hn, show (0 : Int) ≤ 8 * z by omega]
def PwL : List Int := [1, 2, 4, 8, 16, 32, 64]
theorem ali_no {n : Int} (h : ∀ m ∈ PwL, n ≠ m) : aliM n = (n == 0) := by
  unfold PwL at h
  simp only [List.mem_cons, List.not_mem_nil, or_false, forall_eq_or_imp, forall_eq] at h
  obtain ⟨h1, h2, h3, h4, h5, h6, h7⟩ := h
  unfold aliM
  rw [Bool.eq_iff_iff]
  simp only [Bool.or_eq_true, beq_iff_eq]
  omega
theorem ali_yes {n : Int} (h : n ∈ PwL) : aliM n = true := by
  unfold PwL at h
  simp only [List.mem_cons, List.not_mem_nil, or_false] at h
  rcases h with rfl | rfl | rfl | rfl | rfl | rfl | rfl <;> rfl
set_option maxRecDepth 100000 in
set_option maxHeartbeats 8000000 in
theorem isAlign_any (n : Int) (w : World) : Calls Try.prog 66 #[.int .i64 n] w fun e w' => e = .returned (.bool (aliM n)) ∧ w' = w := by
  obtain ⟨R, HR⟩ : ∃ R, Hid (aliM n = R) := ⟨_, rfl⟩
  rw [unveil HR]
  go_enter Try.func66, Try.ntmps66
  go_wp2
  go_loopw [3] (fun i wr => ∃ (k : Int), i = .int .i64 k ∧ Hid (k ∈ PwL ++ [128]) ∧ Hid (∀ m ∈ PwL, m < k → n ≠ m) ∧ wr = w)
    (fun i wr => 128 - (intOf i).toNat)
  case atStart => exact ⟨1, rfl, by unfold Hid; decide, fun m hm hl => by unfold PwL at hm; simp at hm; omega, rfl⟩
  case round =>
    obtain ⟨k, rfl, hk, hall, rfl⟩ := hrel
    have hk' := unveil hk
    unfold PwL at hk'
    simp only [List.mem_append, List.mem_cons, List.not_mem_nil, or_false] at hk'
    by_cases hlast : k = 128
    · subst hlast
      have hno := ali_no (n := n) (fun m hm => unveil hall m hm (by unfold PwL at hm; simp at hm; omega))
      rw [unveil HR] at hno
      subst hno
      clear HR hk'
      go_wp2
      go_ret
      exact ⟨rfl, rfl⟩
    · by_cases hn : n = k
      · have hR : R = true := by
          rw [← unveil HR]
          apply ali_yes
          unfold PwL
          simp only [List.mem_cons, List.not_mem_nil, or_false]
          omega
        subst hR
        subst hn
        have h64 : n ≤ 64 := by omega
        clear hk' hlast HR
        go_wp2
        go_ret
        exact ⟨rfl, rfl⟩
      · have hne : (n == k) = false := by simpa using hn
        have h64 : k ≤ 64 := by omega
        have h1 : 1 ≤ k := by omega
        have HK := veil hk'
        have HN := veil hn
        have HLA := veil hlast
        clear hk' hn hlast
        go_wp2
        go_roundw
        case rel =>
          refine ⟨2 * k, by go_num, ?_, fun m hm hlt => ?_, trivial⟩
          · show 2 * k ∈ PwL ++ [128]
            have := unveil HK
            have h2 := unveil HLA
            unfold PwL
            simp only [List.mem_append, List.mem_cons, List.not_mem_nil, or_false]
            omega
          · by_cases hlk : m < k
            · exact unveil hall m hm hlk
            · have h2 := unveil HN
              have h3 := unveil HK
              unfold PwL at hm
              simp only [List.mem_cons, List.not_mem_nil, or_false] at hm
              omega
        case measure => simp [intOf]; omega
end Go.Proofs.Ytgomlfaekfabpaa
