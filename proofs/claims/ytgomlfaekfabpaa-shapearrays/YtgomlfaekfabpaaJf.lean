/-
  The document's own next.
-/
import Derived.Test.YtgomlfaekfabpaaUj
import Derived.Test.YtgomlfaekfabpaaUi
namespace Go.Proofs.Ytgomlfaekfabpaa
open Go Go.RowKit
set_option linter.unusedVariables false
set_option linter.unusedSimpArgs false

set_option maxRecDepth 100000 in
set_option maxHeartbeats 20000000 in
theorem next_any (t : ShT) (f : FdOf ShT) (z a : Int) (bg : Bool) (v : Value) (en : Int) (w : World) (hok : FOk f (z, a)) (he0 : 0 ≤ en) (he1 : en ≤ 1073741824) :
    Calls Try.prog 84 #[t.v, f.v, .agg #[.int .i64 z, .int .i64 a, .bool bg, v], .int .i64 en] w fun e w' => e = .returned (.int .i64 (layM (z, a) f en t.pk).bit) ∧ Below w.heap.size w w' := by
  obtain ⟨h1, h2, h3, h4, h5⟩ := hok
  simp only at h1 h2 h3 h4 h5
  have HU : Hid (∀ m, 1 ≤ m → m ≤ 1099511627776 → ∀ W, Calls Try.prog 85 #[.int .i64 en, .int .i64 m] W fun e w' => e = .returned (.int .i64 (upM en m)) ∧ w' = W) := fun m hm hm2 W => Rup_any en m W he0 (by omega) hm hm2
  have HW0 : Hid ((((w.alloc (.cells t.cs 25)).alloc (.cells f.cs 45)).alloc (.cells #[.int .i64 z, .int .i64 a, .bool bg, v] 32)).cell? ⟨w.heap.size, 5, none⟩ = some (.bool t.pk) ∧
      (((w.alloc (.cells t.cs 25)).alloc (.cells f.cs 45)).alloc (.cells #[.int .i64 z, .int .i64 a, .bool bg, v] 32)).cell? ⟨w.heap.size + 1, 8, none⟩ = some (.int .i64 f.bits) ∧
      (((w.alloc (.cells t.cs 25)).alloc (.cells f.cs 45)).alloc (.cells #[.int .i64 z, .int .i64 a, .bool bg, v] 32)).cell? ⟨w.heap.size + 1 + 1, 0, none⟩ = some (.int .i64 z) ∧
      (((w.alloc (.cells t.cs 25)).alloc (.cells f.cs 45)).alloc (.cells #[.int .i64 z, .int .i64 a, .bool bg, v] 32)).cell? ⟨w.heap.size + 1 + 1, 1, none⟩ = some (.int .i64 a) ∧
      Below w.heap.size w (((w.alloc (.cells t.cs 25)).alloc (.cells f.cs 45)).alloc (.cells #[.int .i64 z, .int .i64 a, .bool bg, v] 32))) := by
    have b1 := Bk.new (w.alloc (.cells t.cs 25)) 45 f.cs
    have b2 := Bk.new ((w.alloc (.cells t.cs 25)).alloc (.cells f.cs 45)) 32 #[.int .i64 z, .int .i64 a, .bool bg, v]
    rw [World.size_alloc] at b1
    rw [World.size_alloc, World.size_alloc] at b2
    exact ⟨(((Bk.new w 25 t.cs).alloc _).alloc _).cell 5, (b1.alloc _).cell 8, b2.cell 0, b2.cell 1, (below_new2 w _ _).alloc (by simp; omega) _⟩
  unfold layM layB
  unfold ShT.v ShT.cs FdOf.v FdOf.cs at *
  generalize t.sh = q1 at *
  generalize t.k = q2 at *
  generalize t.n = q3 at *
  generalize t.op = q4 at *
  generalize t.of.length = q5 at *
  generalize t.oc = q6 at *
  generalize t.fp = q7 at *
  generalize t.fs.length = q8 at *
  generalize t.fc = q9 at *
  generalize t.pk = pk at *
  generalize t.al = q10 at *
  generalize f.bits = bi at *
  by_cases hb : bi < 0
  · rw [if_neg (show ¬ 0 ≤ bi by omega)]
    have HU1 := veil (unveil HU 8 (by omega) (by omega))
    have HU2 := veil (unveil HU (8 * a) (by omega) (by omega))
    clear HU
    cases pk
    · go_enter Try.func84, Try.ntmps84
      go_upto_region 1 with fail
      generalize (World.alloc _ (.cells #[.int .i64 z, .int .i64 a, .bool bg, v] 32)) = W0 at HW0 ⊢
      obtain ⟨y0, y1, y2, y3, hb0⟩ := unveil HW0
      have HB0 := veil hb0
      clear HW0 hb0
      go_wp2_with (go_at_call 85; refine (unveil HU2 _).mono ?_; rintro e w' ⟨rfl, hw'⟩; obtain rfl := hw'.symm)
      go_ret
      exact ⟨by simp, unveil HB0⟩
    · go_enter Try.func84, Try.ntmps84
      go_upto_region 1 with fail
      generalize (World.alloc _ (.cells #[.int .i64 z, .int .i64 a, .bool bg, v] 32)) = W0 at HW0 ⊢
      obtain ⟨y0, y1, y2, y3, hb0⟩ := unveil HW0
      have HB0 := veil hb0
      clear HW0 hb0
      go_wp2_with (go_at_call 85; refine (unveil HU1 _).mono ?_; rintro e w' ⟨rfl, hw'⟩; obtain rfl := hw'.symm)
      go_ret
      exact ⟨by simp, unveil HB0⟩
  · have hb' : 0 ≤ bi := by omega
    obtain ⟨g1, g2, g3⟩ := h5 hb'
    rw [if_pos hb']
    have HU1 := veil (unveil HU (8 * z) (by omega) (by omega))
    clear HU h5
    simp only
    have hz : ¬ 8 * z = 0 := by omega
    by_cases h0 : bi = 0
    · subst h0
      go_enter Try.func84, Try.ntmps84
      go_upto_region 1 with fail
      generalize (World.alloc _ (.cells #[.int .i64 z, .int .i64 a, .bool bg, v] 32)) = W0 at HW0 ⊢
      obtain ⟨y0, y1, y2, y3, hb0⟩ := unveil HW0
      have HB0 := veil hb0
      clear HW0 hb0
      go_upto_region 7 with fail
      go_quiet (fail)
      go_wp2_with (go_at_call 85; refine (unveil HU1 _).mono ?_; rintro e w' ⟨rfl, hw'⟩; obtain rfl := hw'.symm)
      go_ret
      exact ⟨by simp, below_drewS (unveil HB0) _⟩
    · have h0' : (bi == 0) = false := by simpa using h0
      have hcr0 : (en / (8 * z) != (en + bi - 1).tdiv (8 * z)) = (en / (8 * z) != (en + bi - 1) / (8 * z)) := by
        rw [Int.tdiv_eq_ediv_of_nonneg (by omega)]
      rw [hcr0]
      clear hcr0
      cases pk
      · cases hcr : (en / (8 * z) != (en + bi - 1) / (8 * z))
        all_goals
          simp only [h0', Bool.false_or, Bool.true_and, Bool.not_false, Bool.false_and, Bool.false_eq_true, if_true, if_false]
          go_enter Try.func84, Try.ntmps84
          go_upto_region 1 with fail
          generalize (World.alloc _ (.cells #[.int .i64 z, .int .i64 a, .bool bg, v] 32)) = W0 at HW0 ⊢
          obtain ⟨y0, y1, y2, y3, hb0⟩ := unveil HW0
          have HB0 := veil hb0
          clear HW0 hb0
          go_upto_region 7 with fail
          go_quiet (fail)
          go_wp2_with (go_at_call 85; refine (unveil HU1 _).mono ?_; rintro e w' ⟨rfl, hw'⟩; obtain rfl := hw'.symm)
          go_ret
          exact ⟨by simp [h0], below_drewS (unveil HB0) _⟩
      · go_enter Try.func84, Try.ntmps84
        go_upto_region 1 with fail
        generalize (World.alloc _ (.cells #[.int .i64 z, .int .i64 a, .bool bg, v] 32)) = W0 at HW0 ⊢
        obtain ⟨y0, y1, y2, y3, hb0⟩ := unveil HW0
        have HB0 := veil hb0
        clear HW0 hb0
        go_upto_region 7 with fail
        go_quiet (fail)
        go_wp2_with fail
        go_ret
        exact ⟨by simp [h0], below_drewS (unveil HB0) _⟩
end Go.Proofs.Ytgomlfaekfabpaa
