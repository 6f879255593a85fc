/-
  Package kind: kind of a tally, Of.
-/
import Derived.Test.YtmpkgjonbjpohaaGreatDoorHj
namespace Go.Proofs.YtmpkgjonbjpohaaGreatDoor
open Go Go.RowKit Go.Shelf
set_option linter.unusedVariables false
set_option linter.unusedSimpArgs false

set_option maxRecDepth 100000 in
set_option maxHeartbeats 8000000 in
theorem kindT_any (t : Ty) (w : World) : Calls Tryz.prog 138 #[.agg t.cells] w fun e w' => e = .returned (.int .i64 t.kin) ∧ Below w.heap.size w w' := by
  have HB : Hid (Below w.heap.size w (w.alloc (.cells t.cells 171))) := (Below.refl _ w).alloc (Nat.le_refl _) _
  have b0 : TBox (w.alloc (.cells t.cells 171)) w.heap.size t := World.alloc_heap_new w _
  have HX := veil b0
  clear b0
  have HE := veil either_any
  obtain ⟨K, hK⟩ : ∃ K, t.kin = K := ⟨_, rfl⟩
  rw [hK]
  have HK := veil hK
  clear hK
  unfold Ty.kin at HK
  obtain ⟨c, s, l, i, g, u⟩ := t
  simp only [Ty.cells] at *
  cases hu : decide (0 < u)
  · cases hc : decide (0 < c)
    · cases hs : decide (0 < s)
      · cases hl : decide (0 < l)
        · go_enter Tryz.func138, Tryz.ntmps138
          go_upto_region 1 with fail
          generalize w.alloc (.cells #[.int .i64 c, .int .i64 s, .int .i64 l, .int .i64 i, .int .i64 g, .int .i64 u] 171) = W1 at HX HB ⊢
          obtain ⟨x0, x1, x2, x3, x4, x5⟩ := (unveil HX).six
          simp only at x0 x1 x2 x3 x4 x5
          go_wp2_with (go_at_call 158; refine (unveil HE _ _ _ _).mono ?_; rintro e w' ⟨rfl, hw'⟩; obtain rfl := hw'.symm; simp only [if_true, Bool.false_eq_true, if_false])
          go_ret
          refine ⟨?_, unveil HB⟩
          rw [← unveil HK]
          simp only [decide_eq_true_eq, decide_eq_false_iff_not] at *
          simp [*]
        · go_enter Tryz.func138, Tryz.ntmps138
          go_upto_region 1 with fail
          generalize w.alloc (.cells #[.int .i64 c, .int .i64 s, .int .i64 l, .int .i64 i, .int .i64 g, .int .i64 u] 171) = W1 at HX HB ⊢
          obtain ⟨x0, x1, x2, x3, x4, x5⟩ := (unveil HX).six
          simp only at x0 x1 x2 x3 x4 x5
          go_wp2_with (go_at_call 158; refine (unveil HE _ _ _ _).mono ?_; rintro e w' ⟨rfl, hw'⟩; obtain rfl := hw'.symm; simp only [if_true, Bool.false_eq_true, if_false])
          go_ret
          refine ⟨?_, unveil HB⟩
          rw [← unveil HK]
          simp only [decide_eq_true_eq, decide_eq_false_iff_not] at *
          simp [*]
      · go_enter Tryz.func138, Tryz.ntmps138
        go_upto_region 1 with fail
        generalize w.alloc (.cells #[.int .i64 c, .int .i64 s, .int .i64 l, .int .i64 i, .int .i64 g, .int .i64 u] 171) = W1 at HX HB ⊢
        obtain ⟨x0, x1, x2, x3, x4, x5⟩ := (unveil HX).six
        simp only at x0 x1 x2 x3 x4 x5
        go_wp2_with (go_at_call 158; refine (unveil HE _ _ _ _).mono ?_; rintro e w' ⟨rfl, hw'⟩; obtain rfl := hw'.symm; simp only [if_true, Bool.false_eq_true, if_false])
        go_ret
        refine ⟨?_, unveil HB⟩
        rw [← unveil HK]
        simp only [decide_eq_true_eq, decide_eq_false_iff_not] at *
        simp [*]
    · go_enter Tryz.func138, Tryz.ntmps138
      go_upto_region 1 with fail
      generalize w.alloc (.cells #[.int .i64 c, .int .i64 s, .int .i64 l, .int .i64 i, .int .i64 g, .int .i64 u] 171) = W1 at HX HB ⊢
      obtain ⟨x0, x1, x2, x3, x4, x5⟩ := (unveil HX).six
      simp only at x0 x1 x2 x3 x4 x5
      go_wp2_with (go_at_call 158; refine (unveil HE _ _ _ _).mono ?_; rintro e w' ⟨rfl, hw'⟩; obtain rfl := hw'.symm; simp only [if_true, Bool.false_eq_true, if_false])
      go_ret
      refine ⟨?_, unveil HB⟩
      rw [← unveil HK]
      simp only [decide_eq_true_eq, decide_eq_false_iff_not] at *
      simp [*]
  · cases hc : decide (0 < c)
    · cases hs : decide (0 < s)
      · cases hl : decide (0 < l)
        · go_enter Tryz.func138, Tryz.ntmps138
          go_upto_region 1 with fail
          generalize w.alloc (.cells #[.int .i64 c, .int .i64 s, .int .i64 l, .int .i64 i, .int .i64 g, .int .i64 u] 171) = W1 at HX HB ⊢
          obtain ⟨x0, x1, x2, x3, x4, x5⟩ := (unveil HX).six
          simp only at x0 x1 x2 x3 x4 x5
          go_wp2_with (go_at_call 158; refine (unveil HE _ _ _ _).mono ?_; rintro e w' ⟨rfl, hw'⟩; obtain rfl := hw'.symm; simp only [if_true, Bool.false_eq_true, if_false])
          go_ret
          refine ⟨?_, unveil HB⟩
          rw [← unveil HK]
          simp only [decide_eq_true_eq, decide_eq_false_iff_not] at *
          simp [*]
        · go_enter Tryz.func138, Tryz.ntmps138
          go_upto_region 1 with fail
          generalize w.alloc (.cells #[.int .i64 c, .int .i64 s, .int .i64 l, .int .i64 i, .int .i64 g, .int .i64 u] 171) = W1 at HX HB ⊢
          obtain ⟨x0, x1, x2, x3, x4, x5⟩ := (unveil HX).six
          simp only at x0 x1 x2 x3 x4 x5
          go_wp2_with (go_at_call 158; refine (unveil HE _ _ _ _).mono ?_; rintro e w' ⟨rfl, hw'⟩; obtain rfl := hw'.symm; simp only [if_true, Bool.false_eq_true, if_false])
          go_ret
          refine ⟨?_, unveil HB⟩
          rw [← unveil HK]
          simp only [decide_eq_true_eq, decide_eq_false_iff_not] at *
          simp [*]
      · go_enter Tryz.func138, Tryz.ntmps138
        go_upto_region 1 with fail
        generalize w.alloc (.cells #[.int .i64 c, .int .i64 s, .int .i64 l, .int .i64 i, .int .i64 g, .int .i64 u] 171) = W1 at HX HB ⊢
        obtain ⟨x0, x1, x2, x3, x4, x5⟩ := (unveil HX).six
        simp only at x0 x1 x2 x3 x4 x5
        go_wp2_with (go_at_call 158; refine (unveil HE _ _ _ _).mono ?_; rintro e w' ⟨rfl, hw'⟩; obtain rfl := hw'.symm; simp only [if_true, Bool.false_eq_true, if_false])
        go_ret
        refine ⟨?_, unveil HB⟩
        rw [← unveil HK]
        simp only [decide_eq_true_eq, decide_eq_false_iff_not] at *
        simp [*]
    · go_enter Tryz.func138, Tryz.ntmps138
      go_upto_region 1 with fail
      generalize w.alloc (.cells #[.int .i64 c, .int .i64 s, .int .i64 l, .int .i64 i, .int .i64 g, .int .i64 u] 171) = W1 at HX HB ⊢
      obtain ⟨x0, x1, x2, x3, x4, x5⟩ := (unveil HX).six
      simp only at x0 x1 x2 x3 x4 x5
      go_wp2_with (go_at_call 158; refine (unveil HE _ _ _ _).mono ?_; rintro e w' ⟨rfl, hw'⟩; obtain rfl := hw'.symm; simp only [if_true, Bool.false_eq_true, if_false])
      go_ret
      refine ⟨?_, unveil HB⟩
      rw [← unveil HK]
      simp only [decide_eq_true_eq, decide_eq_false_iff_not] at *
      simp [*]
/-- The kind that words say, or the error. -/
def kofM (l : List (List UInt8)) : Int × Int := if (cntM zTy l).2 && decide (0 < l.length) && (cntM zTy l).1.tog then ((cntM zTy l).1.kin, 0) else (0, 80)
set_option maxRecDepth 100000 in
set_option maxHeartbeats 8000000 in
theorem Of_any (p : Option Addr) (cap : Nat) (l : List (List UInt8)) (w : World) (hl : l.length ≤ 9223372036854775806) (hT : StG w.heap.size w (.slice p l.length cap) l) (hmo : Mo w) (hw0 : 10 < w.heap.size) :
    Calls Tryz.prog 125 #[.slice p l.length cap] w fun e w' => e = .returned (.tuple #[.int .i64 (kofM l).1, .int .i64 (kofM l).2]) ∧ Below w.heap.size w w' := by
  have HC := veil (count_any p cap l w hl hT hmo hw0)
  clear hT hmo hw0 hl
  unfold kofM
  generalize cntM zTy l = R at *
  obtain ⟨T, k⟩ := R
  generalize decide (0 < l.length) = D at *
  simp only at *
  have HTG := veil (together_any T)
  have HKI := veil (kindT_any T)
  generalize T.tog = TG at *
  generalize T.kin = KI at *
  obtain ⟨c, s, tl, i, g, u⟩ := T
  simp only [Ty.cells] at *
  cases hk : k && D
  · rw [hk] at HC
    clear hk HTG HKI
    go_enter Tryz.func125, Tryz.ntmps125
    go_wp2_with (go_at_call 136; refine (unveil HC).mono ?_; rintro e W1 ⟨rfl, hb1⟩)
    go_ret2
    exact ⟨rfl, hb1.alloc hb1.size _⟩
  · rw [hk] at HC
    clear hk
    cases TG
    · go_enter Tryz.func125, Tryz.ntmps125
      go_wp2_with (first
        | (go_at_call 136; refine (unveil HC).mono ?_; rintro e W1 ⟨rfl, hb1⟩)
        | (go_at_call 137; refine (unveil HTG _).mono ?_; rintro e W2 ⟨rfl, hb2⟩))
      go_ret2
      exact ⟨rfl, (hb1.alloc hb1.size _).trans (hb2.mono (by have := hb1.size; simp; omega))⟩
    · go_enter Tryz.func125, Tryz.ntmps125
      go_wp2_with (first
        | (go_at_call 136; refine (unveil HC).mono ?_; rintro e W1 ⟨rfl, hb1⟩)
        | (go_at_call 137; refine (unveil HTG _).mono ?_; rintro e W2 ⟨rfl, hb2⟩
           have e1 := hb2.cell (p := ⟨W1.heap.size, 0, none⟩) (by simp)
           have e2 := hb2.cell (p := ⟨W1.heap.size, 1, none⟩) (by simp)
           have e3 := hb2.cell (p := ⟨W1.heap.size, 2, none⟩) (by simp)
           have e4 := hb2.cell (p := ⟨W1.heap.size, 3, none⟩) (by simp)
           have e5 := hb2.cell (p := ⟨W1.heap.size, 4, none⟩) (by simp)
           have e6 := hb2.cell (p := ⟨W1.heap.size, 5, none⟩) (by simp))
        | (go_at_call 138; refine (unveil HKI _).mono ?_; rintro e W3 ⟨rfl, hb3⟩))
      go_ret2
      have hs := hb1.size
      have hs2 := hb2.size
      simp at hs2
      exact ⟨rfl, ((hb1.alloc hb1.size _).trans (hb2.mono (by simp; omega))).trans (hb3.mono (by omega))⟩
end Go.Proofs.YtmpkgjonbjpohaaGreatDoor
