/-
  Package lex: number.
-/
import Derived.Test.YtmpkgjonbjpohaaGreatDoorXb
namespace Go.Proofs.YtmpkgjonbjpohaaGreatDoor
open Go Go.RowKit
set_option linter.unusedVariables false
set_option linter.unusedSimpArgs false

/-- The word that a number comes to, and whether it has a kind. -/
def numW (s : List UInt8) : Wd × Bool := if (numM s).2 then (⟨3, [], wrap64 (numM s).1.b, kindM (numM s).1.b s, [], 0⟩, kindM (numM s).1.b s != 0) else (zW, false)
set_option maxRecDepth 100000 in
set_option maxHeartbeats 4000000 in
theorem number_any (s : List UInt8) (hs : s.length ≤ 140737488355328) (w : World) (hw : 10 < w.heap.size) (hg : Eg w) (hne : (numM s).2 = true → s ≠ [] ∧ CaOK s 117 85 ∧ CaOK s 108 76) :
    Calls Tryz.prog 150 #[.string ⟨s.toArray⟩] w fun e w' => e = .returned (.tuple #[wdV (numW s).1, .bool (numW s).2]) ∧ Below w.heap.size w w' := by
  have hb0 := below_new w (.cells (wdC zW).toArray 42)
  have HN := hide (Number_any s hs (w.alloc (.cells (wdC zW).toArray 42)) (Nat.lt_of_lt_of_le hw hb0.size) (hg.below hb0 hw))
  have HK := hide (fun h W => kindOf_any (numM s).1.b s W (hne h).1 (hne h).2.1 (hne h).2.2)
  have HB := hide hb0
  have HW : Hid (WBox (w.alloc (.cells (wdC zW).toArray 42)) w.heap.size zW) := WBox.new w zW
  unfold numW evalV at *
  generalize kindM (numM s).1.b s = K at *
  generalize numM s = Z at *
  obtain ⟨⟨b, u⟩, ok⟩ := Z
  simp only at *
  clear hg hw hs hne hb0
  simp only [wdV, wdC, zW, Vl.v] at *
  cases ok
  · simp only [Bool.false_eq_true, if_false] at *
    go_enter Tryz.func150, Tryz.ntmps150
    go_upto_region 2 with (go_at_call 164; refine (unhide HN).mono ?_; rintro e W1 ⟨rfl, hb1⟩)
    have q := (unhide HW).below hb1 (by simp)
    have QB := hide ((unhide HB).trans (hb1.mono (unhide HB).size))
    have z0 := WBox.frozen q 0
    have z1 := WBox.frozen q 1
    have z2 := WBox.frozen q 2
    have z3 := WBox.frozen q 3
    have z4 := WBox.frozen q 4
    have z5 := WBox.frozen q 5
    obtain ⟨y0, y1, y2, y3, y4, y5⟩ := WBox.six q
    have Q := hide q
    clear q hb1 HN HK HB HW
    go_wp2
    refine bodyPost_ret (res_wt (f := Tryz.f150) rfl rfl (sixw_set (unhide Q) _ _ _ _ _ _) rfl) rfl ⟨rfl, below_put6 (unhide QB) (Nat.le_refl _) _ _ _ _ _ _⟩
  · simp only [if_true] at *
    go_enter Tryz.func150, Tryz.ntmps150
    go_upto_region 4 with (go_at_call 164; refine (unhide HN).mono ?_; rintro e W1 ⟨rfl, hb1⟩)
    go_upto_region 5 with (go_at_call 165; refine (unhide HK trivial _).mono ?_; rintro e W2 ⟨rfl, hb2⟩)
    have q := ((unhide HW).below hb1 (by simp)).below hb2 (Nat.lt_of_lt_of_le (by simp) hb1.size)
    have QB := hide (((unhide HB).trans (hb1.mono (unhide HB).size)).trans (hb2.mono (Nat.le_trans (unhide HB).size hb1.size)))
    have z0 := WBox.frozen q 0
    have z1 := WBox.frozen q 1
    have z2 := WBox.frozen q 2
    have z3 := WBox.frozen q 3
    have z4 := WBox.frozen q 4
    have z5 := WBox.frozen q 5
    obtain ⟨y0, y1, y2, y3, y4, y5⟩ := WBox.six q
    have Q := hide q
    clear q hb1 hb2 HN HK HB HW
    go_wp2
    refine bodyPost_ret (res_wt (f := Tryz.f150) rfl rfl (sixw_set (unhide Q) _ _ _ _ _ _) rfl) rfl ⟨rfl, below_put6 (unhide QB) (Nat.le_refl _) _ _ _ _ _ _⟩
end Go.Proofs.YtmpkgjonbjpohaaGreatDoor
