/-
  Package lex: first.
-/
import Derived.Test.YtmpkgjonbjpohaaGreatDoorXg
namespace Go.Proofs.YtmpkgjonbjpohaaGreatDoor
open Go Go.RowKit
set_option linter.unusedVariables false
set_option linter.unusedSimpArgs false

/-- The word that tokens begin with, of how many it comes, and whether it is one. -/
def fiM : List Gt → Wd × Nat × Bool
  | [] => (zW, 0, false)
  | t :: r => if t.kind == 4 then txM t [] (t :: r) else (plM (siM t).1 t, 1, (siM t).2)
set_option maxRecDepth 100000 in
set_option maxHeartbeats 8000000 in
theorem first_any (p : Option Addr) (cap : Nat) (a : Gt) (tl : List Gt) (w : World) (hl : (a :: tl).length ≤ 1000000) (hT : TkG w.heap.size w (.slice p (a :: tl).length cap) (a :: tl)) (hok : ∀ t ∈ a :: tl, TokOK t) (hw : 10 < w.heap.size) (hg : Eg w) (hsg : Sg w) :
    Calls Tryz.prog 107 #[.slice p (a :: tl).length cap] w fun e w' => e = .returned (.tuple #[wdV (fiM (a :: tl)).1, .int .i64 ((fiM (a :: tl)).2.1 : Nat), .bool (fiM (a :: tl)).2.2]) ∧ Below w.heap.size w w' := by
  obtain ⟨R, hR⟩ : ∃ R, fiM (a :: tl) = R := ⟨_, rfl⟩
  rw [hR]
  rw [fiM] at hR
  have HR := hide hR.symm
  have hb0 : Below w.heap.size w (w.alloc (.cells (wdC zW).toArray 42)) := below_new w _
  have HW0 : Hid (WBox (w.alloc (.cells (wdC zW).toArray 42)) w.heap.size zW) := WBox.new w zW
  have hz0 : (w.alloc (.cells (wdC zW).toArray 42)).heap.size = w.heap.size + 1 := by simp
  have hT0 := hT.below hb0
  have hg0 := hg.below hb0 hw
  have hsg0 := Sg.below hsg hb0 hw
  have hoa := hok a (by simp)
  have HB0 := hide hb0
  simp only [wdC, zW] at HW0 hz0 hT0 hg0 hsg0 HB0
  obtain ⟨n, hn⟩ : ∃ n, (a :: tl).length = n := ⟨_, rfl⟩
  have hn0 : 0 < n := by rw [← hn]; simp
  have hlen : (0 : Int) < (n : Int) := by omega
  have HN := hide hn
  rw [hn]
  clear hR hb0 hg hsg hT hn
  go_enter Tryz.func107, Tryz.ntmps107
  go_upto_region 1 with fail
  generalize (w.alloc _ : World) = W0 at *
  have HT0 := hide hT0
  obtain ⟨p', cap', hp, hc⟩ := hT0
  obtain ⟨g, o, hp2, hgB, a0, a1, a2, a3, a4, a5⟩ := hc 0 (by simp)
  simp only [List.getElem_cons_zero, Nat.zero_mul, Nat.add_zero] at a0 a1 a2 a3 a4 a5
  obtain rfl : p = some ⟨g, o, none⟩ := by simp at hp; rw [hp.1, hp2]
  have hZ0 := hide hz0
  have HTX := hide (text_any (some ⟨g, o, none⟩) cap a tl W0 hl ((unhide HT0).mono (by omega)) hok (by omega) hg0 hsg0)
  rw [unhide HN] at HTX
  have HSI := hide (single_any a hoa W0 (by omega) hg0 hsg0)
  have hpl := fun W => placed_any (siM a).1 a W
  have hgw : w.heap.size + 1 ≤ W0.heap.size := by omega
  clear hz0 hc hp hp2 hok hoa hg0 hsg0 hl HT0
  cases h4 : a.kind == 4
  · have HR2 := unhide HR
    simp only [h4, Bool.false_eq_true, if_false] at HR2
    have HR3 := hide HR2
    clear HR2 HR HTX
    generalize siM a = S at *
    obtain ⟨⟨sk, ss, sv, st, sf, sl⟩, ok⟩ := S
    simp only [wdV, wdC, gtV, gtC, plM] at hpl HSI HR3
    have HPL := hide hpl
    have HA := hide (And.intro a0 (And.intro a1 (And.intro a2 (And.intro a3 (And.intro a4 a5)))))
    clear hpl
    go_upto_region 3 with fail
    go_upto_region 4 with (go_at_call 131; refine (unhide HSI).mono ?_; rintro e W1 ⟨rfl, hb1⟩)
    have hq1 : WBox (W1.alloc (.cells #[.int .i64 sk, .string ⟨ss.toArray⟩, .int .i64 sv, .int .i64 st, .string ⟨sf.toArray⟩, .int .i64 sl] 42)) W1.heap.size ⟨sk, ss, sv, st, sf, sl⟩ := WBox.new W1 ⟨sk, ss, sv, st, sf, sl⟩
    have hb2 : Below W0.heap.size W0 (W1.alloc (.cells #[.int .i64 sk, .string ⟨ss.toArray⟩, .int .i64 sv, .int .i64 st, .string ⟨sf.toArray⟩, .int .i64 sl] 42)) := hb1.alloc hb1.size _
    have hz1 := hb1.size
    clear hb1
    generalize (W1.alloc _ : World) = W2 at *
    generalize W1.heap.size = m at *
    have e0 := (hb2.cell (p := ⟨g, o, none⟩) (by show g < _; omega)).trans (unhide HA).1
    have e1 := (hb2.cell (p := ⟨g, o + 1, none⟩) (by show g < _; omega)).trans (unhide HA).2.1
    have e2 := (hb2.cell (p := ⟨g, o + 2, none⟩) (by show g < _; omega)).trans (unhide HA).2.2.1
    have e3 := (hb2.cell (p := ⟨g, o + 3, none⟩) (by show g < _; omega)).trans (unhide HA).2.2.2.1
    have e4 := (hb2.cell (p := ⟨g, o + 4, none⟩) (by show g < _; omega)).trans (unhide HA).2.2.2.2.1
    have e5 := (hb2.cell (p := ⟨g, o + 5, none⟩) (by show g < _; omega)).trans (unhide HA).2.2.2.2.2
    have HQW := hide ((unhide HW0).below hb2 (by have := (unhide HW0).lt; omega))
    have HB2 := hide ((unhide HB0).trans (hb2.mono (by omega)))
    obtain ⟨m0, m1, m2, m3, m4, m5⟩ := WBox.six hq1
    clear a0 a1 a2 a3 a4 a5 hb2 HSI hq1 HA HW0 HB0
    go_region_with (go_at_call 132; refine (unhide HPL _).mono ?_; rintro e W3 ⟨rfl, hb3⟩; have q := (show WBox W2.drew _ _ from unhide HQW).below hb3 (unhide HQW).lt; have qz0 := WBox.frozen q 0; have qz1 := WBox.frozen q 1; have qz2 := WBox.frozen q 2; have qz3 := WBox.frozen q 3; have qz4 := WBox.frozen q 4; have qz5 := WBox.frozen q 5; obtain ⟨q0, q1, q2, q3, q4, q5⟩ := WBox.six q; have Q := hide q; have QB := hide ((drewB (unhide HB2)).trans (hb3.mono (drewB (unhide HB2)).size)); clear q hb3)
    all_goals (
      go_wp2
      refine bodyPost_ret (res_wtt (f := Tryz.f107) rfl rfl (sixw_set (unhide Q) _ _ _ _ _ _) rfl) rfl ⟨by rw [unhide HR3]; rfl, below_put6 (unhide QB) (Nat.le_refl _) _ _ _ _ _ _⟩)
  · have HR2 := unhide HR
    simp only [h4, if_true] at HR2
    have HR3 := hide HR2
    clear HR2 HR HSI hpl
    generalize txM a [] (a :: tl) = S at *
    obtain ⟨⟨sk, ss, sv, st, sf, sl⟩, nn, ok⟩ := S
    simp only [wdV, wdC] at HTX HR3
    go_wp2_with (go_at_call 130; refine (unhide HTX).mono ?_; rintro e W3 ⟨rfl, hb3⟩; have q := (unhide HW0).below hb3 (unhide HW0).lt; have qz0 := WBox.frozen q 0; have qz1 := WBox.frozen q 1; have qz2 := WBox.frozen q 2; have qz3 := WBox.frozen q 3; have qz4 := WBox.frozen q 4; have qz5 := WBox.frozen q 5; obtain ⟨q0, q1, q2, q3, q4, q5⟩ := WBox.six q; have Q := hide q; have QB := hide ((unhide HB0).trans (hb3.mono (unhide HB0).size)); clear q hb3)
    refine bodyPost_ret (res_wtt (f := Tryz.f107) rfl rfl (sixw_set (unhide Q) _ _ _ _ _ _) rfl) rfl ⟨by rw [unhide HR3]; rfl, below_put6 (unhide QB) (Nat.le_refl _) _ _ _ _ _ _⟩
end Go.Proofs.YtmpkgjonbjpohaaGreatDoor
