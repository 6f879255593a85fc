/-
  Package macro: clone.
-/
import Derived.Test.YticiddcgafhkhaaGreatDoorVz
import Derived.Test.YticiddcgafhkhaaGreatDoorUg
import Derived.Deep.RegionWith
import Derived.Deep.DeepCutAuto
namespace Go.Proofs.YticiddcgafhkhaaGreatDoor
open Go Go.RowKit
set_option linter.unusedVariables false
set_option linter.unusedSimpArgs false

theorem res44 {tmps : Array Value} {w : World} {R : Nat} {cs : Array Value} (hp : tmps.getD 2 undef = .pointer (some ⟨R, 0, none⟩)) (hg : w.heap[R]? = some (.cells cs 33 (0, 0))) (hz : cs.size = 5) :
    (results Tryz.f24 tmps).run Tryz.prog w = .ok (.agg cs) w := by
  have hr : Tryz.f24.results = #[.cell 2 33] := rfl
  have hi : (Tryz.prog.info? 33).map (·.size) = some cs.size := by rw [hz]; kernel_rfl
  have hp' : tmps[2]?.getD undef = .pointer (some ⟨R, 0, none⟩) := by simpa using hp
  simp [results, hr, hp', asAddr, run_loadVar_row w R 33 33 cs (0, 0) _ hg Tryz.underlying33 rfl hi]

theorem row_slice {W : World} {base n size : Nat} {e : TypeId} {v : Value} {xs : List Value} (h : W.ownsRow base e size v n xs) : ∃ q c, v = .slice q n c := by
  rcases h.2 with ⟨rfl, h0⟩ | ⟨g, cap, cur, rfl, _⟩
  · exact ⟨none, 0, by rw [h0]⟩
  · exact ⟨_, _, rfl⟩
set_option maxRecDepth 100000 in
set_option maxHeartbeats 8000000 in
theorem clone_any (Nm : ByteArray) (pv bv : Value) (fn more : Bool) (ps : List (List UInt8)) (body : List Gt) (w : World) (h1 : ps.length * 16 ≤ 140737488355328) (h2 : body.length * 56 ≤ 140737488355328)
    (hp : StG w.heap.size w pv ps) (ht : TkG w.heap.size w bv body) :
    Calls Tryz.prog 24 #[.agg #[.string Nm, .bool fn, pv, .bool more, bv]] w fun e w' => ∃ pv' bv', e = .returned (.agg #[.string Nm, .bool fn, pv', .bool more, bv']) ∧ w'.ownsRow w.heap.size 9 1 pv' ps.length (sCells ps) ∧ w'.ownsRow w.heap.size 74 6 bv' body.length (gCells body) ∧ Below w.heap.size w w' := by
  have HS : Hid (∀ W, Below w.heap.size w W → Calls Tryz.prog 42 #[pv] W fun e w' => ∃ v', e = .returned v' ∧ W.heap.size ≤ w'.heap.size ∧ w'.ownsRow W.heap.size 9 1 v' ps.length (sCells ps) ∧ Below W.heap.size W w') := fun W hb =>
    (CloneS_any pv ps W h1 ((hp.below hb).mono hb.size)).mono (fun e w' ⟨v', a, b, c⟩ => ⟨v', a, c.size, b, c⟩)
  have HT : Hid (∀ W, Below w.heap.size w W → Calls Tryz.prog 35 #[bv] W fun e w' => ∃ v', e = .returned v' ∧ W.heap.size ≤ w'.heap.size ∧ w'.ownsRow W.heap.size 74 6 v' body.length (gCells body) ∧ Below W.heap.size W w') := fun W hb =>
    (CloneT_any bv body W h2 ((ht.below hb).mono hb.size)).mono (fun e w' ⟨v', a, b, c⟩ => ⟨v', a, c.size, b, c⟩)
  clear hp ht h1 h2
  let W0 : World := (w.alloc (.cells #[.string Nm, .bool fn, pv, .bool more, bv] 33)).alloc (.cells #[.string ⟨#[]⟩, .bool false, .slice none 0 0, .bool false, .slice none 0 0] 33)
  have hz1 : (w.alloc (.cells #[.string Nm, .bool fn, pv, .bool more, bv] 33)).heap.size = w.heap.size + 1 := by simp
  have hz0 : W0.heap.size = w.heap.size + 2 := by simp [W0]
  have hB0 : Below w.heap.size w W0 := ((Below.refl _ w).alloc (Nat.le_refl _) _).alloc (by rw [hz1]; omega) _
  have hm : MBox W0 w.heap.size (.string Nm) fn pv more bv := by
    have a : MBox (w.alloc (.cells #[.string Nm, .bool fn, pv, .bool more, bv] 33)) w.heap.size (.string Nm) fn pv more bv := World.alloc_heap_new w _
    exact a.below ((Below.refl _ _).alloc (Nat.le_refl _) _) (by rw [hz1]; omega)
  have hz : MBox W0 (w.heap.size + 1) (.string ⟨#[]⟩) false (.slice none 0 0) false (.slice none 0 0) := by
    have a := World.alloc_heap_new (w.alloc (.cells #[.string Nm, .bool fn, pv, .bool more, bv] 33)) (.cells #[.string ⟨#[]⟩, .bool false, .slice none 0 0, .bool false, .slice none 0 0] 33)
    rw [hz1] at a
    exact a
  have HB0 : Hid (Below w.heap.size w W0.drew) := below_drewK hB0 1
  have HM0 : Hid (MBox W0.drew w.heap.size (.string Nm) fn pv more bv) := hm
  have HZ0 : Hid (MBox W0.drew (w.heap.size + 1) (.string ⟨#[]⟩) false (.slice none 0 0) false (.slice none 0 0)) := hz
  have HI0 : Hid (W0.drew.heap.size = w.heap.size + 2) := hz0
  clear hz0 hB0 hm hz hz1
  go_enter Tryz.func24, Tryz.ntmps24
  go_upto_region 1 with fail
  go_region_with (first
    | (go_at_call 42
       refine (unhide HS W0.drew (unhide HB0)).mono ?_
       rintro e W1 ⟨v1, rfl, hs1, hr1, hb1⟩
       obtain ⟨q1, k1, rfl⟩ := row_slice hr1
       have hs1' : w.heap.size + 2 ≤ W1.heap.size := (unhide HI0) ▸ hs1
       have HR1 : Hid (W1.ownsRow (w.heap.size + 2) 9 1 (.slice q1 ps.length k1) ps.length (sCells ps)) := (unhide HI0) ▸ hr1
       have HB1 : Hid (Below w.heap.size w W1) := (unhide HB0).trans (hb1.mono (unhide HB0).size)
       have HM1 : Hid (MBox W1 w.heap.size (.string Nm) fn pv more bv) := (unhide HM0).below hb1 (by rw [unhide HI0]; omega)
       have HZ1 : Hid (MBox W1 (w.heap.size + 1) (.string ⟨#[]⟩) false (.slice none 0 0) false (.slice none 0 0)) := (unhide HZ0).below hb1 (by rw [unhide HI0]; omega)
       obtain ⟨c0, c1, c2, c3, c4⟩ := (unhide HM1).five
       clear hs1 hr1 hb1)
    | (go_at_call 35
       refine (unhide HT W1 (unhide HB1)).mono ?_
       rintro e W2 ⟨v2, rfl, hs2, hr2, hb2⟩
       obtain ⟨q2, k2, rfl⟩ := row_slice hr2
       have hs2' : w.heap.size + 2 ≤ W2.heap.size := Nat.le_trans hs1' hs2
       have HR1 := hide (ownsRow_bel (unhide HR1) hb2)
       have HR2 : Hid (W2.ownsRow (w.heap.size + 2) 74 6 (.slice q2 body.length k2) body.length (gCells body)) := ownsRow_base hr2 hs1'
       have HB2 : Hid (Below w.heap.size w W2) := (unhide HB1).trans (hb2.mono (unhide HB1).size)
       have hM2 := (unhide HM1).below hb2 (by omega)
       have hZ2 := (unhide HZ1).below hb2 (by omega)
       have f2 := hM2.frozen 2
       have f4 := (hM2.set2 (.slice q1 ps.length k1)).frozen 4
       obtain ⟨d0, d1, d2, d3, d4⟩ := hM2.five
       obtain ⟨e0, e1, e2, e3, e4⟩ := (hM2.set2 (.slice q1 ps.length k1)).five
       have hM3 := (hM2.set2 (.slice q1 ps.length k1)).set4 (.slice q2 body.length k2)
       have HM2 := hide hM2
       have HZ2 := hide hZ2
       obtain ⟨g0, g1, g2, g3, g4⟩ := hM3.five
       clear hs2 hr2 hb2 hM2 hZ2 hM3))
  all_goals (
    have hM3 := ((unhide HM2).set2 (.slice q1 ps.length k1)).set4 (.slice q2 body.length k2)
    have hZ3 := ((unhide HZ2).setCell (b := w.heap.size) (i := 2) (by omega) (.slice q1 ps.length k1)).setCell (b := w.heap.size) (i := 4) (by omega) (.slice q2 body.length k2)
    have HRa := hide (ownsRow_setCell (b := w.heap.size) (i := 4) (ownsRow_setCell (b := w.heap.size) (i := 2) (unhide HR1) (by omega) (.slice q1 ps.length k1)) (by omega) (.slice q2 body.length k2))
    have HRb := hide (ownsRow_setCell (b := w.heap.size) (i := 4) (ownsRow_setCell (b := w.heap.size) (i := 2) (unhide HR2) (by omega) (.slice q1 ps.length k1)) (by omega) (.slice q2 body.length k2))
    have HB3 := hide (((unhide HB2).setCell (p := ⟨w.heap.size, 2, none⟩) (Nat.le_refl _) (.slice q1 ps.length k1)).setCell (p := ⟨w.heap.size, 4, none⟩) (Nat.le_refl _) (.slice q2 body.length k2))
    clear g0 g1 g2 g3 g4 e0 e1 e2 e3 e4 d0 d1 d2 d3 d4 f2 f4 c0 c1 c2 c3 c4 HM2 HZ2 HR1 HR2 HB2 HM1 HZ1 HB1 HM0 HZ0 HB0 HI0 HS HT
    generalize (W2.setCell ⟨w.heap.size, 2, none⟩ (.slice q1 ps.length k1)).setCell ⟨w.heap.size, 4, none⟩ (.slice q2 body.length k2) = W3 at *
    obtain ⟨c0, c1, c2, c3, c4⟩ := hM3.five
    obtain ⟨m0, m1, m2, m3, m4⟩ := hZ3.five
    have n0 := hZ3.frozen 0
    have n1 := hZ3.frozen 1
    have n2 := hZ3.frozen 2
    have n3 := hZ3.frozen 3
    have n4 := hZ3.frozen 4
    have HZ3 := hide hZ3
    clear hZ3 hM3
    go_wp2
    refine bodyPost_ret (res44 rfl ((unhide HZ3).put _ _ _ _ _) rfl) rfl ⟨_, _, rfl, ?_, ?_, below_put5 (unhide HB3) (Nat.le_succ _) _ _ _ _ _⟩
    · exact ownsRow_base (row_put5 (unhide HRa) (by omega) _ _ _ _ _) (by omega)
    · exact ownsRow_base (row_put5 (unhide HRb) (by omega) _ _ _ _ _) (by omega))
end Go.Proofs.YticiddcgafhkhaaGreatDoor
