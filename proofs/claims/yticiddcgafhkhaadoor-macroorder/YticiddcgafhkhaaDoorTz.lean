/-
  Package macro: clone.
  Package macro: the table. New.
  Package macro: Get.
  Package macro: Define of a name that is not there.
-/
import Derived.Test.YticiddcgafhkhaaDoorV6
import Derived.Test.YticiddcgafhkhaaDoorUg
import Derived.Deep.RegionWith
import Derived.Deep.DeepCutAuto
import Derived.Maps.OwnSet
import Derived.StringKeys
import Derived.BigRegion
namespace Go.Proofs.YticiddcgafhkhaaDoor
open Go Go.RowKit
set_option linter.unusedVariables false
set_option linter.unusedSimpArgs false

theorem res44 {tmps : Array Value} {w : World} {R : Nat} {cs : Array Value} (hp : tmps.getD 2 undef = .pointer (some ⟨R, 0, none⟩)) (hg : w.heap[R]? = some (.cells cs 25 (0, 0))) (hz : cs.size = 5) :
    (results Tryd.f44 tmps).run Tryd.prog w = .ok (.agg cs) w := by
  have hr : Tryd.f44.results = #[.cell 2 25] := rfl
  have hi : (Tryd.prog.info? 25).map (·.size) = some cs.size := by rw [hz]; kernel_rfl
  have hp' : tmps[2]?.getD undef = .pointer (some ⟨R, 0, none⟩) := by simpa using hp
  simp [results, hr, hp', asAddr, run_loadVar_row w R 25 25 cs (0, 0) _ hg Tryd.underlying25 rfl hi]

theorem row_slice {W : World} {base n size : Nat} {e : TypeId} {v : Value} {xs : List Value} (h : W.ownsRow base e size v n xs) : ∃ q c, v = .slice q n c := by
  rcases h.2 with ⟨rfl, h0⟩ | ⟨g, cap, cur, rfl, _⟩
  · exact ⟨none, 0, by rw [h0]⟩
  · exact ⟨_, _, rfl⟩
set_option maxRecDepth 100000 in
set_option maxHeartbeats 8000000 in
theorem clone_any (Nm : ByteArray) (pv bv : Value) (fn more : Bool) (ps : List (List UInt8)) (body : List Gt) (w : World) (h1 : ps.length * 16 ≤ 140737488355328) (h2 : body.length * 56 ≤ 140737488355328)
    (hp : StG w.heap.size w pv ps) (ht : TkG w.heap.size w bv body) :
    Calls Tryd.prog 44 #[.agg #[.string Nm, .bool fn, pv, .bool more, bv]] w fun e w' => ∃ pv' bv', e = .returned (.agg #[.string Nm, .bool fn, pv', .bool more, bv']) ∧ w'.ownsRow w.heap.size 9 1 pv' ps.length (sCells ps) ∧ w'.ownsRow w.heap.size 49 6 bv' body.length (gCells body) ∧ Below w.heap.size w w' := by
  have HS : Hid (∀ W, Below w.heap.size w W → Calls Tryd.prog 50 #[pv] W fun e w' => ∃ v', e = .returned v' ∧ W.heap.size ≤ w'.heap.size ∧ w'.ownsRow W.heap.size 9 1 v' ps.length (sCells ps) ∧ Below W.heap.size W w') := fun W hb =>
    (CloneS_any pv ps W h1 ((hp.below hb).mono hb.size)).mono (fun e w' ⟨v', a, b, c⟩ => ⟨v', a, c.size, b, c⟩)
  have HT : Hid (∀ W, Below w.heap.size w W → Calls Tryd.prog 64 #[bv] W fun e w' => ∃ v', e = .returned v' ∧ W.heap.size ≤ w'.heap.size ∧ w'.ownsRow W.heap.size 49 6 v' body.length (gCells body) ∧ Below W.heap.size W w') := fun W hb =>
    (CloneT_any bv body W h2 ((ht.below hb).mono hb.size)).mono (fun e w' ⟨v', a, b, c⟩ => ⟨v', a, c.size, b, c⟩)
  clear hp ht h1 h2
  let W0 : World := (w.alloc (.cells #[.string Nm, .bool fn, pv, .bool more, bv] 25)).alloc (.cells #[.string ⟨#[]⟩, .bool false, .slice none 0 0, .bool false, .slice none 0 0] 25)
  have hz1 : (w.alloc (.cells #[.string Nm, .bool fn, pv, .bool more, bv] 25)).heap.size = w.heap.size + 1 := by simp
  have hz0 : W0.heap.size = w.heap.size + 2 := by simp [W0]
  have hB0 : Below w.heap.size w W0 := ((Below.refl _ w).alloc (Nat.le_refl _) _).alloc (by rw [hz1]; omega) _
  have hm : MBox W0 w.heap.size (.string Nm) fn pv more bv := by
    have a : MBox (w.alloc (.cells #[.string Nm, .bool fn, pv, .bool more, bv] 25)) w.heap.size (.string Nm) fn pv more bv := World.alloc_heap_new w _
    exact a.below ((Below.refl _ _).alloc (Nat.le_refl _) _) (by rw [hz1]; omega)
  have hz : MBox W0 (w.heap.size + 1) (.string ⟨#[]⟩) false (.slice none 0 0) false (.slice none 0 0) := by
    have a := World.alloc_heap_new (w.alloc (.cells #[.string Nm, .bool fn, pv, .bool more, bv] 25)) (.cells #[.string ⟨#[]⟩, .bool false, .slice none 0 0, .bool false, .slice none 0 0] 25)
    rw [hz1] at a
    exact a
  have HB0 : Hid (Below w.heap.size w W0.drew) := below_drewK hB0 1
  have HM0 : Hid (MBox W0.drew w.heap.size (.string Nm) fn pv more bv) := hm
  have HZ0 : Hid (MBox W0.drew (w.heap.size + 1) (.string ⟨#[]⟩) false (.slice none 0 0) false (.slice none 0 0)) := hz
  have HI0 : Hid (W0.drew.heap.size = w.heap.size + 2) := hz0
  clear hz0 hB0 hm hz hz1
  go_enter Tryd.func44, Tryd.ntmps44
  go_upto_region 1 with fail
  go_region_with (first
    | (go_at_call 50
       refine (unhide HS W0.drew (unhide HB0)).mono ?_
       rintro e W1 ⟨v1, rfl, hs1, hr1, hb1⟩
       obtain ⟨q1, k1, rfl⟩ := row_slice hr1
       have hs1' : w.heap.size + 2 ≤ W1.heap.size := (unhide HI0) ▸ hs1
       have HR1 : Hid (W1.ownsRow (w.heap.size + 2) 9 1 (.slice q1 ps.length k1) ps.length (sCells ps)) := (unhide HI0) ▸ hr1
       have HB1 : Hid (Below w.heap.size w W1) := (unhide HB0).trans (hb1.mono (unhide HB0).size)
       have HM1 : Hid (MBox W1 w.heap.size (.string Nm) fn pv more bv) := (unhide HM0).below hb1 (by rw [unhide HI0]; omega)
       have HZ1 : Hid (MBox W1 (w.heap.size + 1) (.string ⟨#[]⟩) false (.slice none 0 0) false (.slice none 0 0)) := (unhide HZ0).below hb1 (by rw [unhide HI0]; omega)
       obtain ⟨c0, c1, c2, c3, c4⟩ := (unhide HM1).five
       clear hs1 hr1 hb1)
    | (go_at_call 64
       refine (unhide HT W1 (unhide HB1)).mono ?_
       rintro e W2 ⟨v2, rfl, hs2, hr2, hb2⟩
       obtain ⟨q2, k2, rfl⟩ := row_slice hr2
       have hs2' : w.heap.size + 2 ≤ W2.heap.size := Nat.le_trans hs1' hs2
       have HR1 := hide (ownsRow_bel (unhide HR1) hb2)
       have HR2 : Hid (W2.ownsRow (w.heap.size + 2) 49 6 (.slice q2 body.length k2) body.length (gCells body)) := ownsRow_base hr2 hs1'
       have HB2 : Hid (Below w.heap.size w W2) := (unhide HB1).trans (hb2.mono (unhide HB1).size)
       have hM2 := (unhide HM1).below hb2 (by omega)
       have hZ2 := (unhide HZ1).below hb2 (by omega)
       have f2 := hM2.frozen 2
       have f4 := (hM2.set2 (.slice q1 ps.length k1)).frozen 4
       obtain ⟨d0, d1, d2, d3, d4⟩ := hM2.five
       obtain ⟨e0, e1, e2, e3, e4⟩ := (hM2.set2 (.slice q1 ps.length k1)).five
       have hM3 := (hM2.set2 (.slice q1 ps.length k1)).set4 (.slice q2 body.length k2)
       have HM2 := hide hM2
       have HZ2 := hide hZ2
       obtain ⟨g0, g1, g2, g3, g4⟩ := hM3.five
       clear hs2 hr2 hb2 hM2 hZ2 hM3))
  all_goals (
    have hM3 := ((unhide HM2).set2 (.slice q1 ps.length k1)).set4 (.slice q2 body.length k2)
    have hZ3 := ((unhide HZ2).setCell (b := w.heap.size) (i := 2) (by omega) (.slice q1 ps.length k1)).setCell (b := w.heap.size) (i := 4) (by omega) (.slice q2 body.length k2)
    have HRa := hide (ownsRow_setCell (b := w.heap.size) (i := 4) (ownsRow_setCell (b := w.heap.size) (i := 2) (unhide HR1) (by omega) (.slice q1 ps.length k1)) (by omega) (.slice q2 body.length k2))
    have HRb := hide (ownsRow_setCell (b := w.heap.size) (i := 4) (ownsRow_setCell (b := w.heap.size) (i := 2) (unhide HR2) (by omega) (.slice q1 ps.length k1)) (by omega) (.slice q2 body.length k2))
    have HB3 := hide (((unhide HB2).setCell (p := ⟨w.heap.size, 2, none⟩) (Nat.le_refl _) (.slice q1 ps.length k1)).setCell (p := ⟨w.heap.size, 4, none⟩) (Nat.le_refl _) (.slice q2 body.length k2))
    clear g0 g1 g2 g3 g4 e0 e1 e2 e3 e4 d0 d1 d2 d3 d4 f2 f4 c0 c1 c2 c3 c4 HM2 HZ2 HR1 HR2 HB2 HM1 HZ1 HB1 HM0 HZ0 HB0 HI0 HS HT
    generalize (W2.setCell ⟨w.heap.size, 2, none⟩ (.slice q1 ps.length k1)).setCell ⟨w.heap.size, 4, none⟩ (.slice q2 body.length k2) = W3 at *
    obtain ⟨c0, c1, c2, c3, c4⟩ := hM3.five
    obtain ⟨m0, m1, m2, m3, m4⟩ := hZ3.five
    have n0 := hZ3.frozen 0
    have n1 := hZ3.frozen 1
    have n2 := hZ3.frozen 2
    have n3 := hZ3.frozen 3
    have n4 := hZ3.frozen 4
    have HZ3 := hide hZ3
    clear hZ3 hM3
    go_wp2
    refine bodyPost_ret (res44 rfl ((unhide HZ3).put _ _ _ _ _) rfl) rfl ⟨_, _, rfl, ?_, ?_, below_put5 (unhide HB3) (Nat.le_succ _) _ _ _ _ _⟩
    · exact ownsRow_base (row_put5 (unhide HRa) (by omega) _ _ _ _ _) (by omega)
    · exact ownsRow_base (row_put5 (unhide HRb) (by omega) _ _ _ _ _) (by omega))
end Go.Proofs.YticiddcgafhkhaaDoor
namespace Go.Proofs.YticiddcgafhkhaaDoor
open Go Go.RowKit
set_option linter.unusedVariables false
set_option linter.unusedSimpArgs false

/-- The values of a table's map, as they lie. -/
def rawE (v : Value) : Option (DataW Value × List MemPlace) := some (.held v, [])
/-- A table: its box b, its map in the next block but of number mb, what it holds. -/
def Tbl (W : World) (t mb n : Nat) (D : DataW Value) : Prop := W.heap[t]? = some (.cells #[.map (some mb)] 69 (0, 0)) ∧ W.ownsMap Tryd.prog 9 rawE mb n D ∧ mb < t

set_option maxRecDepth 100000 in
set_option maxHeartbeats 4000000 in
theorem New_any (w : World) : Calls Tryd.prog 22 #[] w fun e w' => e = .returned (.pointer (some ⟨w.heap.size + 1, 0, none⟩)) ∧ Tbl w' (w.heap.size + 1) w.heap.size 0 (.map []) ∧ Below w.heap.size w w' ∧ w'.heap.size = w.heap.size + 2 := by
  have hz : (w.alloc (.map #[] 0)).heap.size = w.heap.size + 1 := by simp
  have HT : Hid (Tbl ((w.alloc (.map #[] 0)).alloc (.cells #[.map (some w.heap.size)] 69)) (w.heap.size + 1) w.heap.size 0 (.map [])) := by
    refine ⟨?_, (World.ownsMap_made w _ _ _).alloc _, by omega⟩
    have a := World.alloc_heap_new (w.alloc (.map #[] 0)) (.cells #[.map (some w.heap.size)] 69)
    rw [hz] at a
    exact a
  have HB : Hid (Below w.heap.size w ((w.alloc (.map #[] 0)).alloc (.cells #[.map (some w.heap.size)] 69))) := ((Below.refl _ w).alloc (Nat.le_refl _) _).alloc (by rw [hz]; omega) _
  have HZ : Hid (((w.alloc (.map #[] 0)).alloc (.cells #[.map (some w.heap.size)] 69)).heap.size = w.heap.size + 2) := by simp [Hid]
  clear hz
  have hmm := @run_makeMap Tryd.prog
  go_enter Tryd.func22, Tryd.ntmps22
  go_wp2
  go_ret
  exact ⟨by simp, unhide HT, unhide HB, unhide HZ⟩
end Go.Proofs.YticiddcgafhkhaaDoor
namespace Go.Proofs.YticiddcgafhkhaaDoor
open Go Go.RowKit
set_option linter.unusedVariables false
set_option linter.unusedSimpArgs false

theorem und67 : Tryd.prog.underlying 67 = some (.map 9 25) := by kernel_rfl
theorem und9s : Tryd.prog.underlying 9 = some .string := by kernel_rfl
theorem zero25 (w : World) : (zeroValue 25).run Tryd.prog w = .ok (.agg zeroM) w := by kernel_rfl
theorem Tbl.look {W : World} {t mb n : Nat} {D : DataW Value} {v : Value} (h : Tbl W t mb n D) (s : ByteArray) (hs : s.size ≤ maxLen) (hat : D.atKey (.string s.data.toList) (.held (.agg zeroM)) = .held v) :
    (Instr.lookup 67 (.map (some mb)) (.string s) true).run Tryd.prog W = .ok (.tuple #[v, .bool (Maps.has D (.string s.data.toList))]) W := by
  obtain ⟨v', ps, hrun, hv⟩ := h.2.1.look_ok (Maps.string_keyed und9s) und67 (zero25 W) (zd := .held (.agg zeroM)) (zp := []) rfl (WideMaps.keyOf_string_mk und9s hs)
  rw [hat] at hv
  have : v' = v ∧ ps = [] := by simpa [rawE] using hv
  rw [hrun, this.1]
theorem Tbl.cell {W : World} {t mb n : Nat} {D : DataW Value} (h : Tbl W t mb n D) : W.cell? ⟨t, 0, none⟩ = some (.map (some mb)) := by
  rw [World.cell?, h.1]; rfl
theorem Tbl.lt {W : World} {t mb n : Nat} {D : DataW Value} (h : Tbl W t mb n D) : t < W.heap.size := (Array.getElem?_eq_some_iff.1 h.1).1
theorem Tbl.below {W W' : World} {B t mb n : Nat} {D : DataW Value} (h : Tbl W t mb n D) (hb : Below B W W') (ht : t < B) : Tbl W' t mb n D := by
  refine ⟨(hb.block t ht).trans h.1, ?_, h.2.2⟩
  obtain ⟨es, clock, h1, h2⟩ := h.2.1
  exact ⟨es, clock, (hb.block mb (Nat.lt_trans h.2.2 ht)).trans h1, h2⟩
theorem res24g {tmps : Array Value} {w : World} {R : Nat} {cs : Array Value} (hp : tmps.getD 4 undef = .pointer (some ⟨R, 0, none⟩)) (hg : w.heap[R]? = some (.cells cs 25 (0, 0))) (hz : cs.size = 5) :
    (results Tryd.f24 tmps).run Tryd.prog w = .ok (.tuple #[.agg cs, tmps.getD 5 undef]) w := by
  have hr : Tryd.f24.results = #[.cell 4 25, .tmp 5] := rfl
  have hi : (Tryd.prog.info? 25).map (·.size) = some cs.size := by rw [hz]; kernel_rfl
  have hp' : tmps[4]?.getD undef = .pointer (some ⟨R, 0, none⟩) := by simpa using hp
  simp [results, hr, hp', asAddr, run_loadVar_row w R 25 25 cs (0, 0) _ hg Tryd.underlying25 rfl hi]

set_option maxRecDepth 100000 in
set_option maxHeartbeats 8000000 in
theorem Get_any (t mb n : Nat) (D : DataW Value) (s Nm : ByteArray) (q r : Option Addr) (c k : Nat) (fn more : Bool) (ps : List (List UInt8)) (body : List Gt) (w : World) (hs : s.size ≤ maxLen) (h1 : ps.length * 16 ≤ 140737488355328) (h2 : body.length * 56 ≤ 140737488355328)
    (hT : Tbl w t mb n D) (hat : D.atKey (.string s.data.toList) (.held (.agg zeroM)) = .held (.agg #[.string Nm, .bool fn, .slice q ps.length c, .bool more, .slice r body.length k])) (hp : StG w.heap.size w (.slice q ps.length c) ps) (ht : TkG w.heap.size w (.slice r body.length k) body) :
    Calls Tryd.prog 24 #[.pointer (some ⟨t, 0, none⟩), .string s] w fun e w' => ∃ pv' bv', e = .returned (.tuple #[.agg #[.string Nm, .bool fn, pv', .bool more, bv'], .bool (Maps.has D (.string s.data.toList))]) ∧ w'.ownsRow w.heap.size 9 1 pv' ps.length (sCells ps) ∧ w'.ownsRow w.heap.size 49 6 bv' body.length (gCells body) ∧ Below w.heap.size w w' := by
  have hb0 : Below w.heap.size w (w.alloc (.cells #[.string ⟨#[]⟩, .bool false, .slice none 0 0, .bool false, .slice none 0 0] 25)) := (Below.refl _ w).alloc (Nat.le_refl _) _
  have hz0 : (w.alloc (.cells #[.string ⟨#[]⟩, .bool false, .slice none 0 0, .bool false, .slice none 0 0] 25)).heap.size = w.heap.size + 1 := by simp
  have hT0 := hT.below hb0 hT.lt
  have hlk := hT0.look s hs hat
  have hce := hT0.cell
  have hm0 : MBox (w.alloc (.cells #[.string ⟨#[]⟩, .bool false, .slice none 0 0, .bool false, .slice none 0 0] 25)) w.heap.size (.string ⟨#[]⟩) false (.slice none 0 0) false (.slice none 0 0) := World.alloc_heap_new w _
  generalize hW0 : w.alloc (.cells #[.string ⟨#[]⟩, .bool false, .slice none 0 0, .bool false, .slice none 0 0] 25) = W0 at *
  have hb1 : Below w.heap.size w (W0.alloc (.cells #[.string Nm, .bool fn, .slice q ps.length c, .bool more, .slice r body.length k] 25)) := hb0.alloc (by omega) _
  have hz1 : (W0.alloc (.cells #[.string Nm, .bool fn, .slice q ps.length c, .bool more, .slice r body.length k] 25)).heap.size = w.heap.size + 2 := by simp [hz0]
  have hm1 := hm0.below ((Below.refl _ W0).alloc (Nat.le_refl _) (.cells #[.string Nm, .bool fn, .slice q ps.length c, .bool more, .slice r body.length k] 25)) hm0.lt
  have HC := hide (clone_any Nm (.slice q ps.length c) (.slice r body.length k) fn more ps body _ h1 h2 ((hp.below hb1).mono hb1.size) ((ht.below hb1).mono hb1.size))
  have HM1 := hide hm1
  have HB1 := hide hb1
  generalize Maps.has D (.string s.data.toList) = has at *
  clear hp ht hm0 hm1 hb1 hT0 hT hat hb0 h1 h2
  go_enter Tryd.func24, Tryd.ntmps24
  go_upto_region 3 with fail
  go_wp2_with fail
  refine (unhide HC).mono ?_
  rintro e W2 ⟨pv, bv, rfl, ho1, ho2, hb2⟩
  rw [hz1] at ho1 ho2 hb2
  obtain ⟨q1, k1, rfl⟩ := row_slice ho1
  obtain ⟨q2, k2, rfl⟩ := row_slice ho2
  have hm2 := (unhide HM1).below hb2 (by omega)
  have HB2 := hide ((unhide HB1).trans (hb2.mono (by omega)))
  have HO1 := hide ho1
  have HO2 := hide ho2
  obtain ⟨m0, m1, m2, m3, m4⟩ := hm2.five
  have n0 := hm2.frozen 0
  have n1 := hm2.frozen 1
  have n2 := hm2.frozen 2
  have n3 := hm2.frozen 3
  have n4 := hm2.frozen 4
  have HM2 := hide hm2
  clear hm2 hb2 ho1 ho2 HC HM1 HB1 hlk hce hW0 hz1
  go_wp2
  refine bodyPost_ret (res24g rfl ((unhide HM2).put _ _ _ _ _) rfl) rfl ⟨_, _, rfl, ?_, ?_, below_put5 (unhide HB2) (Nat.le_refl _) _ _ _ _ _⟩
  · exact ownsRow_base (row_put5 (unhide HO1) (by omega) _ _ _ _ _) (by omega)
  · exact ownsRow_base (row_put5 (unhide HO2) (by omega) _ _ _ _ _) (by omega)
end Go.Proofs.YticiddcgafhkhaaDoor
namespace Go.Proofs.YticiddcgafhkhaaDoor
open Go Go.RowKit
set_option linter.unusedVariables false
set_option linter.unusedSimpArgs false

theorem eql67 (mb : Nat) (w : World) : (binOp .eql 67 (.map (some mb)) (.map none)).run Tryd.prog w = .ok (.bool false) w := by kernel_rfl
set_option maxRecDepth 100000 in
set_option maxHeartbeats 8000000 in
theorem Define_new (t mb n : Nat) (D : DataW Value) (m : Mc) (q r : Option Addr) (c k : Nat) (w : World) (hf : McFits m) (hcap : m.ps.length ≤ c ∧ c ≤ maxLen) (hr : rightM m = true) (hn : n < maxLen) (hps : m.ps.length * 16 ≤ 140737488355328) (hbd : m.body.length * 56 ≤ 140737488355328)
    (hT : Tbl w t mb n D) (hhas : Maps.has D (.string m.name) = false) (hat : D.atKey (.string m.name) (.held (.agg zeroM)) = .held (.agg zeroM)) (hsz : Maps.size D < 1000)
    (hp : StG w.heap.size w (.slice q m.ps.length c) m.ps) (ht : TkG w.heap.size w (.slice r m.body.length k) m.body) (hw0 : 1 < w.heap.size) (hsg : Sg w) :
    Calls Tryd.prog 23 #[.pointer (some ⟨t, 0, none⟩), .agg #[.string ⟨m.name.toArray⟩, .bool m.fn, .slice q m.ps.length c, .bool m.more, .slice r m.body.length k]] w fun e w' => ∃ pv' bv', e = .returned (.int .i64 0) ∧
      Tbl w' t mb (n + 1) (D.put (.string m.name) (.held (.agg #[.string ⟨m.name.toArray⟩, .bool m.fn, pv', .bool m.more, bv']))) ∧ w'.ownsRow w.heap.size 9 1 pv' m.ps.length (sCells m.ps) ∧ w'.ownsRow w.heap.size 49 6 bv' m.body.length (gCells m.body) ∧ Below mb w w' ∧ (∀ b, b < w.heap.size → b ≠ mb → w'.heap[b]? = w.heap[b]?) := by
  obtain ⟨name, fn, ps, more, body⟩ := m
  simp only at *
  have hb0 : Below w.heap.size w (w.alloc (.cells #[.string ⟨name.toArray⟩, .bool fn, .slice q ps.length c, .bool more, .slice r body.length k] 25)) := (Below.refl _ w).alloc (Nat.le_refl _) _
  have hz0 : (w.alloc (.cells #[.string ⟨name.toArray⟩, .bool fn, .slice q ps.length c, .bool more, .slice r body.length k] 25)).heap.size = w.heap.size + 1 := by simp
  have hm0 : MBox (w.alloc (.cells #[.string ⟨name.toArray⟩, .bool fn, .slice q ps.length c, .bool more, .slice r body.length k] 25)) w.heap.size (.string ⟨name.toArray⟩) fn (.slice q ps.length c) more (.slice r body.length k) := World.alloc_heap_new w _
  have hR := Right_any (.agg #[.string ⟨name.toArray⟩, .bool fn, .slice q ps.length c, .bool more, .slice r body.length k]) ⟨name, fn, ps, more, body⟩ _ hf ⟨_, _, rfl, (hp.below hb0).mono hb0.size, (ht.below hb0).mono hb0.size, fun p n' c' e => by cases e; exact hcap⟩ (by rw [hz0]; omega) (hsg.below hb0 hw0)
  rw [hr] at hR
  have HR := hide hR
  have HM0 := hide hm0
  have HB0 := hide hb0
  have HP := hide hp
  have HTK := hide ht
  have HTB := hide hT
  have HF := hide hf
  have hlt := hT.lt
  clear hR hm0 hb0 hp ht hT hf hsg hw0
  go_enter Tryd.func23, Tryd.ntmps23
  go_wp2_with fail
  refine (unhide HR).mono ?_
  rintro e W1 ⟨rfl, hb1⟩
  rw [hz0] at hb1
  have hs1 : w.heap.size + 1 ≤ W1.heap.size := hz0 ▸ hb1.size
  have HB1 := hide ((unhide HB0).trans (hb1.mono (by omega)))
  have HM1 := hide ((unhide HM0).below hb1 (by omega))
  have HT1 := hide ((unhide HTB).below (unhide HB1) hlt)
  clear HR HM0 HB0 hb1 hz0 HTB
  obtain ⟨c0, c1, c2, c3, c4⟩ := (unhide HM1).five
  have hce := (unhide HT1).cell
  have hlk := Tbl.look (W := W1.drew) (unhide HT1) ⟨name.toArray⟩ (by have := (unhide HF).name; unfold maxLen; simp at this ⊢; show name.length ≤ _; omega) (by simpa using hat)
  have hba := (Below.refl W1.heap.size W1).alloc (Nat.le_refl _) (.cells #[.string ⟨#[]⟩, .bool false, .slice none 0 0, .bool false, .slice none 0 0] 25)
  have HM2 := hide ((unhide HM1).below hba (unhide HM1).lt)
  have HT2 := hide ((unhide HT1).below hba (unhide HT1).lt)
  obtain ⟨d0, d1, d2, d3, d4⟩ := (unhide HM2).five
  have hde := (unhide HT2).cell
  have hlm := Tbl.look (W := (W1.alloc (.cells #[.string ⟨#[]⟩, .bool false, .slice none 0 0, .bool false, .slice none 0 0] 25)).drew) (unhide HT2) ⟨name.toArray⟩ (by have := (unhide HF).name; unfold maxLen; simp at this ⊢; show name.length ≤ _; omega) (by simpa using hat)
  simp only [hhas, zeroM] at hlk hlm
  clear hba
  go_upto_region 5 with fail
  go_region
  all_goals (
    have HM3 : Hid (MBox (W1.alloc (.cells #[.string ⟨#[]⟩, .bool false, .slice none 0 0, .bool false, .slice none 0 0] 25)).drew w.heap.size (.string ⟨name.toArray⟩) fn (.slice q ps.length c) more (.slice r body.length k)) := unhide HM2
    have HT3 : Hid (Tbl (W1.alloc (.cells #[.string ⟨#[]⟩, .bool false, .slice none 0 0, .bool false, .slice none 0 0] 25)).drew t mb n D) := unhide HT2
    have HB3 : Hid (Below w.heap.size w (W1.alloc (.cells #[.string ⟨#[]⟩, .bool false, .slice none 0 0, .bool false, .slice none 0 0] 25)).drew) := below_drewK ((unhide HB1).alloc (unhide HB1).size _) 1
    clear d0 d1 d2 d3 d4 c0 c1 c2 c3 c4 hde hce hlk hlm HM2 HT2 HM1 HT1 HB1
    generalize (W1.alloc (.cells #[.string ⟨#[]⟩, .bool false, .slice none 0 0, .bool false, .slice none 0 0] 25)).drew = W2 at *
    obtain ⟨c0, c1, c2, c3, c4⟩ := (unhide HM3).five
    have hce := (unhide HT3).cell
    have hlen : ∀ ty, (Builtin.len_ #[67] ty #[.map (some mb)]).run Tryd.prog W2 = .ok (.int .i64 (Maps.size D)) W2 := fun ty => (unhide HT3).2.1.len und67 ty
    have hq := eql67 mb
    have hk1 : ¬ (1000 : Int) ≤ (Maps.size D : Nat) := by omega
    go_upto_region 14 with fail
    have HKY : Hid (keyOf Tryd.prog 9 (.string ⟨name.toArray⟩) = some (.string name)) := WideMaps.keyOf_string_mk und9s (s := ⟨name.toArray⟩) (by have := (unhide HF).name; unfold maxLen; simp at this ⊢; show name.length ≤ _; omega)
    have HC : Hid (Calls Tryd.prog 44 #[.agg #[.string ⟨name.toArray⟩, .bool fn, .slice q ps.length c, .bool more, .slice r body.length k]] W2.drew _) := clone_any ⟨name.toArray⟩ (.slice q ps.length c) (.slice r body.length k) fn more ps body W2.drew hps hbd (((unhide HP).below (below_drewK (unhide HB3) 1)).mono (unhide HB3).size) (((unhide HTK).below (below_drewK (unhide HB3) 1)).mono (unhide HB3).size)
    go_region_with (
      (go_at_call 44
       refine (unhide HC).mono ?_
       rintro e W3 ⟨pv', bv', rfl, ho1, ho2, hb3⟩
       have hlt2 : w.heap.size < W2.heap.size := (unhide HM3).lt
       have hT4 : Tbl W3 t mb n D := Tbl.below (W := W2.drew) (unhide HT3) hb3 (unhide HT3).lt
       have hM4 : MBox W3 w.heap.size (.string ⟨name.toArray⟩) fn (.slice q ps.length c) more (.slice r body.length k) := MBox.below (W := W2.drew) (unhide HM3) hb3 (unhide HM3).lt
       obtain ⟨e0, e1, e2, e3, e4⟩ := hM4.five
       have hce4 := hT4.cell
       obtain ⟨W4, hrun, hown4, hturn⟩ := hT4.2.1.store (Maps.string_keyed und9s) und67 hn (key := .string ⟨name.toArray⟩) (kl := .string name) (val := .agg #[.string ⟨name.toArray⟩, .bool fn, pv', .bool more, bv']) (d := .held (.agg #[.string ⟨name.toArray⟩, .bool fn, pv', .bool more, bv'])) (ps := []) (unhide HKY) rfl
       have HT5 : Hid (Tbl W4 t mb (n + 1) (D.put (.string name) (.held (.agg #[.string ⟨name.toArray⟩, .bool fn, pv', .bool more, bv'])))) := ⟨(hturn.grown.block t hT4.lt (by intro h; cases h; exact absurd hT4.2.2 (Nat.lt_irrefl _))).trans hT4.1, hown4, hT4.2.2⟩
       have hmb : mb < w.heap.size := Nat.lt_trans hT4.2.2 hlt
       have HO1 : Hid (W4.ownsRow W2.heap.size 9 1 pv' ps.length (sCells ps)) := ho1.kept (row := some mb) hturn.grown (Classical.or_iff_not_imp_left.2 (fun _ e => by have h7 : W2.heap.size ≤ mb := (ho1.lt _ e).1; omega))
       have HO2 : Hid (W4.ownsRow W2.heap.size 49 6 bv' body.length (gCells body)) := ho2.kept (row := some mb) hturn.grown (Classical.or_iff_not_imp_left.2 (fun _ e => by have h7 : W2.heap.size ≤ mb := (ho2.lt _ e).1; omega))
       have HB4 : Hid (Below mb w W4) := (((below_drewK (unhide HB3) 1).mono (Nat.le_of_lt hmb)).trans (hb3.mono (by show mb ≤ W2.heap.size; omega))).grown hturn.grown (by have h8 : W2.heap.size ≤ W3.heap.size := hb3.size; omega) (by intro j hj; cases hj; exact Nat.le_refl _)
       have HK4 : Hid (∀ b, b < w.heap.size → b ≠ mb → W4.heap[b]? = w.heap[b]?) := fun b hb hne => (hturn.grown.block b (Nat.lt_of_lt_of_le (Nat.lt_trans hb hlt2) hb3.size) (by intro h; cases h; exact hne rfl)).trans ((hb3.block b (Nat.lt_trans hb hlt2)).trans ((unhide HB3).block b hb))
       clear hb3 ho1 ho2 hM4 hT4 hown4 hturn))
    all_goals (
      go_wp2
      go_ret
      exact ⟨_, _, rfl, unhide HT5, ownsRow_base (unhide HO1) (by omega), ownsRow_base (unhide HO2) (by omega), unhide HB4, unhide HK4⟩))
end Go.Proofs.YticiddcgafhkhaaDoor
