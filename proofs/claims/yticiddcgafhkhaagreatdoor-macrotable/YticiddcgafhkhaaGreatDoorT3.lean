/-
  Package macro: Get.
-/
import Derived.Test.YticiddcgafhkhaaGreatDoorT2
import Derived.StringKeys
namespace Go.Proofs.YticiddcgafhkhaaGreatDoor
open Go Go.RowKit
set_option linter.unusedVariables false
set_option linter.unusedSimpArgs false

theorem und67 : Tryz.prog.underlying 51 = some (.map 9 33) := by kernel_rfl
theorem und9s : Tryz.prog.underlying 9 = some .string := by kernel_rfl
theorem zero25 (w : World) : (zeroValue 33).run Tryz.prog w = .ok (.agg zeroM) w := by kernel_rfl
theorem Tbl.look {W : World} {t mb n : Nat} {D : DataW Value} {v : Value} (h : Tbl W t mb n D) (s : ByteArray) (hs : s.size ≤ maxLen) (hat : D.atKey (.string s.data.toList) (.held (.agg zeroM)) = .held v) :
    (Instr.lookup 51 (.map (some mb)) (.string s) true).run Tryz.prog W = .ok (.tuple #[v, .bool (Maps.has D (.string s.data.toList))]) W := by
  obtain ⟨v', ps, hrun, hv⟩ := h.2.1.look_ok (Maps.string_keyed und9s) und67 (zero25 W) (zd := .held (.agg zeroM)) (zp := []) rfl (WideMaps.keyOf_string_mk und9s hs)
  rw [hat] at hv
  have : v' = v ∧ ps = [] := by simpa [rawE] using hv
  rw [hrun, this.1]
theorem Tbl.cell {W : World} {t mb n : Nat} {D : DataW Value} (h : Tbl W t mb n D) : W.cell? ⟨t, 0, none⟩ = some (.map (some mb)) := by
  rw [World.cell?, h.1]; rfl
theorem Tbl.lt {W : World} {t mb n : Nat} {D : DataW Value} (h : Tbl W t mb n D) : t < W.heap.size := (Array.getElem?_eq_some_iff.1 h.1).1
theorem Tbl.below {W W' : World} {B t mb n : Nat} {D : DataW Value} (h : Tbl W t mb n D) (hb : Below B W W') (ht : t < B) : Tbl W' t mb n D := by
  refine ⟨(hb.block t ht).trans h.1, ?_, h.2.2⟩
  obtain ⟨es, clock, h1, h2⟩ := h.2.1
  exact ⟨es, clock, (hb.block mb (Nat.lt_trans h.2.2 ht)).trans h1, h2⟩
theorem res24g {tmps : Array Value} {w : World} {R : Nat} {cs : Array Value} (hp : tmps.getD 4 undef = .pointer (some ⟨R, 0, none⟩)) (hg : w.heap[R]? = some (.cells cs 33 (0, 0))) (hz : cs.size = 5) :
    (results Tryz.f12 tmps).run Tryz.prog w = .ok (.tuple #[.agg cs, tmps.getD 5 undef]) w := by
  have hr : Tryz.f12.results = #[.cell 4 33, .tmp 5] := rfl
  have hi : (Tryz.prog.info? 33).map (·.size) = some cs.size := by rw [hz]; kernel_rfl
  have hp' : tmps[4]?.getD undef = .pointer (some ⟨R, 0, none⟩) := by simpa using hp
  simp [results, hr, hp', asAddr, run_loadVar_row w R 33 33 cs (0, 0) _ hg Tryz.underlying33 rfl hi]

set_option maxRecDepth 100000 in
set_option maxHeartbeats 8000000 in
theorem Get_any (t mb n : Nat) (D : DataW Value) (s Nm : ByteArray) (q r : Option Addr) (c k : Nat) (fn more : Bool) (ps : List (List UInt8)) (body : List Gt) (w : World) (hs : s.size ≤ maxLen) (h1 : ps.length * 16 ≤ 140737488355328) (h2 : body.length * 56 ≤ 140737488355328)
    (hT : Tbl w t mb n D) (hat : D.atKey (.string s.data.toList) (.held (.agg zeroM)) = .held (.agg #[.string Nm, .bool fn, .slice q ps.length c, .bool more, .slice r body.length k])) (hp : StG w.heap.size w (.slice q ps.length c) ps) (ht : TkG w.heap.size w (.slice r body.length k) body) :
    Calls Tryz.prog 12 #[.pointer (some ⟨t, 0, none⟩), .string s] w fun e w' => ∃ pv' bv', e = .returned (.tuple #[.agg #[.string Nm, .bool fn, pv', .bool more, bv'], .bool (Maps.has D (.string s.data.toList))]) ∧ w'.ownsRow w.heap.size 9 1 pv' ps.length (sCells ps) ∧ w'.ownsRow w.heap.size 74 6 bv' body.length (gCells body) ∧ Below w.heap.size w w' := by
  have hb0 : Below w.heap.size w (w.alloc (.cells #[.string ⟨#[]⟩, .bool false, .slice none 0 0, .bool false, .slice none 0 0] 33)) := (Below.refl _ w).alloc (Nat.le_refl _) _
  have hz0 : (w.alloc (.cells #[.string ⟨#[]⟩, .bool false, .slice none 0 0, .bool false, .slice none 0 0] 33)).heap.size = w.heap.size + 1 := by simp
  have hT0 := hT.below hb0 hT.lt
  have hlk := hT0.look s hs hat
  have hce := hT0.cell
  have hm0 : MBox (w.alloc (.cells #[.string ⟨#[]⟩, .bool false, .slice none 0 0, .bool false, .slice none 0 0] 33)) w.heap.size (.string ⟨#[]⟩) false (.slice none 0 0) false (.slice none 0 0) := World.alloc_heap_new w _
  generalize hW0 : w.alloc (.cells #[.string ⟨#[]⟩, .bool false, .slice none 0 0, .bool false, .slice none 0 0] 33) = W0 at *
  have hb1 : Below w.heap.size w (W0.alloc (.cells #[.string Nm, .bool fn, .slice q ps.length c, .bool more, .slice r body.length k] 33)) := hb0.alloc (by omega) _
  have hz1 : (W0.alloc (.cells #[.string Nm, .bool fn, .slice q ps.length c, .bool more, .slice r body.length k] 33)).heap.size = w.heap.size + 2 := by simp [hz0]
  have hm1 := hm0.below ((Below.refl _ W0).alloc (Nat.le_refl _) (.cells #[.string Nm, .bool fn, .slice q ps.length c, .bool more, .slice r body.length k] 33)) hm0.lt
  have HC := hide (clone_any Nm (.slice q ps.length c) (.slice r body.length k) fn more ps body _ h1 h2 ((hp.below hb1).mono hb1.size) ((ht.below hb1).mono hb1.size))
  have HM1 := hide hm1
  have HB1 := hide hb1
  generalize Maps.has D (.string s.data.toList) = has at *
  clear hp ht hm0 hm1 hb1 hT0 hT hat hb0 h1 h2
  go_enter Tryz.func12, Tryz.ntmps12
  go_upto_region 3 with fail
  go_wp2_with fail
  refine (unhide HC).mono ?_
  rintro e W2 ⟨pv, bv, rfl, ho1, ho2, hb2⟩
  rw [hz1] at ho1 ho2 hb2
  obtain ⟨q1, k1, rfl⟩ := row_slice ho1
  obtain ⟨q2, k2, rfl⟩ := row_slice ho2
  have hm2 := (unhide HM1).below hb2 (by omega)
  have HB2 := hide ((unhide HB1).trans (hb2.mono (by omega)))
  have HO1 := hide ho1
  have HO2 := hide ho2
  obtain ⟨m0, m1, m2, m3, m4⟩ := hm2.five
  have n0 := hm2.frozen 0
  have n1 := hm2.frozen 1
  have n2 := hm2.frozen 2
  have n3 := hm2.frozen 3
  have n4 := hm2.frozen 4
  have HM2 := hide hm2
  clear hm2 hb2 ho1 ho2 HC HM1 HB1 hlk hce hW0 hz1
  go_wp2
  refine bodyPost_ret (res24g rfl ((unhide HM2).put _ _ _ _ _) rfl) rfl ⟨_, _, rfl, ?_, ?_, below_put5 (unhide HB2) (Nat.le_refl _) _ _ _ _ _⟩
  · exact ownsRow_base (row_put5 (unhide HO1) (by omega) _ _ _ _ _) (by omega)
  · exact ownsRow_base (row_put5 (unhide HO2) (by omega) _ _ _ _ _) (by omega)
end Go.Proofs.YticiddcgafhkhaaGreatDoor
