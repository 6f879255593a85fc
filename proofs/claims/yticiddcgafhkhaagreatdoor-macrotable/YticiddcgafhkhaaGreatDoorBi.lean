/-
  Package macro: a table that holds these macros: Undef; Define of a name that is there, of what is not right; Get of a name that is not there.
  Package macro: Define of what is not right, and of a name that is there; Get of a name that is not there.
-/
import Derived.Test.YticiddcgafhkhaaGreatDoorOa
import Derived.Test.YticiddcgafhkhaaGreatDoorUc
import Derived.Test.YticiddcgafhkhaaGreatDoorBh
import Derived.BigRegion
import Derived.Deep.RegionWith
namespace Go.Proofs.YticiddcgafhkhaaGreatDoor
open Go Go.RowKit Go.WideElems
set_option linter.unusedVariables false
set_option linter.unusedSimpArgs false

theorem map_tight {W : World} {mb n : Nat} {D : DataW Value} (h : W.ownsMap Tryz.prog 9 rawE mb n D) : W.ownsMap Tryz.prog 9 rawE mb (Maps.size D) D := by
  obtain ⟨es, clock, hb, F, hs, rfl⟩ := h
  refine ⟨es, clock, hb, F, ?_, rfl⟩
  simp [Maps.size, length_sorted]
theorem Tab.perm {W : World} {t mb : Nat} {es es' : List Mc} (h : Tab W t mb es) (hp : es'.Perm es) : Tab W t mb es' := by
  obtain ⟨n, D, h⟩ := h
  refine ⟨n, D, h.tbl, by rw [hp.length_eq]; exact h.few, fun x => ?_, fun m hm => h.ent m (hp.subset hm)⟩
  rw [h.has]
  simp only [(hp.map Mc.name).mem_iff]
/-- Without a name. -/
def wo (s : List UInt8) (es : List Mc) : List Mc := es.filter fun m => !decide (m.name = s)
theorem wo_names (s : List UInt8) (es : List Mc) (x : List UInt8) : x ∈ (wo s es).map Mc.name ↔ x ≠ s ∧ x ∈ es.map Mc.name := by
  unfold wo
  simp only [List.mem_map, List.mem_filter]
  constructor
  · rintro ⟨m, ⟨h1, h2⟩, rfl⟩
    exact ⟨by simpa using h2, m, h1, rfl⟩
  · rintro ⟨h, m, h1, rfl⟩
    exact ⟨m, ⟨h1, by simpa using h⟩, rfl⟩
theorem wo_nodup {s : List UInt8} {es : List Mc} (h : (es.map Mc.name).Nodup) : ((wo s es).map Mc.name).Nodup :=
  List.Nodup.sublist (List.Sublist.map _ List.filter_sublist) h
/-- What Undef leaves. -/
def UndP (t mb : Nat) (es : List Mc) (w : World) (e : Ending) (w' : World) : Prop := e = .returned (.int .i64 0) ∧ Tab w' t mb es ∧ Below mb w w' ∧ Fr w w' mb
set_option maxRecDepth 100000 in
set_option maxHeartbeats 8000000 in
theorem Undef_tab (t mb : Nat) (es : List Mc) (s : List UInt8) (w : World) (hs : s.length ≤ 140737488355328) (hT : Tab w t mb es) (hnd : (es.map Mc.name).Nodup) :
    Calls Tryz.prog 10 #[.pointer (some ⟨t, 0, none⟩), .string ⟨s.toArray⟩] w fun e w' => UndP t mb (wo s es) w e w' := by
  obtain ⟨n, D, hT⟩ := hT
  have hce := hT.tbl.cell
  have hkey : keyOf Tryz.prog 9 (.string ⟨s.toArray⟩) = some (.string s) := WideMaps.keyOf_string_mk und9s (s := ⟨s.toArray⟩) (by unfold maxLen; show s.toArray.size ≤ _; simp; omega)
  have hown := hT.tbl.2.1
  have HT := hide hT
  have hmbt := hT.tbl.2.2
  have hlt := hT.tbl.lt
  have HND := hide hnd
  clear hT hnd
  go_enter Tryz.func10, Tryz.ntmps10
  go_wp2_with (at_delete; refine wpList_delete_own _ rfl _ _ 51 9 rfl 33 (Maps.string_keyed und9s) und67 _ mb n D rfl hown _ _ rfl hkey ?_; intro w1 hown1 hturn1)
  go_ret
  have hfr : Fr w w1 mb := ⟨hturn1.grown.size, fun b hb hne => hturn1.grown.block b hb (by intro h; cases h; exact hne rfl)⟩
  have hT := unhide HT
  have hhas : ∀ x, Maps.has (D.del (.string s)) (.string x) = decide (x ∈ (wo s es).map Mc.name) := fun x => by
    by_cases hx : x = s
    · subst hx
      rw [Maps.has_del_same]
      symm
      apply decide_eq_false
      rw [wo_names]
      exact fun h => h.1 rfl
    · rw [Maps.has_del_other (fun e => hx (by simpa using e)), hT.has]
      congr 1
      simp only [wo_names, hx, ne_eq, not_false_eq_true, true_and]
  have hT1 : Tbl w1 t mb n (D.del (.string s)) := ⟨(hfr.2 t hlt (by omega)).trans hT.tbl.1, hown1, hmbt⟩
  have hent : ∀ m ∈ wo s es, ∃ v, (D.del (.string s)).atKey (.string m.name) (.held (.agg zeroM)) = .held v ∧ McV w1.heap.size w1 v m := fun m hm => by
    have hm' := List.mem_filter.1 hm
    obtain ⟨v, h1, h2⟩ := hT.ent m hm'.1
    have hne : m.name ≠ s := by simpa using hm'.2
    exact ⟨v, by rw [Maps.atKey_del_other (fun e => hne (by simpa using e)), h1], h2.frM hfr hT.tbl⟩
  have hsz : Maps.size (D.del (.string s)) = (wo s es).length := by
    have hp := Collected.perm (D0 := D.del (.string s)) (left := fun _ => false) (ss := (wo s es).map Mc.name) ⟨wo_nodup (unhide HND), fun x => by rw [hhas]; simp⟩ hT1.2.1 (Maps.string_keyed und9s) und9s (fun _ => rfl)
    have hl := hp.length_eq
    obtain ⟨l, hl'⟩ := hT1.2.1.isMap
    rw [hl'] at hl ⊢
    simpa [strKeys, Maps.size_eq] using hl.symm
  exact ⟨rfl, ⟨_, _, ⟨hT1.1, map_tight hT1.2.1, hT1.2.2⟩, Nat.le_of_eq hsz, hhas, hent⟩, (Below.refl mb w).grown hturn1.grown (by omega) (by intro k hk; cases hk; exact Nat.le_refl _), hfr⟩
end Go.Proofs.YticiddcgafhkhaaGreatDoor
namespace Go.Proofs.YticiddcgafhkhaaGreatDoor
open Go Go.RowKit
set_option linter.unusedVariables false
set_option linter.unusedSimpArgs false

set_option maxRecDepth 100000 in
set_option maxHeartbeats 4000000 in
theorem Define_badM (t : Nat) (x : Me) (w : World) (hf : McFits x.m) (hr : rightM x.m = false) (hx : McV w.heap.size w x.v x.m) (hw0 : 1 < w.heap.size) (hsg : Sg w) :
    Calls Tryz.prog 8 #[.pointer (some ⟨t, 0, none⟩), x.v] w fun e w' => e = .returned (.int .i64 2) ∧ Below w.heap.size w w' := by
  obtain ⟨q1, k1, q2, k2, e1, e2⟩ := me_slices hx
  have HRt := hide (fun W (hB : Below w.heap.size w W) => Right_any x.v x.m W hf (hx.below hB) (Nat.lt_of_lt_of_le hw0 hB.size) (hsg.below hB hw0))
  rw [hr] at HRt
  obtain ⟨⟨xn, xf, xp, xm, xb⟩, pv, bv⟩ := x
  simp only [Me.v] at *
  subst e1 e2
  have hb0 := (Below.refl w.heap.size w).alloc (Nat.le_refl _) (.cells #[.string ⟨xn.toArray⟩, .bool xf, .slice q1 xp.length k1, .bool xm, .slice q2 xb.length k2] 33)
  have HB0 := hide hb0
  clear hb0 hx hf hr hsg
  go_enter Tryz.func8, Tryz.ntmps8
  go_wp2_with fail
  refine (unhide HRt _ (unhide HB0)).mono ?_
  rintro e W1 ⟨rfl, hb1⟩
  have HB1 : Hid (Below w.heap.size w W1) := (unhide HB0).trans (hb1.mono (by simp))
  clear hb1 HRt
  go_wp2
  go_ret
  exact ⟨rfl, unhide HB1⟩
set_option maxRecDepth 100000 in
set_option maxHeartbeats 8000000 in
theorem Define_oldM (t mb : Nat) (es : List Mc) (x : Me) (w : World) (hf : McFits x.m) (hfs : ∀ y ∈ es, McFits y) (hr : rightM x.m = true) (hT : Tab w t mb es) (hin : x.m.name ∈ es.map Mc.name) (hx : McV w.heap.size w x.v x.m) (hw0 : 1 < w.heap.size) (hsg : Sg w) :
    Calls Tryz.prog 8 #[.pointer (some ⟨t, 0, none⟩), x.v] w fun e w' => (∃ y ∈ es, y.name = x.m.name ∧ e = .returned (.int .i64 (if y = x.m then 0 else 31))) ∧ Below w.heap.size w w' := by
  obtain ⟨q1, k1, q2, k2, e1, e2⟩ := me_slices hx
  have HRt := hide (fun W (hB : Below w.heap.size w W) => Right_any x.v x.m W hf (hx.below hB) (Nat.lt_of_lt_of_le hw0 hB.size) (hsg.below hB hw0))
  rw [hr] at HRt
  obtain ⟨n, D, hT⟩ := hT
  obtain ⟨y, hy, hyn⟩ := List.mem_map.1 hin
  obtain ⟨v, hat, hyv⟩ := hT.ent y hy
  rw [hyn] at hat
  have hhas : Maps.has D (.string x.m.name) = true := by rw [hT.has]; exact decide_eq_true hin
  have HAL := hide (fun W (hB : Below w.heap.size w W) => alikeM_any v x.v y x.m W (hfs y hy).ps (hfs y hy).body (hyv.below hB) (hx.below hB))
  have HRES : Hid (y ∈ es ∧ y.name = x.m.name) := ⟨hy, hyn⟩
  have hnl := hf.name
  have HTB := hide hT.tbl
  have hlt := hT.tbl.lt
  clear hT hx hf hfs hr hin hsg
  obtain ⟨pv', bv', rfl, ⟨p3, c3, rfl, _⟩, ⟨p4, c4, rfl, _⟩, _⟩ := hyv
  obtain ⟨⟨xn, xf, xp, xm, xb⟩, pv, bv⟩ := x
  obtain ⟨yn, yf, yp, ym, yb⟩ := y
  simp only [Me.v] at *
  subst e1 e2 hyn
  clear hy
  have hb0 := (Below.refl w.heap.size w).alloc (Nat.le_refl _) (.cells #[.string ⟨yn.toArray⟩, .bool xf, .slice q1 xp.length k1, .bool xm, .slice q2 xb.length k2] 33)
  have hm0 : MBox (w.alloc (.cells #[.string ⟨yn.toArray⟩, .bool xf, .slice q1 xp.length k1, .bool xm, .slice q2 xb.length k2] 33)) w.heap.size (.string ⟨yn.toArray⟩) xf (.slice q1 xp.length k1) xm (.slice q2 xb.length k2) := World.alloc_heap_new w _
  have HB0 := hide hb0
  have HM0 := hide hm0
  clear hb0 hm0
  go_enter Tryz.func8, Tryz.ntmps8
  go_wp2_with fail
  refine (unhide HRt _ (unhide HB0)).mono ?_
  rintro e W1 ⟨rfl, hb1⟩
  have HB1 : Hid (Below w.heap.size w W1) := (unhide HB0).trans (hb1.mono (by simp))
  have HM1 := hide ((unhide HM0).below hb1 (by simp))
  have HT1 := hide ((unhide HTB).below (unhide HB1) hlt)
  clear hb1 HRt HB0 HM0 HTB
  obtain ⟨c0, c1, c2, c3', c4'⟩ := (unhide HM1).five
  have hce := (unhide HT1).cell
  have hlk := Tbl.look (W := W1.drew) (unhide HT1) ⟨yn.toArray⟩ (by unfold maxLen; show yn.toArray.size ≤ _; simp; omega) (by simpa using hat)
  have hba := (Below.refl W1.heap.size W1).alloc (Nat.le_refl _) (.cells #[.string ⟨#[]⟩, .bool false, .slice none 0 0, .bool false, .slice none 0 0] 33)
  have HM2 := hide ((unhide HM1).below hba (unhide HM1).lt)
  have HT2 := hide ((unhide HT1).below hba (unhide HT1).lt)
  obtain ⟨d0, d1, d2, d3, d4⟩ := (unhide HM2).five
  have hde := (unhide HT2).cell
  have hlm := Tbl.look (W := (W1.alloc (.cells #[.string ⟨#[]⟩, .bool false, .slice none 0 0, .bool false, .slice none 0 0] 33)).drew) (unhide HT2) ⟨yn.toArray⟩ (by unfold maxLen; show yn.toArray.size ≤ _; simp; omega) (by simpa using hat)
  simp only [hhas] at hlk hlm
  clear hba
  go_upto_region 5 with fail
  go_region
  all_goals (
    have HM3 : Hid (MBox (W1.alloc (.cells #[.string ⟨yn.toArray⟩, .bool yf, .slice p3 yp.length c3, .bool ym, .slice p4 yb.length c4] 33)).drew w.heap.size (.string ⟨yn.toArray⟩) xf (.slice q1 xp.length k1) xm (.slice q2 xb.length k2)) := (unhide HM1).below (below_drewK ((Below.refl W1.heap.size W1).alloc (Nat.le_refl _) _) 1) (unhide HM1).lt
    have HO3 : Hid (MBox (W1.alloc (.cells #[.string ⟨yn.toArray⟩, .bool yf, .slice p3 yp.length c3, .bool ym, .slice p4 yb.length c4] 33)).drew W1.heap.size (.string ⟨yn.toArray⟩) yf (.slice p3 yp.length c3) ym (.slice p4 yb.length c4)) := World.alloc_heap_new W1 _
    have HB3 : Hid (Below w.heap.size w (W1.alloc (.cells #[.string ⟨yn.toArray⟩, .bool yf, .slice p3 yp.length c3, .bool ym, .slice p4 yb.length c4] 33)).drew) := below_drewK ((unhide HB1).alloc (unhide HB1).size _) 1
    clear d0 d1 d2 d3 d4 c0 c1 c2 c3' c4' hde hce hlk hlm HM2 HT2 HM1 HT1 HB1
    generalize (W1.alloc (.cells #[.string ⟨yn.toArray⟩, .bool yf, .slice p3 yp.length c3, .bool ym, .slice p4 yb.length c4] 33)).drew = W2 at *
    generalize W1.heap.size = M1 at *
    obtain ⟨d0, d1, d2, d3, d4⟩ := (unhide HM3).five
    obtain ⟨o0, o1, o2, o3, o4⟩ := (unhide HO3).five
    have HC := hide (unhide HAL W2 (unhide HB3))
    have HFIN : Hid (∃ y ∈ es, y.name = yn ∧ (if decide ((⟨yn, yf, yp, ym, yb⟩ : Mc) = ⟨yn, xf, xp, xm, xb⟩) = true then (0 : Int) else 31) = (if y = ⟨yn, xf, xp, xm, xb⟩ then 0 else 31)) := ⟨_, (unhide HRES).1, rfl, by simp⟩
    clear HAL HRES
    generalize decide ((⟨yn, yf, yp, ym, yb⟩ : Mc) = ⟨yn, xf, xp, xm, xb⟩) = E at *
    go_wp2_with fail
    refine (unhide HC).mono ?_
    rintro e W3 ⟨rfl, hb3⟩
    have HB4 : Hid (Below w.heap.size w W3) := (unhide HB3).trans (hb3.mono (unhide HB3).size)
    clear hb3 HC
    cases E
    · go_wp2
      go_ret
      obtain ⟨y, h1, h2, h3⟩ := unhide HFIN
      exact ⟨⟨y, h1, h2, by rw [← h3]; rfl⟩, unhide HB4⟩
    · go_wp2
      go_ret
      obtain ⟨y, h1, h2, h3⟩ := unhide HFIN
      exact ⟨⟨y, h1, h2, by rw [← h3]; rfl⟩, unhide HB4⟩)
def zMc : Mc := ⟨[], false, [], false, []⟩
/-- What the program's Get tells. -/
def GetP (s : List UInt8) (es : List Mc) (w : World) (e : Ending) (w' : World) : Prop :=
  Below w.heap.size w w' ∧ ∃ x : Me, e = .returned (.tuple #[x.v, .bool (decide (s ∈ es.map Mc.name))]) ∧ McV w'.heap.size w' x.v x.m ∧ (s ∈ es.map Mc.name → x.m ∈ es ∧ x.m.name = s) ∧ (s ∉ es.map Mc.name → x.m = zMc)
theorem Get_all (t mb : Nat) (es : List Mc) (s : List UInt8) (w : World) (hs : s.length ≤ 140737488355328) (hfs : ∀ y ∈ es, McFits y ∧ rightM y = true) (hT : Tab w t mb es) :
    Calls Tryz.prog 12 #[.pointer (some ⟨t, 0, none⟩), .string ⟨s.toArray⟩] w fun e w' => GetP s es w e w' := by
  by_cases hin : s ∈ es.map Mc.name
  · obtain ⟨y, hy, rfl⟩ := List.mem_map.1 hin
    refine (Get_tab t mb es y w hy (hfs y hy).1 (hfs y hy).2 hT).mono ?_
    rintro e w' ⟨q, c, r, k, rfl, hv, hb⟩
    exact ⟨hb, ⟨y, .slice q y.ps.length c, .slice r y.body.length k⟩, by rw [decide_eq_true hin]; rfl, hv, fun _ => ⟨hy, rfl⟩, fun h => absurd hin h⟩
  · obtain ⟨n, D, hT⟩ := hT
    have hhas : Maps.has D (.string s) = false := by rw [hT.has]; exact decide_eq_false hin
    have hat := Maps.atKey_of_not_has hhas (.held (.agg zeroM))
    refine (Get_any t mb n D ⟨s.toArray⟩ ⟨#[]⟩ none none 0 0 false false [] [] w (by unfold maxLen; show s.toArray.size ≤ _; simp; omega) (by simp) (by simp) hT.tbl (by rw [show (⟨s.toArray⟩ : ByteArray).data.toList = s from rfl, hat, zero_agg]; rfl) ⟨none, 0, rfl, fun i hi => by simp at hi⟩ ⟨none, 0, rfl, fun i hi => by simp at hi⟩).mono ?_
    rintro e w' ⟨pv, bv, rfl, h1, h2, hb⟩
    refine ⟨hb, ⟨zMc, pv, bv⟩, ?_, McV.ofRows (m := zMc) h1 h2, fun h => absurd h hin, fun _ => rfl⟩
    rw [show (⟨s.toArray⟩ : ByteArray).data.toList = s from rfl, hhas, decide_eq_false hin]
    rfl
end Go.Proofs.YticiddcgafhkhaaGreatDoor
