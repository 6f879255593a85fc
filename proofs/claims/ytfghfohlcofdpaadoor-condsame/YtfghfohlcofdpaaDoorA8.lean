/-
  Package cond: push.
-/
import Derived.Test.YtfghfohlcofdpaaDoorA7
import Derived.Deep.RegionLaw
import Derived.Deep.AppendLies
import Derived.OwnWalk
namespace Go.Proofs.YtfghfohlcofdpaaDoor
open Go Go.RowKit
set_option linter.unusedVariables false
set_option linter.unusedSimpArgs false

theorem info96 : (Tryd.prog.info? 97).map (fun i => (i.zero, i.size, i.bytes)) = some (some (.agg #[.string ⟨#[]⟩, .int .i64 0, .int .u64 0, .bool false, .bool false, .bool false]), 6, 48) := by kernel_rfl
set_option maxRecDepth 100000 in
set_option maxHeartbeats 4000000 in
theorem push_any (R : Nat) (v : Value) (x : Wt) (st : List Wt) (und : Bool) (w : World) (h : Rk w R v st und) (hst : st.length ≤ 1000000) :
    Calls Tryd.prog 48 #[.pointer (some ⟨R, 0, none⟩), x.v] w fun e w' => e = .returned (.tuple #[]) ∧ (∃ v', Rk w' R v' (x :: st) und) ∧ Fk R w w' := by
  have hlR := h.lt
  have hb1 := below_new w (.cells #[.string ⟨x.sign.toArray⟩, .int .i64 x.lev, .int .u64 x.a.b, .bool x.a.u, .bool x.taken, .bool x.skips] 97)
  have hn1 := World.alloc_heap_new w (.cells #[.string ⟨x.sign.toArray⟩, .int .i64 x.lev, .int .u64 x.a.b, .bool x.a.u, .bool x.taken, .bool x.skips] 97)
  have hk1 := h.next hb1
  have hz1 : (w.alloc (.cells #[.string ⟨x.sign.toArray⟩, .int .i64 x.lev, .int .u64 x.a.b, .bool x.a.u, .bool x.taken, .bool x.skips] 97)).heap.size = w.heap.size + 1 := by simp
  have hown : ∀ g, v.ownBlock = some g → R + 1 ≤ g ∧ g < w.heap.size ∧ ∃ cur, w.heap[g]? = some (.cells cur 97 (0, 0)) := fun g hg => by
    rcases h.row.2 with ⟨e, _⟩ | ⟨g', cap, cur, e, a1, a2, _⟩
    · rw [e] at hg; cases hg
    · rw [e] at hg
      obtain rfl : g' = g := by simpa [Value.ownBlock] using hg
      exact ⟨a1, (Array.getElem?_eq_some_iff.1 a2).1, cur, a2⟩
  obtain ⟨i0, hi0, hq0, hq1, hq2⟩ := info_parts info96
  obtain ⟨q, cp, hvq⟩ := ownsRow_slice h.row
  obtain ⟨c0, c1, c2⟩ := hk1.three
  obtain ⟨⟨x0, x1, x2, x3, x4, x5⟩, _⟩ := sixes hn1
  obtain ⟨s, lev, ⟨ab, au⟩, taken, skips⟩ := x
  simp only [Wt.v] at *
  have HK1 := hide hk1
  have HN1 := hide hn1
  have HB1 := hide hb1
  have HOWN := hide hown
  have hf0 := hk1.frozen 0
  have hbo := below_new (w.alloc (.cells #[.string ⟨s.toArray⟩, .int .i64 lev, .int .u64 ab, .bool au, .bool taken, .bool skips] 97)) (.cells #[.string ⟨s.toArray⟩, .int .i64 lev, .int .u64 ab, .bool au, .bool taken, .bool skips] 97)
  have hk2 : Rk ((w.alloc (.cells #[.string ⟨s.toArray⟩, .int .i64 lev, .int .u64 ab, .bool au, .bool taken, .bool skips] 97)).alloc (.cells #[.string ⟨s.toArray⟩, .int .i64 lev, .int .u64 ab, .bool au, .bool taken, .bool skips] 97)).drew R v st und := by
    have a := hk1.next hbo
    exact ⟨a.box, a.row⟩
  have HK2 := hide hk2
  have HNEW : Hid (((w.alloc (.cells #[.string ⟨s.toArray⟩, .int .i64 lev, .int .u64 ab, .bool au, .bool taken, .bool skips] 97)).alloc (.cells #[.string ⟨s.toArray⟩, .int .i64 lev, .int .u64 ab, .bool au, .bool taken, .bool skips] 97)).drew.heap[w.heap.size + 1]? = some (.cells #[.string ⟨s.toArray⟩, .int .i64 lev, .int .u64 ab, .bool au, .bool taken, .bool skips] 97)) := by
    have a := World.alloc_heap_new (w.alloc (.cells #[.string ⟨s.toArray⟩, .int .i64 lev, .int .u64 ab, .bool au, .bool taken, .bool skips] 97)) (.cells #[.string ⟨s.toArray⟩, .int .i64 lev, .int .u64 ab, .bool au, .bool taken, .bool skips] 97)
    rw [hz1] at a
    exact a
  have hzz : ((w.alloc (.cells #[.string ⟨s.toArray⟩, .int .i64 lev, .int .u64 ab, .bool au, .bool taken, .bool skips] 97)).alloc (.cells #[.string ⟨s.toArray⟩, .int .i64 lev, .int .u64 ab, .bool au, .bool taken, .bool skips] 97)).drew.heap.size = w.heap.size + 2 := by
    show ((w.alloc (.cells #[.string ⟨s.toArray⟩, .int .i64 lev, .int .u64 ab, .bool au, .bool taken, .bool skips] 97)).alloc (.cells #[.string ⟨s.toArray⟩, .int .i64 lev, .int .u64 ab, .bool au, .bool taken, .bool skips] 97)).heap.size = _
    simp
  have HZZ := hide hzz
  have HXB : Hid (((w.alloc (.cells #[.string ⟨s.toArray⟩, .int .i64 lev, .int .u64 ab, .bool au, .bool taken, .bool skips] 97)).alloc (.cells #[.string ⟨s.toArray⟩, .int .i64 lev, .int .u64 ab, .bool au, .bool taken, .bool skips] 97)).drew.heap[w.heap.size]? = some (.cells #[.string ⟨s.toArray⟩, .int .i64 lev, .int .u64 ab, .bool au, .bool taken, .bool skips] 97)) := (hbo.block w.heap.size (by rw [hz1]; omega)).trans hn1
  have HF2 : Hid (Fk R w ((w.alloc (.cells #[.string ⟨s.toArray⟩, .int .i64 lev, .int .u64 ab, .bool au, .bool taken, .bool skips] 97)).alloc (.cells #[.string ⟨s.toArray⟩, .int .i64 lev, .int .u64 ab, .bool au, .bool taken, .bool skips] 97)).drew) := by
    have f := (Fk.of (R := R) hb1 (by omega)).trans (Fk.of (R := R) hbo (by rw [hz1]; omega))
    exact ⟨⟨f.below.os, f.below.tape, f.below.output, f.below.size, f.below.block⟩, f.keep⟩
  subst hvq
  clear hk1 hn1 hb1 hown h hk2 hbo hzz
  go_enter Tryd.func48, Tryd.ntmps48
  go_upto_region 1 with fail
  go_region_law (refine step_append_lies _ rfl (.tmp 8) (.tmp 10) 76 rfl (R + 1) 97 i0 _ 6 48 Tryd.underlying76 hi0 hq0 hq1 hq2 rfl (by decide) (.slice q st.length cp) st.length (wCells st.reverse) (by simp [Act.eval, Act.put]) (unhide HK2).row ⟨w.heap.size + 1, 0, none⟩ 1 1 [.string ⟨s.toArray⟩, .int .i64 lev, .int .u64 ab, .bool au, .bool taken, .bool skips] (by simp [Act.eval, Act.put]) rfl (World.news_of_block (cs := #[.string ⟨s.toArray⟩, .int .i64 lev, .int .u64 ab, .bool au, .bool taken, .bool skips]) (t := 97) (fr := (0, 0)) (unhide HNEW)) (by simp [Value.oneCell']) (by decide) (by unfold maxLen; omega) (by omega) (by rw [unhide HZZ]; omega) _ (unhide HZZ) ?_
                 intro g' cap' W4 hrow4 hgr4 hor4 hlt4
                 have hbox4 := (hgr4.block R (by rw [unhide HZZ]; omega) (fun e => by have := (unhide HOWN _ e.symm).1; omega)).trans (unhide HK2).box
                 have d0 : W4.cell? ⟨R, 0, none⟩ = some (.slice q st.length cp) := by rw [World.cell?, hbox4]; rfl
                 have g0 : W4.frozen? ⟨R, 0, none⟩ = false := by simp [World.frozen?, hbox4]
                 have HBX4 := hide hbox4
                 have HRW4 := hide hrow4
                 have HGR4 := hide hgr4
                 have hx4 := (hgr4.block w.heap.size (by rw [unhide HZZ]; omega) (fun e => by have := (unhide HOWN _ e.symm).2.1; omega)).trans (unhide HXB)
                 have HX4 := hide hx4
                 clear hbox4 hrow4 hgr4 hor4 hx4)
  all_goals (
    have HB5 := hide (set_block (unhide HBX4) 0 (.slice (some ⟨g', 0, none⟩) (st.length + 1) cap'))
    have HW5 := hide (ownsRow_setCell (b := R) (i := 0) (unhide HRW4) (Nat.lt_succ_self _) (.slice (some ⟨g', 0, none⟩) (st.length + 1) cap'))
    have HX5 := hide ((Below.heap_setCell W4 ⟨R, 0, none⟩ (.slice (some ⟨g', 0, none⟩) (st.length + 1) cap') w.heap.size (by show w.heap.size ≠ R; omega)).trans (unhide HX4))
    have HF4 : Hid (Fk R w W4) := ⟨(unhide HF2).below.grown (unhide HGR4) (by rw [unhide HZZ]; omega) (fun k e => by have := (unhide HOWN _ e).1; omega), fun b hb h1 h2 => by
      have e := (unhide HF2).keep b hb h1 h2
      refine ((unhide HGR4).block b (by rw [unhide HZZ]; omega) (fun ee => ?_)).trans e
      obtain ⟨_, _, cur, hcur⟩ := unhide HOWN _ ee.symm
      exact h2 _ _ hcur⟩
    have HF5 := hide ((unhide HF4).setCell (M := R) (i := 0) (Nat.le_refl _) (unhide HBX4) (.inl rfl) (.slice (some ⟨g', 0, none⟩) (st.length + 1) cap'))
    clear HBX4 HRW4 HGR4 HX4 HF4 HF2 HXB HK2 HNEW HZZ HK1 HN1 HB1 HOWN d0 g0 c0 c1 c2 x0 x1 x2 x3 x4 x5 hf0
    generalize W4.setCell ⟨R, 0, none⟩ (.slice (some ⟨g', 0, none⟩) (st.length + 1) cap') = W5 at *
    obtain ⟨⟨x0, x1, x2, x3, x4, x5⟩, _⟩ := sixes (unhide HX5)
    have c1 : W5.cell? ⟨R, 1, none⟩ = some (.int .i64 (skN st)) := by rw [World.cell?, unhide HB5]; rfl
    have f1 : W5.frozen? ⟨R, 1, none⟩ = false := by simp [World.frozen?, unhide HB5]
    have hs0 := skN_nonneg st
    have hs9 : skN st ≤ 1000000 := by have := skN_le st; omega
    have HWR : Hid (W5.ownsRow (R + 1) 97 6 (.slice (some ⟨g', 0, none⟩) (st.length + 1) cap') ((⟨s, lev, ⟨ab, au⟩, taken, skips⟩ : Wt) :: st).length (wCells ((⟨s, lev, ⟨ab, au⟩, taken, skips⟩ : Wt) :: st).reverse)) := by
      rw [Hid, List.length_cons, List.reverse_cons, wCells_snoc]
      exact unhide HW5
    cases skips
    · have HKF : Hid (Rk W5 R (.slice (some ⟨g', 0, none⟩) (st.length + 1) cap') (⟨s, lev, ⟨ab, au⟩, taken, false⟩ :: st) und) := ⟨by rw [skN_cons]; exact unhide HB5, unhide HWR⟩
      go_wp2
      refine bodyPost_end (results_none (fn := Tryd.f48) rfl _ _ _) rfl ⟨rfl, ⟨_, unhide HKF⟩, unhide HF5⟩
    · have HKF : Hid (Rk (W5.setCell ⟨R, 1, none⟩ (.int .i64 (skN st + 1))) R (.slice (some ⟨g', 0, none⟩) (st.length + 1) cap') (⟨s, lev, ⟨ab, au⟩, taken, true⟩ :: st) und) := ⟨by rw [skN_cons]; exact set_block (unhide HB5) 1 _, ownsRow_setCell (unhide HWR) (Nat.lt_succ_self _) _⟩
      have HF6 := hide ((unhide HF5).setCell (M := R) (i := 1) (Nat.le_refl _) (unhide HB5) (.inl rfl) (.int .i64 (skN st + 1)))
      generalize skN st = kk at *
      go_wp2
      refine bodyPost_end (results_none (fn := Tryd.f48) rfl _ _ _) rfl ⟨rfl, ⟨_, unhide HKF⟩, unhide HF6⟩)
end Go.Proofs.YtfghfohlcofdpaaDoor
