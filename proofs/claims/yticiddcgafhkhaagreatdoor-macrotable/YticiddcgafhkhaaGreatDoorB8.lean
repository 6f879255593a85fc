/-
  The reference's table: Define of a new name, the walk.
-/
import Derived.Test.YticiddcgafhkhaaGreatDoorBh
namespace Go.Proofs.YticiddcgafhkhaaGreatDoor
open Go Go.RowKit
set_option linter.unusedVariables false
set_option linter.unusedSimpArgs false

set_option maxRecDepth 100000 in
set_option maxHeartbeats 8000000 in
theorem rDefine_new (rb : Nat) (ms : List Me) (x : Me) (w : World) (hT : RTab w rb ms) (hl : ms.length < 1000) (hf : McFits x.m) (hr : rightM x.m = true) (hx : McV w.heap.size w x.v x.m) (hin : x.m.name ∉ ms.map (fun x => x.m.name)) :
    Calls Tryz.prog 9 #[.pointer (some ⟨rb, 0, none⟩), x.v] w fun e w' => e = .returned (.int .i64 0) ∧ RTab w' rb (insL nmE ms x) ∧ Fr w w' rb ∧ Below rb w w' ∧ RNew w w' rb := by
  obtain ⟨q1, k1, q2, k2, e1, e2⟩ := me_slices hx
  have HRt := hide (fun W (hB : Below w.heap.size w W) => rRight_any x.v x.m W hf (hx.below hB))
  rw [right_same, hr] at HRt
  have HFi := hide (fun W (hB : Below w.heap.size w W) => rfind_any rb ms x.m.name W (hT.next hB) (by omega))
  have HIN := hide hin
  have HT := hide hT
  have HX := hide hx
  have hrbw := hT.lt
  clear hT hx hf hr hin
  obtain ⟨⟨xn, xf, xp, xm, xb⟩, pv, bv⟩ := x
  simp only [Me.v] at *
  subst e1 e2
  have hb0 := (Below.refl w.heap.size w).alloc (Nat.le_refl _) (.cells #[.string ⟨xn.toArray⟩, .bool xf, .slice q1 xp.length k1, .bool xm, .slice q2 xb.length k2] 33)
  have hm0 : MBox (w.alloc (.cells #[.string ⟨xn.toArray⟩, .bool xf, .slice q1 xp.length k1, .bool xm, .slice q2 xb.length k2] 33)) w.heap.size (.string ⟨xn.toArray⟩) xf (.slice q1 xp.length k1) xm (.slice q2 xb.length k2) := World.alloc_heap_new w _
  have HB0 := hide hb0
  have HM0 := hide hm0
  clear hb0 hm0
  go_enter Tryz.func9, Tryz.ntmps9
  go_wp2_with fail
  refine (unhide HRt _ (unhide HB0)).mono ?_
  rintro e W1 ⟨rfl, hb1⟩
  have HB1 : Hid (Below w.heap.size w W1) := (unhide HB0).trans (hb1.mono (by simp))
  have HM1 := hide ((unhide HM0).below hb1 (by simp))
  clear hb1 HRt HB0 HM0
  obtain ⟨m0, m1, m2, m3, m4⟩ := (unhide HM1).five
  go_wp2_with fail
  refine (unhide HFi _ (unhide HB1)).mono ?_
  rintro e W2 ⟨rfl, ⟨hno, rfl⟩ | ⟨i, hi, hn, rfl⟩⟩
  rotate_left
  · exact absurd (List.mem_map.2 ⟨_, List.getElem_mem hi, hn⟩) (unhide HIN)
  · obtain ⟨p, cap, hbx, hG⟩ := (unhide HT).next (unhide HB1)
    have c0 := RTab.cell hbx
    have HBX := hide hbx
    have HG := hide hG
    clear hno HFi hbx hG
    have hk1 : ¬ (1000 : Int) ≤ (ms.length : Int) := by omega
    go_wp2
    have HTw := hide (unhide HT)
    go_loopg [7] ms.length (fun gk vi wr => ∃ (k : Nat), gk = ms.length - k ∧ vi = .int .i64 k ∧ k ≤ ms.length ∧ Hid (Below W2.heap.size W2 wr) ∧ Hid (∀ (j : Nat) (h : j < ms.length), j < k → nmE ms[j] < xn))
    case atStart => exact ⟨0, rfl, rfl, by omega, Below.refl _ _, fun j _ h => by omega⟩
    case round =>
      obtain ⟨k, rfl, rfl, hk, HBr, HN⟩ := hrel
      have HMr := hide ((unhide HM1).below (unhide HBr) (unhide HM1).lt)
      have HGr := hide ((unhide HG).next (unhide HBr))
      have hrb2 : rb < W2.heap.size := Nat.lt_of_lt_of_le hrbw (unhide HB1).size
      have c0r : wr.cell? ⟨rb, 0, none⟩ = some (.slice p ms.length cap) := ((unhide HBr).cell (p := ⟨rb, 0, none⟩) hrb2).trans c0
      obtain ⟨r0, r1, r2, r3, r4⟩ := (unhide HMr).five
      clear c0 m0 m1 m2 m3 m4
      by_cases hlt : k < ms.length
      · have i1 : (k : Int) < (ms.length : Int) := by omega
        have i2 : decide ((k : Int) < (ms.length : Int)) = true := by simpa using hlt
        obtain ⟨g, o, rfl, hg, t0, t1, t2, t3, t4⟩ := (unhide HGr).five k hlt
        clear t1 t2 t3 t4
        have hls := _root_.Go.Proofs.bytesLess_eq ms[k].m.name xn
        by_cases hx : ms[k].m.name < xn
        · rw [decide_eq_true hx] at hls
          have HN2 : Hid (∀ (j : Nat) (h : j < ms.length), j < k + 1 → nmE ms[j] < xn) := fun j hj h => by
            rcases Nat.lt_succ_iff_lt_or_eq.1 h with h | rfl
            · exact unhide HN j hj h
            · exact hx
          clear hx HN
          generalize ms[k].m.name = nm at *
          go_upto_region 12 with fail
          go_quiet (fail)
          go_wp2
          go_roundg (ms.length - (k + 1))
          case measure => omega
          case rel => exact ⟨k + 1, rfl, by simp, by omega, below_drewK (unhide HBr) nq, HN2⟩
        · rw [decide_eq_false hx] at hls
          have hat : Hid (k = atL nmE ms xn) := atL_is hk (unhide HN) (fun h => hx)
          clear hx HN
          generalize ms[k].m.name = nm at *
          go_upto_region 12 with fail
          go_quiet (fail)
          have HB3 := hide (below_drewK (unhide HBr) nq)
          have HM3 := hide ((unhide HM1).below (unhide HB3) (unhide HM1).lt)
          have HG3 := hide ((unhide HG).next (unhide HB3))
          have c03 : (wr.drewN nq).cell? ⟨rb, 0, none⟩ = some (.slice (some ⟨g, o, none⟩) ms.length cap) := c0r
          generalize wr.drewN nq = W3 at *
          clear c0r t0 r0 r1 r2 r3 r4 HBr HMr HGr nq HG HM1 HTw
          have HBX3 : Hid (W3.heap[rb]? = some (.cells #[.slice (some ⟨g, o, none⟩) ms.length cap] 29 (0, 0))) := ((unhide HB3).block rb hrb2).trans (unhide HBX)
          clear HBX
          have hkl : k ≤ ms.length := hk
          have HC3 := hide c03
          obtain ⟨C, hCs, hmk0⟩ := make_me ms.length (by omega)
          have hmk : ∀ W : World, (Instr.makeSlice 27 (.int .i64 0) (.int .i64 (IntKind.i64.wrap ((ms.length : Int) + 1)))).run Tryz.prog W = .ok (.slice (some ⟨W.heap.size, 0, none⟩) 0 (ms.length + 1)) (W.alloc (.cells C 33)) := fun W => by
            rw [show IntKind.i64.wrap ((ms.length : Int) + 1) = (ms.length : Int) + 1 by rw [IntKind.wrap_i64]; omega]
            exact hmk0 W
          clear hmk0
          have hs1 := slice_first (some ⟨g, o, none⟩) ms.length cap k (by have := (unhide HG3).len; omega)
          have hs2 := slice_last (some ⟨g, o, none⟩) ms.length cap k (by omega)
          have HLST := hide (fun (W : World) (h : RtG W.heap.size W (some ⟨g, o, none⟩) cap ms) => h.last (k := k) hk)
          generalize hP2 : (if cap = k then ((some ⟨g, o, none⟩) : Option Addr) else ((some ⟨g, o, none⟩) : Option Addr).map (·.add (k * 5))) = P2 at *
          clear hP2
          have HOWN : Hid (((W3.alloc (.cells C 33)).drew).ownsRow W3.heap.size 33 5 (.slice (some ⟨W3.heap.size, 0, none⟩) 0 (ms.length + 1)) 0 []) := World.ownsRow_made W3 C (ms.length + 1) (Nat.le_refl _) (by unfold maxLen; omega) hCs
          have HBa : Hid (Below W3.heap.size W3 ((W3.alloc (.cells C 33)).drew)) := below_drewK ((Below.refl _ W3).alloc (Nat.le_refl _) _) 1
          have HSa := hide (((unhide HG3).next (unhide HBa)).first hkl)
          have hz3 : w.heap.size < W3.heap.size := (unhide HM3).lt
          have hrb3 : rb < W3.heap.size := by omega
          go_upto_region 14 with fail
          go_region_law (refine step_append_me rfl (.tmp 63) (.tmp 69) rfl (base := W3.heap.size) (v := .slice (some ⟨W3.heap.size, 0, none⟩) 0 (ms.length + 1)) (n := 0) (xs := []) (by simp [Act.eval, Act.put]) (unhide HOWN) (p := (some ⟨g, o, none⟩)) (m := k) (c := cap) (news := meCells (ms.take k)) (by simp [Act.eval, Act.put]) (unhide HSa) (by omega) (by show W3.heap.size ≤ (W3.alloc (.cells C 33)).heap.size; simp) ?_
                         intro v4 W4 hrow4 hgr4
                         have HB4 : Hid (Below W3.heap.size W3 W4) := (unhide HBa).grown hgr4 (by show W3.heap.size ≤ (W3.alloc (.cells C 33)).heap.size; simp) (by intro r hr; simp [Value.ownBlock] at hr; omega)
                         have HR4 : Hid (W4.ownsRow W3.heap.size 33 5 v4 k (meCells (ms.take k))) := by rw [Nat.zero_add, List.nil_append] at hrow4; exact hrow4
                         clear hrow4 hgr4)
          all_goals (
            obtain ⟨q4, c4, rfl⟩ := row_slice (unhide HR4)
            have HM4 := hide ((unhide HM3).below (unhide HB4) (unhide HM3).lt)
            have HG4 := hide ((unhide HG3).next (unhide HB4))
            have hz4 := (unhide HB4).size
            have c04 : W4.cell? ⟨rb, 0, none⟩ = some (.slice (some ⟨g, o, none⟩) ms.length cap) := ((unhide HB4).cell (p := ⟨rb, 0, none⟩) hrb3).trans c03
            obtain ⟨y0, y1, y2, y3, y4⟩ := (unhide HM4).five
            clear HOWN HBa HSa c03 hmk hs1
            have hba := (Below.refl W4.heap.size W4).alloc (Nat.le_refl _) (.cells #[.string ⟨xn.toArray⟩, .bool xf, .slice q1 xp.length k1, .bool xm, .slice q2 xb.length k2] 33)
            have HRa := hide (ownsRow_bel (unhide HR4) hba)
            have HO4 := hide (unhide HR4).lt
            have HBa : Hid (Below W3.heap.size W3 (W4.alloc (.cells #[.string ⟨xn.toArray⟩, .bool xf, .slice q1 xp.length k1, .bool xm, .slice q2 xb.length k2] 33))) := (unhide HB4).trans (hba.mono hz4)
            have HS1 : Hid (Srcs (W4.alloc (.cells #[.string ⟨xn.toArray⟩, .bool xf, .slice q1 xp.length k1, .bool xm, .slice q2 xb.length k2] 33)) (some ⟨W4.heap.size, 0, none⟩) 1 1 [.string ⟨xn.toArray⟩, .bool xf, .slice q1 xp.length k1, .bool xm, .slice q2 xb.length k2]) := by
              refine ⟨rfl, fun a ha j u hj => ?_, fun h => by (cases h), fun u hu => ?_⟩
              · cases ha
                have hn := World.alloc_heap_new W4 (.cells #[.string ⟨xn.toArray⟩, .bool xf, .slice q1 xp.length k1, .bool xm, .slice q2 xb.length k2] 33)
                rw [add_plainB, Nat.zero_add, World.cell?, hn]
                simpa using hj
              · simp only [List.mem_cons, List.not_mem_nil, or_false] at hu
                rcases hu with rfl | rfl | rfl | rfl | rfl <;> rfl
            clear hba HR4 HB4
            go_wp2_with (at_builtin; refine wpList_append_me rfl _ _ rfl rfl (unhide HRa) rfl (unhide HS1) (by omega) (by simp; omega) ?_)
            intro v6 W6 hrow6 hgr6
            obtain ⟨q6, c6, rfl⟩ := row_slice hrow6
            have HR6 := hide hrow6
            have HO6 := hide hrow6.lt
            have HB6 : Hid (Below W3.heap.size W3 W6) := (unhide HBa).grown hgr6 (by simp; omega) (by intro r hr; exact (unhide HO4 r hr).1)
            clear hrow6 hgr6 HRa HS1 HBa c04 y0 y1 y2 y3 y4 HM4 HG4 hz4
            have HG6 := hide ((unhide HG3).next (unhide HB6))
            have hz6 := (unhide HB6).size
            have c06 : W6.cell? ⟨rb, 0, none⟩ = some (.slice (some ⟨g, o, none⟩) ms.length cap) := ((unhide HB6).cell (p := ⟨rb, 0, none⟩) hrb3).trans (unhide HC3)
            have HS2 := hide (unhide HLST W6 (unhide HG6))
            go_wp2_with (at_builtin; refine wpList_append_me rfl _ _ rfl rfl (unhide HR6) rfl (unhide HS2) (by omega) (by omega) ?_)
            intro v7 W7 hrow7 hgr7
            obtain ⟨q7, c7, rfl⟩ := row_slice hrow7
            have HB7 : Hid (Below W3.heap.size W3 W7) := (unhide HB6).grown hgr7 hz6 (by intro r hr; exact (unhide HO6 r hr).1)
            have HR7 := hide hrow7
            clear hrow7 hgr7 HS2 HR6 HO6 c06 HG6
            have HBW : Hid (Below w.heap.size w W7) := (unhide HB1).trans (((unhide HB3).trans ((unhide HB7).mono (unhide HB3).size)).mono (unhide HB1).size)
            have HG7 := hide ((unhide HG3).next (unhide HB7))
            have HPUT := hide ((unhide HT).put (ms' := insL nmE ms ⟨⟨xn, xf, xp, xm, xb⟩, .slice q1 xp.length k1, .slice q2 xb.length k2⟩) (unhide HBW) (ins_row (unhide HR7) (unhide hat) hk (Nat.le_of_lt hz3)) (ins_each (unhide HG7).each ((unhide HX).below (unhide HBW))))
            have hb7 : W7.heap[rb]? = some (.cells #[.slice (some ⟨g, o, none⟩) ms.length cap] 29 (0, 0)) := ((unhide HB7).block rb hrb3).trans (unhide HBX3)
            have fz : W7.frozen? ⟨rb, 0, none⟩ = false := by simp [World.frozen?, hb7]
            have c07 := RTab.cell hb7
            clear hb7
            go_wp2
            go_ret
            exact ⟨rfl, (unhide HPUT).1, (unhide HPUT).2.1, (unhide HPUT).2.2⟩)
      · have i2 : decide ((k : Int) < (ms.length : Int)) = false := by simpa using hlt
        have hat : Hid (k = atL nmE ms xn) := atL_is hk (unhide HN) (fun h => absurd h hlt)
        clear HN
        go_upto_region 12 with fail
        go_quiet (fail)
        have HB3 := hide (below_drewK (unhide HBr) nq)
        have HM3 := hide ((unhide HM1).below (unhide HB3) (unhide HM1).lt)
        have HG3 := hide ((unhide HG).next (unhide HB3))
        have c03 : (wr.drewN nq).cell? ⟨rb, 0, none⟩ = some (.slice p ms.length cap) := c0r
        generalize wr.drewN nq = W3 at *
        clear c0r r0 r1 r2 r3 r4 HBr HMr HGr nq HG HM1 HTw
        have HBX3 : Hid (W3.heap[rb]? = some (.cells #[.slice p ms.length cap] 29 (0, 0))) := ((unhide HB3).block rb hrb2).trans (unhide HBX)
        clear HBX
        have hkl : k ≤ ms.length := hk
        have HC3 := hide c03
        obtain ⟨C, hCs, hmk0⟩ := make_me ms.length (by omega)
        have hmk : ∀ W : World, (Instr.makeSlice 27 (.int .i64 0) (.int .i64 (IntKind.i64.wrap ((ms.length : Int) + 1)))).run Tryz.prog W = .ok (.slice (some ⟨W.heap.size, 0, none⟩) 0 (ms.length + 1)) (W.alloc (.cells C 33)) := fun W => by
          rw [show IntKind.i64.wrap ((ms.length : Int) + 1) = (ms.length : Int) + 1 by rw [IntKind.wrap_i64]; omega]
          exact hmk0 W
        clear hmk0
        have hs1 := slice_first p ms.length cap k (by have := (unhide HG3).len; omega)
        have hs2 := slice_last p ms.length cap k (by omega)
        have HLST := hide (fun (W : World) (h : RtG W.heap.size W p cap ms) => h.last (k := k) hk)
        generalize hP2 : (if cap = k then (p : Option Addr) else (p : Option Addr).map (·.add (k * 5))) = P2 at *
        clear hP2
        have HOWN : Hid (((W3.alloc (.cells C 33)).drew).ownsRow W3.heap.size 33 5 (.slice (some ⟨W3.heap.size, 0, none⟩) 0 (ms.length + 1)) 0 []) := World.ownsRow_made W3 C (ms.length + 1) (Nat.le_refl _) (by unfold maxLen; omega) hCs
        have HBa : Hid (Below W3.heap.size W3 ((W3.alloc (.cells C 33)).drew)) := below_drewK ((Below.refl _ W3).alloc (Nat.le_refl _) _) 1
        have HSa := hide (((unhide HG3).next (unhide HBa)).first hkl)
        have hz3 : w.heap.size < W3.heap.size := (unhide HM3).lt
        have hrb3 : rb < W3.heap.size := by omega
        go_upto_region 14 with fail
        go_region_law (refine step_append_me rfl (.tmp 63) (.tmp 69) rfl (base := W3.heap.size) (v := .slice (some ⟨W3.heap.size, 0, none⟩) 0 (ms.length + 1)) (n := 0) (xs := []) (by simp [Act.eval, Act.put]) (unhide HOWN) (p := p) (m := k) (c := cap) (news := meCells (ms.take k)) (by simp [Act.eval, Act.put]) (unhide HSa) (by omega) (by show W3.heap.size ≤ (W3.alloc (.cells C 33)).heap.size; simp) ?_
                       intro v4 W4 hrow4 hgr4
                       have HB4 : Hid (Below W3.heap.size W3 W4) := (unhide HBa).grown hgr4 (by show W3.heap.size ≤ (W3.alloc (.cells C 33)).heap.size; simp) (by intro r hr; simp [Value.ownBlock] at hr; omega)
                       have HR4 : Hid (W4.ownsRow W3.heap.size 33 5 v4 k (meCells (ms.take k))) := by rw [Nat.zero_add, List.nil_append] at hrow4; exact hrow4
                       clear hrow4 hgr4)
        all_goals (
          obtain ⟨q4, c4, rfl⟩ := row_slice (unhide HR4)
          have HM4 := hide ((unhide HM3).below (unhide HB4) (unhide HM3).lt)
          have HG4 := hide ((unhide HG3).next (unhide HB4))
          have hz4 := (unhide HB4).size
          have c04 : W4.cell? ⟨rb, 0, none⟩ = some (.slice p ms.length cap) := ((unhide HB4).cell (p := ⟨rb, 0, none⟩) hrb3).trans c03
          obtain ⟨y0, y1, y2, y3, y4⟩ := (unhide HM4).five
          clear HOWN HBa HSa c03 hmk hs1
          have hba := (Below.refl W4.heap.size W4).alloc (Nat.le_refl _) (.cells #[.string ⟨xn.toArray⟩, .bool xf, .slice q1 xp.length k1, .bool xm, .slice q2 xb.length k2] 33)
          have HRa := hide (ownsRow_bel (unhide HR4) hba)
          have HO4 := hide (unhide HR4).lt
          have HBa : Hid (Below W3.heap.size W3 (W4.alloc (.cells #[.string ⟨xn.toArray⟩, .bool xf, .slice q1 xp.length k1, .bool xm, .slice q2 xb.length k2] 33))) := (unhide HB4).trans (hba.mono hz4)
          have HS1 : Hid (Srcs (W4.alloc (.cells #[.string ⟨xn.toArray⟩, .bool xf, .slice q1 xp.length k1, .bool xm, .slice q2 xb.length k2] 33)) (some ⟨W4.heap.size, 0, none⟩) 1 1 [.string ⟨xn.toArray⟩, .bool xf, .slice q1 xp.length k1, .bool xm, .slice q2 xb.length k2]) := by
            refine ⟨rfl, fun a ha j u hj => ?_, fun h => by (cases h), fun u hu => ?_⟩
            · cases ha
              have hn := World.alloc_heap_new W4 (.cells #[.string ⟨xn.toArray⟩, .bool xf, .slice q1 xp.length k1, .bool xm, .slice q2 xb.length k2] 33)
              rw [add_plainB, Nat.zero_add, World.cell?, hn]
              simpa using hj
            · simp only [List.mem_cons, List.not_mem_nil, or_false] at hu
              rcases hu with rfl | rfl | rfl | rfl | rfl <;> rfl
          clear hba HR4 HB4
          go_wp2_with (at_builtin; refine wpList_append_me rfl _ _ rfl rfl (unhide HRa) rfl (unhide HS1) (by omega) (by simp; omega) ?_)
          intro v6 W6 hrow6 hgr6
          obtain ⟨q6, c6, rfl⟩ := row_slice hrow6
          have HR6 := hide hrow6
          have HO6 := hide hrow6.lt
          have HB6 : Hid (Below W3.heap.size W3 W6) := (unhide HBa).grown hgr6 (by simp; omega) (by intro r hr; exact (unhide HO4 r hr).1)
          clear hrow6 hgr6 HRa HS1 HBa c04 y0 y1 y2 y3 y4 HM4 HG4 hz4
          have HG6 := hide ((unhide HG3).next (unhide HB6))
          have hz6 := (unhide HB6).size
          have c06 : W6.cell? ⟨rb, 0, none⟩ = some (.slice p ms.length cap) := ((unhide HB6).cell (p := ⟨rb, 0, none⟩) hrb3).trans (unhide HC3)
          have HS2 := hide (unhide HLST W6 (unhide HG6))
          go_wp2_with (at_builtin; refine wpList_append_me rfl _ _ rfl rfl (unhide HR6) rfl (unhide HS2) (by omega) (by omega) ?_)
          intro v7 W7 hrow7 hgr7
          obtain ⟨q7, c7, rfl⟩ := row_slice hrow7
          have HB7 : Hid (Below W3.heap.size W3 W7) := (unhide HB6).grown hgr7 hz6 (by intro r hr; exact (unhide HO6 r hr).1)
          have HR7 := hide hrow7
          clear hrow7 hgr7 HS2 HR6 HO6 c06 HG6
          have HBW : Hid (Below w.heap.size w W7) := (unhide HB1).trans (((unhide HB3).trans ((unhide HB7).mono (unhide HB3).size)).mono (unhide HB1).size)
          have HG7 := hide ((unhide HG3).next (unhide HB7))
          have HPUT := hide ((unhide HT).put (ms' := insL nmE ms ⟨⟨xn, xf, xp, xm, xb⟩, .slice q1 xp.length k1, .slice q2 xb.length k2⟩) (unhide HBW) (ins_row (unhide HR7) (unhide hat) hk (Nat.le_of_lt hz3)) (ins_each (unhide HG7).each ((unhide HX).below (unhide HBW))))
          have hb7 : W7.heap[rb]? = some (.cells #[.slice p ms.length cap] 29 (0, 0)) := ((unhide HB7).block rb hrb3).trans (unhide HBX3)
          have fz : W7.frozen? ⟨rb, 0, none⟩ = false := by simp [World.frozen?, hb7]
          have c07 := RTab.cell hb7
          clear hb7
          go_wp2
          go_ret
          exact ⟨rfl, (unhide HPUT).1, (unhide HPUT).2.1, (unhide HPUT).2.2⟩)
end Go.Proofs.YticiddcgafhkhaaGreatDoor
