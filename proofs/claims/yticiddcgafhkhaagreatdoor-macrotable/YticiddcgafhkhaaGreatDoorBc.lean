/-
  burinlaw03.MacroTable answers true for every script: the walk.
-/
import Derived.Test.YticiddcgafhkhaaGreatDoorBj
import Derived.Test.YticiddcgafhkhaaGreatDoorVz
import Derived.BigRegion
import Derived.Deep.RegionWith
import Derived.Deep.DeepCutAuto
namespace Go.Proofs.YticiddcgafhkhaaGreatDoor
open Go Go.RowKit
set_option linter.unusedVariables false
set_option linter.unusedSimpArgs false

theorem parse_me {w : World} {s : List UInt8} {e : Ending} {w' : World} (hs : s.length ≤ 140737488351232) (h : ParseP w (pmS s) e w') : ∃ x : Me, e = .returned (.tuple #[x.v, .int .i64 (errOf (pmS s))]) ∧ McV w'.heap.size w' x.v x.m ∧ McFits x.m ∧ (∀ N, N < w.heap.size → SepM N x.v) ∧ Below w.heap.size w w' := by
  generalize hR : pmS s = R at *
  obtain ⟨hb, (⟨rfl, rfl⟩ | ⟨m, x, rfl, rfl, hx, hn⟩)⟩ := h
  · exact ⟨zE, by rw [zE_v]; rfl, zE_has _ _, ⟨by simp [zE, zMc], by simp [zE, zMc], by simp [zE, zMc], by simp [zE, zMc], fun _ => by simp [zE, zMc, spG, spP]⟩, fun N _ => by rw [zE_v]; exact SepM.zero N, hb⟩
  · have hx' := hx
    obtain ⟨pv, bv, rfl, _⟩ := hx
    refine ⟨⟨m, pv, bv⟩, rfl, hx', (pmS_fit hs hR).2, fun N hN a f pv' mo bv' e => ?_, hb⟩
    obtain ⟨h1, h2⟩ := hn a f pv' mo bv' e
    exact ⟨fun g o n c hh _ => by have := h1 g o n c hh; omega, fun g o n c hh _ => by have := h2 g o n c hh; omega⟩
theorem opbox_cells {W : World} {N : Nat} {k : Int} {s xn : ByteArray} {xf xm : Bool} {pv bv : Value} (h : W.heap[N]? = some (.cells #[.int .i64 k, .string s, .string xn, .bool xf, pv, .bool xm, bv] 35 (0, 0))) :
    (W.cell? ⟨N, 0, none⟩ = some (.int .i64 k) ∧ W.cell? ⟨N, 1, none⟩ = some (.string s) ∧ W.cell? ⟨N, 2, none⟩ = some (.string xn) ∧ W.cell? ⟨N, 3, none⟩ = some (.bool xf) ∧ W.cell? ⟨N, 4, none⟩ = some pv ∧ W.cell? ⟨N, 5, none⟩ = some (.bool xm) ∧ W.cell? ⟨N, 6, none⟩ = some bv) ∧ W.frozen? ⟨N, 1, none⟩ = false := by
  refine ⟨⟨?_, ?_, ?_, ?_, ?_, ?_, ?_⟩, by simp [World.frozen?, h]⟩ <;> (rw [World.cell?, h]; rfl)
set_option maxRecDepth 100000 in
set_option maxHeartbeats 16000000 in
theorem table_walk (p : Option Addr) (cap : Nat) (l : List Oq) (w : World) (hlen : l.length ≤ 9223372036854775807) (hop : OpG w.heap.size w p l) (hft : ∀ q ∈ l, q.s.length ≤ 140737488351232 ∧ McFits q.x.m) (hw0 : 1 < w.heap.size) (hsg : Sg w) :
    Calls Tryz.prog 3 #[.slice p l.length cap] w fun e w' => e = .returned (.bool true) ∧ Below w.heap.size w w' := by
  have HSH := hide (shown_any w hw0 hsg)
  have HOP := hide hop
  have HFT := hide hft
  have HSG := hide hsg
  clear hop hft hsg
  go_enter Tryz.func3, Tryz.ntmps3
  go_wp2_with fail
  refine (unhide HSH).mono ?_
  rintro e W1 ⟨rfl, hb1⟩
  have HB1 := hide hb1
  clear hb1 HSH
  go_wp2_with fail
  refine (New_any W1).mono ?_
  rintro e W2 ⟨rfl, hT2, hb2, hz2⟩
  have HQ0 : Hid (Qs w (W1.heap.size + 1) W1.heap.size W2.heap.size [] zE [] [] (W2.alloc (.cells #[.slice none 0 0] 29))) := by
    have hba := (Below.refl W2.heap.size W2).alloc (Nat.le_refl _) (.cells #[.slice none 0 0] 29)
    have hz1 := (unhide HB1).size
    refine ⟨(Tab.new hT2).next hba, ⟨none, 0, World.alloc_heap_new W2 _, Nat.le_refl _, fun _ => rfl, Nat.zero_le _, fun i hi => by simp at hi, fun x hx => by cases hx⟩, ((unhide HB1).trans (hb2.mono hz1)).trans (hba.mono (by omega)), by omega, by omega, hz1, by omega, zE_has _ _, fun b o hk => by cases hk⟩
  clear hT2 hb2 hz2
  go_wp2
  generalize (W2.alloc (.cells #[.slice none 0 0] 29)) = W3 at *
  generalize hrbn : W2.heap.size = rb at *
  generalize htn : W1.heap.size + 1 = t at *
  generalize hmbn : W1.heap.size = mb at *
  clear hrbn htn hmbn HB1
  go_loopg [6] l.length (fun gk vi wr => ∃ (i : Nat) (es : List Mc) (ms : List Me), gk = l.length - i ∧ vi = .int .i64 i ∧ i ≤ l.length ∧ i ≤ 100 ∧ Hid (Qs w t mb rb [] zE es ms wr) ∧ Hid (Gd i es ms))
  case atStart => exact ⟨0, [], [], rfl, rfl, by omega, by omega, HQ0, ⟨rfl, List.Pairwise.nil, fun y hy => (by cases hy), Nat.le_refl _⟩⟩
  case round =>
    clear HQ0
    obtain ⟨i, es, ms, rfl, rfl, hi, hi100, HQ, HD⟩ := hrel
    by_cases hlt : i < l.length ∧ i < 100
    · obtain ⟨hlt1, hlt2⟩ := hlt
      have d1 : decide ((i : Int) < (l.length : Int)) = true := by simpa using hlt1
      have d2 : decide ((i : Int) < 100) = true := by simp; omega
      have i1 : (i : Int) < (l.length : Int) := by omega
      obtain ⟨g, o, rfl, hg, o0, o1, o2, o3, o4, o5, o6⟩ := ((unhide HOP).next (unhide HQ).bl).cell i hlt1
      have HXV := hide (((unhide HOP).next (unhide HQ).bl).each _ (List.getElem_mem hlt1))
      have HF := hide (unhide HFT _ (List.getElem_mem hlt1))
      have hsl := me_slices (unhide HXV)
      generalize l[i] = q at *
      obtain ⟨kind, s, x⟩ := q
      simp only at o0 o1 o2 o3 o4 o5 o6 HXV HF hsl
      have HMB := hide (unhide HQ).mbl
      have HQ1 : Hid (Qs w t mb rb [] x es ms wr) := (unhide HQ).with (unhide HXV)
      clear HQ HXV
      obtain ⟨⟨xn, xf, xp, xm, xb⟩, pv, bv⟩ := x
      simp only at o2 o3 o4 o5 o6 hsl
      obtain ⟨q1, k1, q2, k2, rfl, rfl⟩ := hsl
      have HQ2 : Hid (Qs w t mb rb [(wr.heap.size, .cells #[.int .i64 kind, .string ⟨s.toArray⟩, .string ⟨xn.toArray⟩, .bool xf, .slice q1 xp.length k1, .bool xm, .slice q2 xb.length k2] 35)] ⟨⟨xn, xf, xp, xm, xb⟩, .slice q1 xp.length k1, .slice q2 xb.length k2⟩ es ms (wr.alloc (.cells #[.int .i64 kind, .string ⟨s.toArray⟩, .string ⟨xn.toArray⟩, .bool xf, .slice q1 xp.length k1, .bool xm, .slice q2 xb.length k2] 35))) :=
        ((unhide HQ1).next ((Below.refl _ wr).alloc (Nat.le_refl _) _)).keep (World.alloc_heap_new wr _) (by have := (unhide HMB).1; omega) (by have := (unhide HMB).2; omega)
      have HSX : Hid (Sx wr.heap.size mb rb ms (wr.alloc (.cells #[.int .i64 kind, .string ⟨s.toArray⟩, .string ⟨xn.toArray⟩, .bool xf, .slice q1 xp.length k1, .bool xm, .slice q2 xb.length k2] 35))) := Sx.of (unhide HQ1) _
      have HXS : Hid (SepM wr.heap.size (Me.v ⟨⟨xn, xf, xp, xm, xb⟩, .slice q1 xp.length k1, .slice q2 xb.length k2⟩)) := SepM.of (unhide HQ1).xv (Nat.le_refl _)
      have HNE : Hid (wr.heap.size ≠ t ∧ wr.heap.size ≠ mb ∧ wr.heap.size ≠ rb ∧ w.heap.size ≤ wr.heap.size) := ⟨by have := (unhide HQ1).tab.lt; omega, by have := (unhide HMB).1; omega, by have := (unhide HMB).2; omega, (unhide HQ1).bl.size⟩
      clear HQ1 HMB
      obtain ⟨j, hj, hkind⟩ := rem3 kind
      go_upto_region 8 with fail
      generalize (wr.alloc (.cells #[.int .i64 kind, .string ⟨s.toArray⟩, .string ⟨xn.toArray⟩, .bool xf, .slice q1 xp.length k1, .bool xm, .slice q2 xb.length k2] 35)) = Wb at *
      generalize wr.heap.size = N at *
      clear o0 o1 o2 o3 o4 o5 o6 hg
      obtain ⟨⟨b0, b1, b2, b3, b4, b5, b6⟩, bf⟩ := opbox_cells ((unhide HQ2).kp _ _ List.mem_cons_self).1
      match j, hj, hkind with
      | 1, _, hkind =>
        simp only [Int.natCast_one] at hkind
        go_wp2_with fail
        refine (und10 (unhide HQ2) s (by have := (unhide HF).1; omega) (unhide HD).srt).mono ?_
        rintro e Wc ⟨rfl, hq3⟩
        have HQ3 := hide hq3
        clear hq3 HQ2 b0 b1 b2 b3 b4 b5 b6 bf
        obtain ⟨⟨b0, b1, b2, b3, b4, b5, b6⟩, bf⟩ := opbox_cells ((unhide HQ3).kp _ _ List.mem_cons_self).1
        go_wp2_with fail
        refine (und11 (unhide HQ3) s (by have := (unhide HD).few; have := (unhide HD).len; omega)).mono ?_
        rintro e Wd ⟨rfl, hq4⟩
        have HQ4 := hide hq4
        clear hq4 HQ3 b0 b1 b2 b3 b4 b5 b6 bf
        have HD4 := hide ((unhide HD).undef s)
        clear HD
        have hss : s.length ≤ 140737488355328 := by have := (unhide HF).1; omega
        obtain ⟨⟨b0, b1, b2, b3, b4, b5, b6⟩, bf⟩ := opbox_cells ((unhide HQ4).kp _ _ List.mem_cons_self).1
        generalize wo s es = es4 at *
        generalize hKK : [(N, (.cells #[.int .i64 kind, .string ⟨s.toArray⟩, .string ⟨xn.toArray⟩, .bool xf, .slice q1 xp.length k1, .bool xm, .slice q2 xb.length k2] 35 : Obj))] = KK at HQ4
        have HKK := hide hKK
        clear hKK
        generalize woM s ms = ms4 at *
        have HSS := hide hss
        clear hss
        obtain ⟨there, hth⟩ : ∃ b, decide (s ∈ es4.map Mc.name) = b := ⟨_, rfl⟩
        have HTH := hide hth
        clear hth
        go_wp2_with fail
        refine (Get_all t mb es4 s Wd (unhide HSS) (unhide HD4).fit (unhide HQ4).tab).mono ?_
        rintro e We ⟨hbe, a, he, hav, ha1, ha2⟩
        rw [unhide HTH] at he
        subst he
        have HFA := hide (get_fits (unhide HD4) ha1 ha2)
        obtain ⟨r1, u1, r2, u2', ea1, ea2⟩ := me_slices hav
        have HQ5 : Hid (Qs w t mb rb ((We.heap.size, .cells #[.string ⟨a.m.name.toArray⟩, .bool a.m.fn, a.pv, .bool a.m.more, a.bv] 33) :: KK) a es4 ms4 (We.alloc (.cells #[.string ⟨a.m.name.toArray⟩, .bool a.m.fn, a.pv, .bool a.m.more, a.bv] 33))) :=
          ((((unhide HQ4).next hbe).with hav).next ((Below.refl _ We).alloc (Nat.le_refl _) _)).keep (World.alloc_heap_new We _) (by have := (((unhide HQ4).next hbe).mbl).1; omega) (by have := (((unhide HQ4).next hbe).mbl).2; omega)
        have HA : Hid ((s ∈ es4.map Mc.name → a.m ∈ es4 ∧ a.m.name = s) ∧ (s ∉ es4.map Mc.name → a.m = zMc)) := ⟨ha1, ha2⟩
        clear hbe hav ha1 ha2 HQ4 b0 b1 b2 b3 b4 b5 b6 bf
        obtain ⟨⟨an, af, ap, am, ab⟩, apv, abv⟩ := a
        simp only [Me.v] at *
        subst ea1 ea2
        have hfew := (unhide HD4).few
        have hml := (unhide HD4).len
        obtain ⟨⟨b0, b1, b2, b3, b4, b5, b6⟩, bf⟩ := opbox_cells ((unhide HQ5).kp N _ (List.mem_cons_of_mem _ (by rw [← unhide HKK]; exact List.mem_cons_self))).1
        go_wp2_with fail
        refine (rGet_all rb es4 ms4 s _ (unhide HQ5).rt (unhide HD4) (by omega)).mono ?_
        rintro e Wf ⟨hbf, b, he, hbv, hb1, hb2⟩
        rw [unhide HTH] at he
        subst he
        obtain ⟨r3, u3, r4, u4, eb1, eb2⟩ := me_slices hbv
        have hab := get_same (unhide HD4) (unhide HA).1 (unhide HA).2 hb1 hb2
        obtain ⟨bm, bpv, bbv⟩ := b
        simp only at hab eb1 eb2 hbv
        subst hab
        simp only [Me.v] at *
        subst eb1 eb2
        have HQ6 : Hid (Qs w t mb rb ((Wf.heap.size, .cells #[.string ⟨an.toArray⟩, .bool af, .slice r3 ap.length u3, .bool am, .slice r4 ab.length u4] 33) :: (We.heap.size, .cells #[.string ⟨an.toArray⟩, .bool af, .slice r1 ap.length u1, .bool am, .slice r2 ab.length u2'] 33) :: KK) ⟨⟨an, af, ap, am, ab⟩, .slice r1 ap.length u1, .slice r2 ab.length u2'⟩ es4 ms4 (Wf.alloc (.cells #[.string ⟨an.toArray⟩, .bool af, .slice r3 ap.length u3, .bool am, .slice r4 ab.length u4] 33))) :=
          (((unhide HQ5).next hbf).next ((Below.refl _ Wf).alloc (Nat.le_refl _) _)).keep (World.alloc_heap_new Wf _) (by have := (((unhide HQ5).next hbf).mbl).1; omega) (by have := (((unhide HQ5).next hbf).mbl).2; omega)
        have HBV := hide (McV.below hbv ((Below.refl _ Wf).alloc (Nat.le_refl _) (.cells #[.string ⟨an.toArray⟩, .bool af, .slice r3 ap.length u3, .bool am, .slice r4 ab.length u4] 33)))
        clear hbf hbv hb1 hb2 HQ5 HA b0 b1 b2 b3 b4 b5 b6 bf
        go_upto_region 21 with fail
        generalize (Wf.alloc (.cells #[.string ⟨an.toArray⟩, .bool af, .slice r3 ap.length u3, .bool am, .slice r4 ab.length u4] 33)) = Wg at *
        generalize Wf.heap.size = M13 at *
        generalize We.heap.size = M11 at *
        have hma : MBox Wg M11 (.string ⟨an.toArray⟩) af (.slice r1 ap.length u1) am (.slice r2 ab.length u2') := ((unhide HQ6).kp _ _ (List.mem_cons_of_mem _ List.mem_cons_self)).1
        have hmb : MBox Wg M13 (.string ⟨an.toArray⟩) af (.slice r3 ap.length u3) am (.slice r4 ab.length u4) := ((unhide HQ6).kp _ _ List.mem_cons_self).1
        obtain ⟨a0, a1, a2, a3, a4⟩ := hma.five
        obtain ⟨c0, c1, c2, c3, c4⟩ := hmb.five
        have HEQ := hide (rEqual_any _ _ ⟨an, af, ap, am, ab⟩ ⟨an, af, ap, am, ab⟩ Wg (unhide HFA).ps (unhide HFA).body (unhide HQ6).xv (unhide HBV))
        simp only [Me.v, decide_true] at HEQ
        clear hma hmb HBV
        go_wp2_with fail
        refine (unhide HEQ).mono ?_
        rintro e Wh ⟨rfl, hbh⟩
        have HQ7 := hide ((unhide HQ6).next hbh)
        clear hbh HQ6 HEQ a0 a1 a2 a3 a4 c0 c1 c2 c3 c4
        have HN1 := hide (Names_tab t mb es4 Wh (unhide HQ7).tab (unhide HD4).srt.nodup (by omega))
        rw [(unhide HD4).srt.sorted] at HN1
        go_wp2_with fail
        refine (unhide HN1).mono ?_
        rintro e Wi ⟨v1, rfl, hr1, hbi⟩
        have HQ8 := hide ((unhide HQ7).next hbi)
        obtain ⟨n1q, n1c, rfl⟩ := row_slice hr1
        have HR1 := hide hr1
        clear hr1 hbi HQ7 HN1
        have HN2 := hide (rNames_any rb ms4 Wi (unhide HQ8).rt (by omega))
        rw [show ms4.map (fun x => x.m.name) = es4.map Mc.name by rw [← (unhide HD4).same, List.map_map]; rfl, hml] at HN2
        go_wp2_with fail
        refine (unhide HN2).mono ?_
        rintro e Wj ⟨v2, rfl, hr2, hbj⟩
        have HQ9 := hide ((unhide HQ8).next hbj)
        obtain ⟨n2q, n2c, rfl⟩ := row_slice hr2
        have HSN := hide (SameNames_eq n1q n2q n1c n2c es4.length (es4.map Mc.name) Wj (by simp) (by omega) ((StG.of (unhide HR1) (by simp)).below hbj |>.mono hbj.size) (StG.of hr2 (by simp)))
        clear hr2 hbj HQ8 HN2 HR1
        go_wp2_with fail
        refine (unhide HSN).mono ?_
        rintro e Wk ⟨rfl, hbk⟩
        have HQE := hide (((unhide HQ9).next hbk).none)
        clear hbk HQ9 HSN
        go_wp2
        go_roundg (l.length - (i + 1))
        case measure => omega
        case rel => exact ⟨i + 1, es4, ms4, rfl, by simp, by omega, by omega, HQE, HD4⟩
      | 0, _, hkind =>
        have hkz : (wrap64 (kind.tmod 3 + 3)).tmod 3 = 0 := hkind
        clear hkind
        have hw1 : 1 < Wb.heap.size := Nat.lt_of_lt_of_le hw0 (unhide HQ2).bl.size
        have HLX := hide (lexS_any s Wb (unhide HF).1 hw1 ((unhide HSG).below (unhide HQ2).bl hw0))
        go_wp2_with fail
        refine (unhide HLX).mono ?_
        rintro e Wl ⟨lq, ln, lc, rfl, hP, hbl⟩
        have HP := hide hP
        have HQ3 := hide ((unhide HQ2).next hbl)
        have HS3 := hide ((unhide HSX).next hbl (unhide HQ2).mbl.1 (unhide HQ2).mbl.2)
        clear hP hbl HLX HQ2 HSX b0 b1 b2 b3 b4 b5 b6 bf
        go_wp2_with fail
        refine (unhide HP _ (Below.refl _ _)).mono ?_
        intro e Wm hpp
        obtain ⟨y, he, hyv, hyf, hys, hbm⟩ := parse_me (unhide HF).1 hpp
        subst he
        have HYF := hide hyf
        have HYS := hide (hys N (unhide HS3).lt)
        obtain ⟨y1, z1, y2, z2, ey1, ey2⟩ := me_slices hyv
        have hal := (Below.refl Wm.heap.size Wm).alloc (Nat.le_refl _) (.cells #[.string ⟨y.m.name.toArray⟩, .bool y.m.fn, y.pv, .bool y.m.more, y.bv] 33)
        have HQ4a : Hid (Qs w t mb rb ((Wm.heap.size, .cells #[.string ⟨y.m.name.toArray⟩, .bool y.m.fn, y.pv, .bool y.m.more, y.bv] 33) :: [(N, .cells #[.int .i64 kind, .string ⟨s.toArray⟩, .string ⟨xn.toArray⟩, .bool xf, .slice q1 xp.length k1, .bool xm, .slice q2 xb.length k2] 35)]) y es ms (Wm.alloc (.cells #[.string ⟨y.m.name.toArray⟩, .bool y.m.fn, y.pv, .bool y.m.more, y.bv] 33))) :=
          ((((unhide HQ3).next hbm).with hyv).next hal).keep (World.alloc_heap_new Wm _) (by have := (((unhide HQ3).next hbm).mbl).1; omega) (by have := (((unhide HQ3).next hbm).mbl).2; omega)
        have HS4a := hide (((unhide HS3).next hbm (unhide HQ3).mbl.1 (unhide HQ3).mbl.2).next hal ((unhide HQ3).next hbm).mbl.1 ((unhide HQ3).next hbm).mbl.2)
        clear hpp hyv hyf hys hbm hal HQ3 HS3 HP
        obtain ⟨⟨yn, yf, yp, ym, yb⟩, pv, bv⟩ := y
        simp only [Me.v] at *
        subst ey1 ey2
        generalize errOf (pmS s) = er at *
        go_upto_region 14 with fail
        generalize (Wm.alloc (.cells #[.string ⟨yn.toArray⟩, .bool yf, .slice y1 yp.length z1, .bool ym, .slice y2 yb.length z2] 33)) = Wn at *
        generalize Wm.heap.size = M9 at *
        obtain ⟨code, hcode⟩ : ∃ c, (defM es ⟨yn, yf, yp, ym, yb⟩).1 = c := ⟨_, rfl⟩
        have HCODE := hide hcode
        clear hcode
        have HQd := hide ((unhide HQ4a).next (below_drewK (Below.refl _ _) 1))
        have HSd := hide ((unhide HS4a).next (below_drewK (Below.refl _ _) 1) (unhide HQ4a).mbl.1 (unhide HQ4a).mbl.2)
        have hmx : MBox Wn M9 (.string ⟨yn.toArray⟩) yf (.slice y1 yp.length z1) ym (.slice y2 yb.length z2) := ((unhide HQ4a).kp _ _ List.mem_cons_self).1
        obtain ⟨b0, b1, b2, b3, b4⟩ := hmx.five
        clear hmx
        go_cut [8] (fun ok wx => ok = .bool true ∧ Hid (Qs w t mb rb ((M9, .cells #[.string ⟨yn.toArray⟩, .bool yf, .slice y1 yp.length z1, .bool ym, .slice y2 yb.length z2] 33) :: [(N, .cells #[.int .i64 kind, .string ⟨s.toArray⟩, .string ⟨xn.toArray⟩, .bool xf, .slice q1 xp.length k1, .bool xm, .slice q2 xb.length k2] 35)]) ⟨⟨yn, yf, yp, ym, yb⟩, .slice y1 yp.length z1, .slice y2 yb.length z2⟩ (defM es ⟨yn, yf, yp, ym, yb⟩).2 (defE ms ⟨⟨yn, yf, yp, ym, yb⟩, .slice y1 yp.length z1, .slice y2 yb.length z2⟩) wx) ∧ Hid (Sx N mb rb (defE ms ⟨⟨yn, yf, yp, ym, yb⟩, .slice y1 yp.length z1, .slice y2 yb.length z2⟩) wx))
        case first =>
          go_region_with (first
            | (go_at_call 8
               first
               | (refine (def8s (unhide HQR) (unhide HSR) (unhide HSG) hw0 (unhide HYF) (fun y hy => ((unhide HD).fit y hy).1) (unhide HD).srt (by have := (unhide HD).few; omega)).mono ?_
                  rintro e Wd0 ⟨he, hq, hs⟩
                  rw [unhide HCODE] at he
                  subst he
                  have HQ4 := hide hq
                  have HS4 := hide hs
                  clear hq hs)
               | (refine (def8s (unhide HQd) (unhide HSd) (unhide HSG) hw0 (unhide HYF) (fun y hy => ((unhide HD).fit y hy).1) (unhide HD).srt (by have := (unhide HD).few; omega)).mono ?_
                  rintro e Wc ⟨he, hq, hs⟩
                  rw [unhide HCODE] at he
                  subst he
                  have HQP := hide hq
                  have HSP := hide hs
                  clear hq hs
                  have hmy : MBox Wc M9 (.string ⟨yn.toArray⟩) yf (.slice y1 yp.length z1) ym (.slice y2 yb.length z2) := ((unhide HQP).kp _ _ List.mem_cons_self).1
                  obtain ⟨n0, n1, n2, n3, n4⟩ := hmy.five
                  clear hmy))
            | (go_at_call 9
               first
               | (refine (def9s (unhide HQP) (unhide HSP) (unhide HYS) (unhide HD) (unhide HYF) (by have := (unhide HD).few; omega)).mono ?_
                  rintro e Wd0 ⟨he, hq, hs⟩
                  rw [unhide HCODE] at he
                  subst he
                  have HQ4 := hide hq
                  have HS4 := hide hs
                  clear hq hs)
               | (refine (def9s (unhide HQd) (unhide HSd) (unhide HYS) (unhide HD) (unhide HYF) (by have := (unhide HD).few; omega)).mono ?_
                  rintro e Wc ⟨he, hq, hs⟩
                  rw [unhide HCODE] at he
                  subst he
                  have HQR := hide hq
                  have HSR := hide hs
                  clear hq hs
                  have hmy : MBox Wc M9 (.string ⟨yn.toArray⟩) yf (.slice y1 yp.length z1) ym (.slice y2 yb.length z2) := ((unhide HQR).kp _ _ List.mem_cons_self).1
                  obtain ⟨n0, n1, n2, n3, n4⟩ := hmy.five
                  clear hmy)))
          all_goals (go_wp2_with fail; go_meet; exact ⟨by simp, HQ4, HS4⟩)
        case rest =>
          rename World => Wd0
          obtain ⟨rfl, HQ4, HS4⟩ := hcut
          clear b0 b1 b2 b3 b4
          have hmz : MBox Wd0 M9 (.string ⟨yn.toArray⟩) yf (.slice y1 yp.length z1) ym (.slice y2 yb.length z2) := ((unhide HQ4).kp _ _ List.mem_cons_self).1
          obtain ⟨z0', z1', z2', z3', z4'⟩ := hmz.five
          have hbN := ((unhide HQ4).kp N _ (List.mem_cons_of_mem _ List.mem_cons_self)).1
          obtain ⟨⟨b0, b1, b2, b3, b4, b5, b6⟩, bf⟩ := opbox_cells hbN
          have HD4 := hide ((unhide HD).define ⟨⟨yn, yf, yp, ym, yb⟩, .slice y1 yp.length z1, .slice y2 yb.length z2⟩ (unhide HYF))
          have hss : yn.length ≤ 140737488355328 := (unhide HYF).name
          have HQ6 : Hid (Qs w t mb rb [(N, .cells #[.int .i64 kind, .string ⟨yn.toArray⟩, .string ⟨xn.toArray⟩, .bool xf, .slice q1 xp.length k1, .bool xm, .slice q2 xb.length k2] 35)] ⟨⟨yn, yf, yp, ym, yb⟩, .slice y1 yp.length z1, .slice y2 yb.length z2⟩ (defM es ⟨yn, yf, yp, ym, yb⟩).2 (defE ms ⟨⟨yn, yf, yp, ym, yb⟩, .slice y1 yp.length z1, .slice y2 yb.length z2⟩) (Wd0.setCell ⟨N, 1, none⟩ (.string ⟨yn.toArray⟩))) :=
            (qs_store (unhide HQ4) (unhide HS4) (unhide HYS) (unhide HNE).2.1 (unhide HNE).2.2.1 (unhide HNE).1 (unhide HNE).2.2.2 _).keep (by rw [set_blockR hbN]; rfl) (unhide HNE).2.1 (unhide HNE).2.2.1
          clear HD HQ4 HS4 HQ4a HS4a HQd HSd HCODE hmz hbN
          generalize (defM es ⟨yn, yf, yp, ym, yb⟩).2 = es4 at *
          generalize defE ms ⟨⟨yn, yf, yp, ym, yb⟩, .slice y1 yp.length z1, .slice y2 yb.length z2⟩ = ms4 at *
          go_upto_region 19 with fail
          generalize (Wd0.setCell ⟨N, 1, none⟩ (.string ⟨yn.toArray⟩)) = Wd at *
          clear b0 b1 b2 b3 b4 b5 b6 bf z0' z1' z2' z3' z4'
          have HQ4 := hide (unhide HQ6)
          clear HQ6
          obtain ⟨⟨b0, b1, b2, b3, b4, b5, b6⟩, bf⟩ := opbox_cells ((unhide HQ4).kp _ _ List.mem_cons_self).1
          generalize hKK : [(N, (.cells #[.int .i64 kind, .string ⟨yn.toArray⟩, .string ⟨xn.toArray⟩, .bool xf, .slice q1 xp.length k1, .bool xm, .slice q2 xb.length k2] 35 : Obj))] = KK at HQ4
          have HKK := hide hKK
          clear hKK
          have HSS := hide hss
          clear hss
          obtain ⟨there, hth⟩ : ∃ b, decide (yn ∈ es4.map Mc.name) = b := ⟨_, rfl⟩
          have HTH := hide hth
          clear hth
          go_wp2_with fail
          refine (Get_all t mb es4 yn Wd (unhide HSS) (unhide HD4).fit (unhide HQ4).tab).mono ?_
          rintro e We ⟨hbe, a, he, hav, ha1, ha2⟩
          rw [unhide HTH] at he
          subst he
          have HFA := hide (get_fits (unhide HD4) ha1 ha2)
          obtain ⟨r1, u1, r2, u2', ea1, ea2⟩ := me_slices hav
          have HQ5 : Hid (Qs w t mb rb ((We.heap.size, .cells #[.string ⟨a.m.name.toArray⟩, .bool a.m.fn, a.pv, .bool a.m.more, a.bv] 33) :: KK) a es4 ms4 (We.alloc (.cells #[.string ⟨a.m.name.toArray⟩, .bool a.m.fn, a.pv, .bool a.m.more, a.bv] 33))) :=
            ((((unhide HQ4).next hbe).with hav).next ((Below.refl _ We).alloc (Nat.le_refl _) _)).keep (World.alloc_heap_new We _) (by have := (((unhide HQ4).next hbe).mbl).1; omega) (by have := (((unhide HQ4).next hbe).mbl).2; omega)
          have HA : Hid ((yn ∈ es4.map Mc.name → a.m ∈ es4 ∧ a.m.name = yn) ∧ (yn ∉ es4.map Mc.name → a.m = zMc)) := ⟨ha1, ha2⟩
          clear hbe hav ha1 ha2 HQ4 b0 b1 b2 b3 b4 b5 b6 bf
          obtain ⟨⟨an, af, ap, am, ab⟩, apv, abv⟩ := a
          simp only [Me.v] at *
          subst ea1 ea2
          have hfew := (unhide HD4).few
          have hml := (unhide HD4).len
          obtain ⟨⟨b0, b1, b2, b3, b4, b5, b6⟩, bf⟩ := opbox_cells ((unhide HQ5).kp N _ (List.mem_cons_of_mem _ (by rw [← unhide HKK]; exact List.mem_cons_self))).1
          go_wp2_with fail
          refine (rGet_all rb es4 ms4 yn _ (unhide HQ5).rt (unhide HD4) (by omega)).mono ?_
          rintro e Wf ⟨hbf, b, he, hbv, hb1, hb2⟩
          rw [unhide HTH] at he
          subst he
          obtain ⟨r3, u3, r4, u4, eb1, eb2⟩ := me_slices hbv
          have hab := get_same (unhide HD4) (unhide HA).1 (unhide HA).2 hb1 hb2
          obtain ⟨bm, bpv, bbv⟩ := b
          simp only at hab eb1 eb2 hbv
          subst hab
          simp only [Me.v] at *
          subst eb1 eb2
          have HQ6 : Hid (Qs w t mb rb ((Wf.heap.size, .cells #[.string ⟨an.toArray⟩, .bool af, .slice r3 ap.length u3, .bool am, .slice r4 ab.length u4] 33) :: (We.heap.size, .cells #[.string ⟨an.toArray⟩, .bool af, .slice r1 ap.length u1, .bool am, .slice r2 ab.length u2'] 33) :: KK) ⟨⟨an, af, ap, am, ab⟩, .slice r1 ap.length u1, .slice r2 ab.length u2'⟩ es4 ms4 (Wf.alloc (.cells #[.string ⟨an.toArray⟩, .bool af, .slice r3 ap.length u3, .bool am, .slice r4 ab.length u4] 33))) :=
            (((unhide HQ5).next hbf).next ((Below.refl _ Wf).alloc (Nat.le_refl _) _)).keep (World.alloc_heap_new Wf _) (by have := (((unhide HQ5).next hbf).mbl).1; omega) (by have := (((unhide HQ5).next hbf).mbl).2; omega)
          have HBV := hide (McV.below hbv ((Below.refl _ Wf).alloc (Nat.le_refl _) (.cells #[.string ⟨an.toArray⟩, .bool af, .slice r3 ap.length u3, .bool am, .slice r4 ab.length u4] 33)))
          clear hbf hbv hb1 hb2 HQ5 HA b0 b1 b2 b3 b4 b5 b6 bf
          go_upto_region 21 with fail
          generalize (Wf.alloc (.cells #[.string ⟨an.toArray⟩, .bool af, .slice r3 ap.length u3, .bool am, .slice r4 ab.length u4] 33)) = Wg at *
          generalize Wf.heap.size = M13 at *
          generalize We.heap.size = M11 at *
          have hma : MBox Wg M11 (.string ⟨an.toArray⟩) af (.slice r1 ap.length u1) am (.slice r2 ab.length u2') := ((unhide HQ6).kp _ _ (List.mem_cons_of_mem _ List.mem_cons_self)).1
          have hmb : MBox Wg M13 (.string ⟨an.toArray⟩) af (.slice r3 ap.length u3) am (.slice r4 ab.length u4) := ((unhide HQ6).kp _ _ List.mem_cons_self).1
          obtain ⟨a0, a1, a2, a3, a4⟩ := hma.five
          obtain ⟨c0, c1, c2, c3, c4⟩ := hmb.five
          have HEQ := hide (rEqual_any _ _ ⟨an, af, ap, am, ab⟩ ⟨an, af, ap, am, ab⟩ Wg (unhide HFA).ps (unhide HFA).body (unhide HQ6).xv (unhide HBV))
          simp only [Me.v, decide_true] at HEQ
          clear hma hmb HBV
          go_wp2_with fail
          refine (unhide HEQ).mono ?_
          rintro e Wh ⟨rfl, hbh⟩
          have HQ7 := hide ((unhide HQ6).next hbh)
          clear hbh HQ6 HEQ a0 a1 a2 a3 a4 c0 c1 c2 c3 c4
          have HN1 := hide (Names_tab t mb es4 Wh (unhide HQ7).tab (unhide HD4).srt.nodup (by omega))
          rw [(unhide HD4).srt.sorted] at HN1
          go_wp2_with fail
          refine (unhide HN1).mono ?_
          rintro e Wi ⟨v1, rfl, hr1, hbi⟩
          have HQ8 := hide ((unhide HQ7).next hbi)
          obtain ⟨n1q, n1c, rfl⟩ := row_slice hr1
          have HR1 := hide hr1
          clear hr1 hbi HQ7 HN1
          have HN2 := hide (rNames_any rb ms4 Wi (unhide HQ8).rt (by omega))
          rw [show ms4.map (fun x => x.m.name) = es4.map Mc.name by rw [← (unhide HD4).same, List.map_map]; rfl, hml] at HN2
          go_wp2_with fail
          refine (unhide HN2).mono ?_
          rintro e Wj ⟨v2, rfl, hr2, hbj⟩
          have HQ9 := hide ((unhide HQ8).next hbj)
          obtain ⟨n2q, n2c, rfl⟩ := row_slice hr2
          have HSN := hide (SameNames_eq n1q n2q n1c n2c es4.length (es4.map Mc.name) Wj (by simp) (by omega) ((StG.of (unhide HR1) (by simp)).below hbj |>.mono hbj.size) (StG.of hr2 (by simp)))
          clear hr2 hbj HQ8 HN2 HR1
          go_wp2_with fail
          refine (unhide HSN).mono ?_
          rintro e Wk ⟨rfl, hbk⟩
          have HQE := hide (((unhide HQ9).next hbk).none)
          clear hbk HQ9 HSN
          go_wp2
          go_roundg (l.length - (i + 1))
          case measure => omega
          case rel => exact ⟨i + 1, es4, ms4, rfl, by simp, by omega, by omega, HQE, HD4⟩
      | 2, _, hkind =>
        simp only [Int.cast_ofNat_Int] at hkind
        obtain ⟨code, hcode⟩ : ∃ c, (defM es ⟨xn, xf, xp, xm, xb⟩).1 = c := ⟨_, rfl⟩
        have HCODE := hide hcode
        clear hcode
        have HQd := hide ((unhide HQ2).next (below_drewK (Below.refl _ _) 1))
        have HSd := hide ((unhide HSX).next (below_drewK (Below.refl _ _) 1) (unhide HQ2).mbl.1 (unhide HQ2).mbl.2)
        go_upto_region 10 with fail
        go_region_with (first
          | (go_at_call 8
             first
             | (refine (def8s (unhide HQR) (unhide HSR) (unhide HSG) hw0 (unhide HF).2 (fun y hy => ((unhide HD).fit y hy).1) (unhide HD).srt (by have := (unhide HD).few; omega)).mono ?_
                rintro e Wd0 ⟨he, hq, hs⟩
                rw [unhide HCODE] at he
                subst he
                have HQ4 := hide hq
                have HS4 := hide hs
                clear hq hs)
             | (refine (def8s (unhide HQd) (unhide HSd) (unhide HSG) hw0 (unhide HF).2 (fun y hy => ((unhide HD).fit y hy).1) (unhide HD).srt (by have := (unhide HD).few; omega)).mono ?_
                rintro e Wc ⟨he, hq, hs⟩
                rw [unhide HCODE] at he
                subst he
                have HQP := hide hq
                have HSP := hide hs
                clear hq hs
                obtain ⟨⟨n0, n1, n2, n3, n4, n5, n6⟩, nf⟩ := opbox_cells ((unhide HQP).kp _ _ List.mem_cons_self).1))
          | (go_at_call 9
             first
             | (refine (def9s (unhide HQP) (unhide HSP) (unhide HXS) (unhide HD) (unhide HF).2 (by have := (unhide HD).few; omega)).mono ?_
                rintro e Wd0 ⟨he, hq, hs⟩
                rw [unhide HCODE] at he
                subst he
                have HQ4 := hide hq
                have HS4 := hide hs
                clear hq hs)
             | (refine (def9s (unhide HQd) (unhide HSd) (unhide HXS) (unhide HD) (unhide HF).2 (by have := (unhide HD).few; omega)).mono ?_
                rintro e Wc ⟨he, hq, hs⟩
                rw [unhide HCODE] at he
                subst he
                have HQR := hide hq
                have HSR := hide hs
                clear hq hs
                obtain ⟨⟨n0, n1, n2, n3, n4, n5, n6⟩, nf⟩ := opbox_cells ((unhide HQR).kp _ _ List.mem_cons_self).1)))
        all_goals (
          clear b0 b1 b2 b3 b4 b5 b6 bf n0 n1 n2 n3 n4 n5 n6 nf
          obtain ⟨⟨b0, b1, b2, b3, b4, b5, b6⟩, bf⟩ := opbox_cells ((unhide HQ4).kp _ _ List.mem_cons_self).1
          have HD4 := hide ((unhide HD).define ⟨⟨xn, xf, xp, xm, xb⟩, .slice q1 xp.length k1, .slice q2 xb.length k2⟩ (unhide HF).2)
          have hss : xn.length ≤ 140737488355328 := (unhide HF).2.name
          have HQ6 : Hid (Qs w t mb rb [(N, .cells #[.int .i64 kind, .string ⟨xn.toArray⟩, .string ⟨xn.toArray⟩, .bool xf, .slice q1 xp.length k1, .bool xm, .slice q2 xb.length k2] 35)] ⟨⟨xn, xf, xp, xm, xb⟩, .slice q1 xp.length k1, .slice q2 xb.length k2⟩ (defM es ⟨xn, xf, xp, xm, xb⟩).2 (defE ms ⟨⟨xn, xf, xp, xm, xb⟩, .slice q1 xp.length k1, .slice q2 xb.length k2⟩) (Wd0.setCell ⟨N, 1, none⟩ (.string ⟨xn.toArray⟩))) :=
            (qs_store (unhide HQ4) (unhide HS4) (unhide HXS) (unhide HNE).2.1 (unhide HNE).2.2.1 (unhide HNE).1 (unhide HNE).2.2.2 _).keep (by rw [set_blockR ((unhide HQ4).kp _ _ List.mem_cons_self).1]; rfl) (unhide HNE).2.1 (unhide HNE).2.2.1
          clear HD HQ4 HS4 HQ2 HSX HQd HSd HCODE
          generalize (defM es ⟨xn, xf, xp, xm, xb⟩).2 = es4 at *
          generalize defE ms ⟨⟨xn, xf, xp, xm, xb⟩, .slice q1 xp.length k1, .slice q2 xb.length k2⟩ = ms4 at *
          go_upto_region 19 with fail
          generalize (Wd0.setCell ⟨N, 1, none⟩ (.string ⟨xn.toArray⟩)) = Wd at *
          clear b0 b1 b2 b3 b4 b5 b6 bf
          have HQ4 := hide (unhide HQ6)
          clear HQ6
          obtain ⟨⟨b0, b1, b2, b3, b4, b5, b6⟩, bf⟩ := opbox_cells ((unhide HQ4).kp _ _ List.mem_cons_self).1
          generalize hKK : [(N, (.cells #[.int .i64 kind, .string ⟨xn.toArray⟩, .string ⟨xn.toArray⟩, .bool xf, .slice q1 xp.length k1, .bool xm, .slice q2 xb.length k2] 35 : Obj))] = KK at HQ4
          have HKK := hide hKK
          clear hKK
          have HSS := hide hss
          clear hss
          obtain ⟨there, hth⟩ : ∃ b, decide (xn ∈ es4.map Mc.name) = b := ⟨_, rfl⟩
          have HTH := hide hth
          clear hth
          go_wp2_with fail
          refine (Get_all t mb es4 xn Wd (unhide HSS) (unhide HD4).fit (unhide HQ4).tab).mono ?_
          rintro e We ⟨hbe, a, he, hav, ha1, ha2⟩
          rw [unhide HTH] at he
          subst he
          have HFA := hide (get_fits (unhide HD4) ha1 ha2)
          obtain ⟨r1, u1, r2, u2', ea1, ea2⟩ := me_slices hav
          have HQ5 : Hid (Qs w t mb rb ((We.heap.size, .cells #[.string ⟨a.m.name.toArray⟩, .bool a.m.fn, a.pv, .bool a.m.more, a.bv] 33) :: KK) a es4 ms4 (We.alloc (.cells #[.string ⟨a.m.name.toArray⟩, .bool a.m.fn, a.pv, .bool a.m.more, a.bv] 33))) :=
            ((((unhide HQ4).next hbe).with hav).next ((Below.refl _ We).alloc (Nat.le_refl _) _)).keep (World.alloc_heap_new We _) (by have := (((unhide HQ4).next hbe).mbl).1; omega) (by have := (((unhide HQ4).next hbe).mbl).2; omega)
          have HA : Hid ((xn ∈ es4.map Mc.name → a.m ∈ es4 ∧ a.m.name = xn) ∧ (xn ∉ es4.map Mc.name → a.m = zMc)) := ⟨ha1, ha2⟩
          clear hbe hav ha1 ha2 HQ4 b0 b1 b2 b3 b4 b5 b6 bf
          obtain ⟨⟨an, af, ap, am, ab⟩, apv, abv⟩ := a
          simp only [Me.v] at *
          subst ea1 ea2
          have hfew := (unhide HD4).few
          have hml := (unhide HD4).len
          obtain ⟨⟨b0, b1, b2, b3, b4, b5, b6⟩, bf⟩ := opbox_cells ((unhide HQ5).kp N _ (List.mem_cons_of_mem _ (by rw [← unhide HKK]; exact List.mem_cons_self))).1
          go_wp2_with fail
          refine (rGet_all rb es4 ms4 xn _ (unhide HQ5).rt (unhide HD4) (by omega)).mono ?_
          rintro e Wf ⟨hbf, b, he, hbv, hb1, hb2⟩
          rw [unhide HTH] at he
          subst he
          obtain ⟨r3, u3, r4, u4, eb1, eb2⟩ := me_slices hbv
          have hab := get_same (unhide HD4) (unhide HA).1 (unhide HA).2 hb1 hb2
          obtain ⟨bm, bpv, bbv⟩ := b
          simp only at hab eb1 eb2 hbv
          subst hab
          simp only [Me.v] at *
          subst eb1 eb2
          have HQ6 : Hid (Qs w t mb rb ((Wf.heap.size, .cells #[.string ⟨an.toArray⟩, .bool af, .slice r3 ap.length u3, .bool am, .slice r4 ab.length u4] 33) :: (We.heap.size, .cells #[.string ⟨an.toArray⟩, .bool af, .slice r1 ap.length u1, .bool am, .slice r2 ab.length u2'] 33) :: KK) ⟨⟨an, af, ap, am, ab⟩, .slice r1 ap.length u1, .slice r2 ab.length u2'⟩ es4 ms4 (Wf.alloc (.cells #[.string ⟨an.toArray⟩, .bool af, .slice r3 ap.length u3, .bool am, .slice r4 ab.length u4] 33))) :=
            (((unhide HQ5).next hbf).next ((Below.refl _ Wf).alloc (Nat.le_refl _) _)).keep (World.alloc_heap_new Wf _) (by have := (((unhide HQ5).next hbf).mbl).1; omega) (by have := (((unhide HQ5).next hbf).mbl).2; omega)
          have HBV := hide (McV.below hbv ((Below.refl _ Wf).alloc (Nat.le_refl _) (.cells #[.string ⟨an.toArray⟩, .bool af, .slice r3 ap.length u3, .bool am, .slice r4 ab.length u4] 33)))
          clear hbf hbv hb1 hb2 HQ5 HA b0 b1 b2 b3 b4 b5 b6 bf
          go_upto_region 21 with fail
          generalize (Wf.alloc (.cells #[.string ⟨an.toArray⟩, .bool af, .slice r3 ap.length u3, .bool am, .slice r4 ab.length u4] 33)) = Wg at *
          generalize Wf.heap.size = M13 at *
          generalize We.heap.size = M11 at *
          have hma : MBox Wg M11 (.string ⟨an.toArray⟩) af (.slice r1 ap.length u1) am (.slice r2 ab.length u2') := ((unhide HQ6).kp _ _ (List.mem_cons_of_mem _ List.mem_cons_self)).1
          have hmb : MBox Wg M13 (.string ⟨an.toArray⟩) af (.slice r3 ap.length u3) am (.slice r4 ab.length u4) := ((unhide HQ6).kp _ _ List.mem_cons_self).1
          obtain ⟨a0, a1, a2, a3, a4⟩ := hma.five
          obtain ⟨c0, c1, c2, c3, c4⟩ := hmb.five
          have HEQ := hide (rEqual_any _ _ ⟨an, af, ap, am, ab⟩ ⟨an, af, ap, am, ab⟩ Wg (unhide HFA).ps (unhide HFA).body (unhide HQ6).xv (unhide HBV))
          simp only [Me.v, decide_true] at HEQ
          clear hma hmb HBV
          go_wp2_with fail
          refine (unhide HEQ).mono ?_
          rintro e Wh ⟨rfl, hbh⟩
          have HQ7 := hide ((unhide HQ6).next hbh)
          clear hbh HQ6 HEQ a0 a1 a2 a3 a4 c0 c1 c2 c3 c4
          have HN1 := hide (Names_tab t mb es4 Wh (unhide HQ7).tab (unhide HD4).srt.nodup (by omega))
          rw [(unhide HD4).srt.sorted] at HN1
          go_wp2_with fail
          refine (unhide HN1).mono ?_
          rintro e Wi ⟨v1, rfl, hr1, hbi⟩
          have HQ8 := hide ((unhide HQ7).next hbi)
          obtain ⟨n1q, n1c, rfl⟩ := row_slice hr1
          have HR1 := hide hr1
          clear hr1 hbi HQ7 HN1
          have HN2 := hide (rNames_any rb ms4 Wi (unhide HQ8).rt (by omega))
          rw [show ms4.map (fun x => x.m.name) = es4.map Mc.name by rw [← (unhide HD4).same, List.map_map]; rfl, hml] at HN2
          go_wp2_with fail
          refine (unhide HN2).mono ?_
          rintro e Wj ⟨v2, rfl, hr2, hbj⟩
          have HQ9 := hide ((unhide HQ8).next hbj)
          obtain ⟨n2q, n2c, rfl⟩ := row_slice hr2
          have HSN := hide (SameNames_eq n1q n2q n1c n2c es4.length (es4.map Mc.name) Wj (by simp) (by omega) ((StG.of (unhide HR1) (by simp)).below hbj |>.mono hbj.size) (StG.of hr2 (by simp)))
          clear hr2 hbj HQ8 HN2 HR1
          go_wp2_with fail
          refine (unhide HSN).mono ?_
          rintro e Wk ⟨rfl, hbk⟩
          have HQE := hide (((unhide HQ9).next hbk).none)
          clear hbk HQ9 HSN
          go_wp2
          go_roundg (l.length - (i + 1))
          case measure => omega
          case rel => exact ⟨i + 1, es4, ms4, rfl, by simp, by omega, by omega, HQE, HD4⟩)
    · have d1 : decide ((i : Int) < (l.length : Int)) = false ∨ (decide ((i : Int) < (l.length : Int)) = true ∧ decide ((i : Int) < 100) = false) := by
        by_cases h : i < l.length
        · exact .inr ⟨by simpa using h, by simp; omega⟩
        · exact .inl (by simpa using h)
      rcases d1 with d1 | ⟨d1, d2⟩
      · go_wp2
        all_goals (
          go_ret
          exact ⟨rfl, (unhide HQ).bl⟩)
      · go_wp2
        all_goals (
          go_ret
          exact ⟨rfl, (unhide HQ).bl⟩)
end Go.Proofs.YticiddcgafhkhaaGreatDoor
