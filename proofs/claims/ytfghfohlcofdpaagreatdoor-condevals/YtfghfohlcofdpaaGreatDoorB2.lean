/-
  Package cond: settle, the walk.
-/
import Derived.Test.YtfghfohlcofdpaaGreatDoorAb
namespace Go.Proofs.YtfghfohlcofdpaaGreatDoor
open Go Go.RowKit
set_option linter.unusedVariables false
set_option linter.unusedSimpArgs false

theorem VBox.fz {R M : Nat} {W W' : World} {b : Value} {u : Bool} (h : VBox W M b u) (hf : Fz R W W') (hne : M ≠ R) : VBox W' M b u := (hf.keep M h.lt hne).trans h
theorem Fk.setNew {R M i : Nat} {W W' : World} (h : Fk R W W') (hR : R ≤ W.heap.size) (hM : W.heap.size ≤ M) (v : Value) : Fk R W (W'.setCell ⟨M, i, none⟩ v) :=
  ⟨h.below.setCell (p := ⟨M, i, none⟩) (by show R ≤ M; omega) v, fun b hb h1 h2 => (Below.heap_setCell W' ⟨M, i, none⟩ v b (by show b ≠ M; omega)).trans (h.keep b hb h1 h2)⟩
theorem Rk.setV {W : World} {R M i : Nat} {v b x : Value} {u : Bool} {st : List Wt} {und : Bool} (h : Rk W R v st und) (hM : VBox W M b u) : Rk (W.setCell ⟨M, i, none⟩ x) R v st und := by
  have hM' : W.heap[M]? = _ := hM
  refine ⟨(Below.heap_setCell W ⟨M, i, none⟩ x R (fun e => ?_)).trans h.box, row_ne h.row (fun g o n c e hg => ?_)⟩
  · have e' : R = M := e
    have := h.box
    rw [e', hM'] at this
    simp at this
  · rcases h.row.2 with ⟨e', _⟩ | ⟨g', cap, cur, e', _, a2, _⟩
    · rw [e'] at e; cases e
    · rw [e'] at e
      cases e
      rw [hg, hM'] at a2
      simp at a2
theorem Rk.putV {W : World} {R M : Nat} {v b : Value} {u : Bool} {st : List Wt} {und : Bool} (h : Rk W R v st und) (hM : VBox W M b u) (b' : Value) (u' : Bool) : Rk (put2 W M b' u') R v st und := (h.setV hM).setV (hM.set0 b')
theorem Fk.putV {R M : Nat} {W W' : World} (h : Fk R W W') (hR : R ≤ W.heap.size) (hM : W.heap.size ≤ M) (b : Value) (u : Bool) : Fk R W (put2 W' M b u) := (h.setNew hR hM _).setNew hR hM _
theorem Rk.setU {W : World} {R : Nat} {v : Value} {st : List Wt} {und : Bool} (h : Rk W R v st und) (b : Bool) : Rk (W.setCell ⟨R, 2, none⟩ (.bool b)) R v st b :=
  ⟨set_block h.box 2 _, ownsRow_setCell h.row (Nat.lt_succ_self _) _⟩
/-- What lies when a round of settle begins. -/
structure St (w wr : World) (R : Nat) (l : Int) (Z : List Wt × Bool × Vl) (vv : Value) (st : List Wt) (und : Bool) (v : Vl) : Prop where
  rk : Rk wr R vv st und
  box : VBox wr w.heap.size (.int .u64 v.b) v.u
  res : VBox wr (w.heap.size + 1) (.int .u64 0) false
  fk : Fk R w wr
  okv : okV v
  oks : ∀ y ∈ st, okV y.a
  is : settleM l st und v = Z
set_option maxRecDepth 100000 in
set_option maxHeartbeats 8000000 in
theorem settle_any (R : Nat) (vv : Value) (v : Vl) (l : Int) (st : List Wt) (und : Bool) (w : World) (h : Rk w R vv st und) (hv : okV v) (hst : ∀ y ∈ st, okV y.a) :
    Calls Tryz.prog 17 #[.pointer (some ⟨R, 0, none⟩), v.v, .int .i64 l] w fun e w' => e = .returned (settleM l st und v).2.2.v ∧ (∃ v', Rk w' R v' (settleM l st und v).1 (settleM l st und v).2.1) ∧ Fk R w w' := by
  have hlR := h.lt
  have hb1 := below_new w (.cells #[.int .u64 v.b, .bool v.u] 37)
  have hz1 : (w.alloc (.cells #[.int .u64 v.b, .bool v.u] 37)).heap.size = w.heap.size + 1 := by simp
  have hb2 := below_new (w.alloc (.cells #[.int .u64 v.b, .bool v.u] 37)) (.cells #[.int .u64 0, .bool false] 37)
  have hn1 := (hb2.block w.heap.size (by omega)).trans (World.alloc_heap_new w (.cells #[.int .u64 v.b, .bool v.u] 37))
  have hn2 := World.alloc_heap_new (w.alloc (.cells #[.int .u64 v.b, .bool v.u] 37)) (.cells #[.int .u64 0, .bool false] 37)
  rw [hz1] at hn2
  generalize hZ : settleM l st und v = Z at *
  have HS : Hid (St w ((w.alloc (.cells #[.int .u64 v.b, .bool v.u] 37)).alloc (.cells #[.int .u64 0, .bool false] 37)) R l Z vv st und v) :=
    ⟨(h.next hb1).next hb2, hn1, hn2, (Fk.of (R := R) hb1 (by omega)).trans (Fk.of (R := R) hb2 (by omega)), hv, hst, hZ⟩
  clear h hb1 hb2 hn1 hn2 hZ hv hst
  obtain ⟨b0, u0⟩ := v
  simp only [Vl.v] at *
  have hfl := fld96_1
  go_enter Tryz.func17, Tryz.ntmps17
  go_wp2
  generalize (w.alloc (.cells #[.int .u64 b0, .bool u0] 37)).alloc (.cells #[.int .u64 0, .bool false] 37) = W0 at *
  go_loopg [] st.length (fun gk wr => ∃ (st' : List Wt) (und' : Bool) (v' : Vl) (vv' : Value), gk = st'.length ∧ Hid (St w wr R l Z vv' st' und' v'))
  case atStart => exact ⟨st, und, ⟨b0, u0⟩, vv, rfl, HS⟩
  case round =>
    clear HS
    obtain ⟨st', und', v', vv', rfl, HS⟩ := hrel
    obtain ⟨p, cp, hvp⟩ := ownsRow_slice (unhide HS).rk.row
    subst hvp
    obtain ⟨c0, c1, c2⟩ := (unhide HS).rk.three
    obtain ⟨v0, v1⟩ := (unhide HS).box.two
    obtain ⟨r0, r1⟩ := (unhide HS).res.two
    have fr0 := (unhide HS).res.frozen 0
    have fr1 := (unhide HS).res.frozen 1
    match st' with
    | [] =>
      have HZ := hide (unhide HS).is
      simp only [settleM] at HZ
      go_wp2
      refine bodyPost_ret (res_v (f := Tryz.f17) rfl rfl ((unhide HS).res.put _ _) rfl) rfl ⟨by rw [← unhide HZ], ⟨_, by rw [← unhide HZ]; exact (unhide HS).rk.putV (unhide HS).res _ _⟩, (unhide HS).fk.putV (by omega) (by omega) _ _⟩
    | y :: r =>
      have HL := hide (last_any R _ y r und' _ (unhide HS).rk)
      rw [List.length_cons] at c0
      have hll : 0 < (r.length : Int) + 1 := by omega
      obtain ⟨ys, yl, ⟨yb, yu⟩, yt, yk⟩ := y
      simp only [Wt.v] at HL
      have HIS := hide (unhide HS).is
      by_cases hlev : l ≤ yl
      · rw [Hid, settleM, if_pos hlev] at HIS
        go_wp2_with fail
        refine (unhide HL).mono ?_
        rintro e W1 ⟨rfl, hb1⟩
        obtain ⟨vv1, hk1⟩ : ∃ vv1, Rk W1.drew R vv1 (⟨ys, yl, ⟨yb, yu⟩, yt, yk⟩ :: r) und' := by
          have a := (unhide HS).rk.next hb1
          exact ⟨_, a.box, a.row⟩
        have HP := hide (pop_any R vv1 _ r und' W1.drew hk1)
        have HO := hide (fun W => of_any ⟨ys, yl, ⟨yb, yu⟩, yt, yk⟩ v' W (unhide HS).okv.1 (unhide HS).okv.2)
        have HOK := hide (ok_of (x := ⟨ys, yl, ⟨yb, yu⟩, yt, yk⟩) ((unhide HS).oks _ (List.mem_cons_self ..)) (unhide HS).okv)
        have HOKS : Hid (∀ y ∈ r, okV y.a) := fun y hy => (unhide HS).oks y (List.mem_cons_of_mem _ hy)
        have hbx : VBox W1.drew w.heap.size (.int .u64 v'.b) v'.u := (show VBox W1 w.heap.size (.int .u64 v'.b) v'.u from (unhide HS).box.below hb1 (unhide HS).box.lt)
        have hrs : VBox W1.drew (w.heap.size + 1) (.int .u64 0) false := (show VBox W1 (w.heap.size + 1) (.int .u64 0) false from (unhide HS).res.below hb1 (unhide HS).res.lt)
        have hfk1 : Fk R w W1.drew := by
          have f := (unhide HS).fk.trans (Fk.of (R := R) hb1 (Nat.le_of_lt (unhide HS).rk.lt))
          exact ⟨⟨f.below.os, f.below.tape, f.below.output, f.below.size, f.below.block⟩, f.keep⟩
        obtain ⟨vb, vu⟩ := v'
        simp only [Wt.v, Vl.v] at HP HO HOK HIS hbx
        generalize ofM ⟨ys, yl, ⟨yb, yu⟩, yt, yk⟩ ⟨vb, vu⟩ = TD at *
        obtain ⟨⟨tb, tu⟩, D⟩ := TD
        simp only at HP HO HOK HIS
        have HBX := hide hbx
        have HRS := hide hrs
        have HFK1 := hide hfk1
        have HBOX1 := hide hk1.box
        have HK1 := hide hk1
        have hwne : w.heap.size ≠ R := by omega
        clear v0 v1 r0 r1 fr0 fr1 c0 c1 c2
        obtain ⟨v0, v1⟩ := hbx.two
        have w0 : W1.cell? ⟨w.heap.size, 0, none⟩ = some (.int .u64 vb) := v0
        have w1 : W1.cell? ⟨w.heap.size, 1, none⟩ = some (.bool vu) := v1
        clear hk1 hbx hrs hfk1 hb1 HL HS
        have hal1 := below_new W1 (.cells #[.int .u64 0, .bool false] 37)
        have hzl1 : (W1.alloc (.cells #[.int .u64 0, .bool false] 37)).heap.size = W1.heap.size + 1 := by simp
        have HPb := hide (pop_any R vv1 _ r und' (W1.alloc (.cells #[.int .u64 0, .bool false] 37)).drew (by have a := Rk.next (W := W1) ⟨(unhide HK1).box, (unhide HK1).row⟩ hal1; exact ⟨a.box, a.row⟩))
        simp only [Wt.v] at HPb
        have HFK1b : Hid (Fk R w (W1.alloc (.cells #[.int .u64 0, .bool false] 37)).drew) := by
          have f := (unhide HFK1).trans (Fk.of (W := W1.drew) (R := R) (W' := W1.alloc (.cells #[.int .u64 0, .bool false] 37)) ⟨hal1.os, hal1.tape, hal1.output, hal1.size, hal1.block⟩ (Nat.le_of_lt (unhide HK1).lt))
          exact ⟨⟨f.below.os, f.below.tape, f.below.output, f.below.size, f.below.block⟩, f.keep⟩
        have HBOX1b : Hid ((W1.alloc (.cells #[.int .u64 0, .bool false] 37)).drew.heap[R]? = some (.cells #[vv1, .int .i64 (skN (⟨ys, yl, ⟨yb, yu⟩, yt, yk⟩ :: r)), .bool und'] 53 (0, 0))) := (hal1.block R (unhide HK1).lt).trans (unhide HK1).box
        have hbxb : VBox W1 w.heap.size (.int .u64 vb) vu := unhide HBX
        have hrsb : VBox W1 (w.heap.size + 1) (.int .u64 0) false := unhide HRS
        have HBXb : Hid (VBox (W1.alloc (.cells #[.int .u64 0, .bool false] 37)).drew w.heap.size (.int .u64 vb) vu) := (show VBox (W1.alloc (.cells #[.int .u64 0, .bool false] 37)) w.heap.size (.int .u64 vb) vu from hbxb.below hal1 hbxb.lt)
        have HRSb : Hid (VBox (W1.alloc (.cells #[.int .u64 0, .bool false] 37)).drew (w.heap.size + 1) (.int .u64 0) false) := (show VBox (W1.alloc (.cells #[.int .u64 0, .bool false] 37)) (w.heap.size + 1) (.int .u64 0) false from hrsb.below hal1 hrsb.lt)
        have HTb : Hid (VBox (W1.alloc (.cells #[.int .u64 0, .bool false] 37)).drew W1.heap.size (.int .u64 0) false) := World.alloc_heap_new W1 _
        have hR1 := (unhide HK1).lt
        have hR1' : R < W1.heap.size := hR1
        have hlt1 : w.heap.size < W1.heap.size := hbxb.lt
        have HL1 : Hid (w.heap.size + 1 < W1.heap.size) := hrsb.lt
        clear hR1
        clear hal1 hbxb hrsb
        go_upto_region 2 with fail
        go_region_with (first
          | (go_at_call 29
             refine (unhide HP).mono ?_
             rintro e W2 ⟨rfl, ⟨vv2, hk2, _⟩, hf2⟩
             have HK2 := hide hk2
             have HF2 := hide ((unhide HFK1).trans (hf2.fk (unhide HBOX1)))
             have hbx2 := (unhide HBX).fz hf2 (by omega)
             have hrs2 := (unhide HRS).fz hf2 (by omega)
             obtain ⟨q0, q1⟩ := hbx2.two
             have HBX2 := hide hbx2
             have HRS2 := hide hrs2
             have hal2 := below_new W2 (.cells #[.int .u64 0, .bool false] 37)
             have HK2b := hide (hk2.next hal2)
             have HF2b := hide ((unhide HF2).trans (Fk.of (R := R) hal2 (Nat.le_of_lt hk2.lt)))
             have HBX2b := hide (hbx2.below hal2 hbx2.lt)
             have HRS2b := hide (hrs2.below hal2 hrs2.lt)
             have HT2b : Hid (VBox (W2.alloc (.cells #[.int .u64 0, .bool false] 37)) W2.heap.size (.int .u64 0) false) := World.alloc_heap_new W2 _
             have hlt2 : w.heap.size < W2.heap.size := hbx2.lt
             have HL2 : Hid (w.heap.size + 1 < W2.heap.size) := hrs2.lt
             clear hk2 hf2 hbx2 hrs2 hal2 HP HPb)
          | (go_at_call 29
             refine (unhide HPb).mono ?_
             rintro e W2 ⟨rfl, ⟨vv2, hk2, _⟩, hf2⟩
             have HK2 := hide hk2
             have HF2 := hide ((unhide HFK1b).trans (hf2.fk (unhide HBOX1b)))
             have hbx2 := (unhide HBXb).fz hf2 (by omega)
             have hrs2 := (unhide HRSb).fz hf2 (by omega)
             obtain ⟨q0, q1⟩ := hbx2.two
             have HBX2 := hide hbx2
             have HRS2 := hide hrs2
             have HT2c := hide ((unhide HTb).fz hf2 (by omega))
             clear hk2 hf2 hbx2 hrs2 HP HPb)
          | (go_at_call 30
             have HT2c' := HT2c
             refine (unhide HO _).mono ?_
             rintro e W3 ⟨rfl, hb3⟩
             have HK3 := hide ((unhide HK2).next hb3)
             have HF3 := hide ((unhide HF2).trans (Fk.of (R := R) hb3 (Nat.le_of_lt (unhide HK2).lt)))
             have HBX3 := hide ((unhide HBX2).below hb3 (unhide HBX2).lt)
             have HRS3 := hide ((unhide HRS2).below hb3 (unhide HRS2).lt)
             have ht3 := (unhide HT2c).below hb3 (unhide HT2c).lt
             obtain ⟨z0, z1⟩ := ht3.two
             have y0 := ht3.frozen 0
             have y1 := ht3.frozen 1
             have HT3 := hide ht3
             clear hb3 ht3 HT2c')
          | (go_at_call 30
             refine (unhide HO W2).mono ?_
             rintro e W3 ⟨rfl, hb3⟩
             have HK3 := hide ((unhide HK2).next hb3)
             have HF3 := hide ((unhide HF2).trans (Fk.of (R := R) hb3 (Nat.le_of_lt (unhide HK2).lt)))
             have HBX3 := hide ((unhide HBX2).below hb3 (unhide HBX2).lt)
             have HRS3 := hide ((unhide HRS2).below hb3 (unhide HRS2).lt)
             clear hb3)
          | (go_at_call 30
             refine (unhide HO _).mono ?_
             rintro e W3 ⟨rfl, hb3⟩
             have HK3 := hide ((unhide HK2b).next hb3)
             have HF3 := hide ((unhide HF2b).trans (Fk.of (R := R) hb3 (Nat.le_of_lt (unhide HK2b).lt)))
             have HBX3 := hide ((unhide HBX2b).below hb3 (unhide HBX2b).lt)
             have HRS3 := hide ((unhide HRS2b).below hb3 (unhide HRS2b).lt)
             have ht3 := (unhide HT2b).below hb3 (unhide HT2b).lt
             obtain ⟨z0, z1⟩ := ht3.two
             have y0 := ht3.frozen 0
             have y1 := ht3.frozen 1
             have HT3 := hide ht3
             clear hb3 ht3))
        all_goals (
          first
          | (have hT : VBox W3 W2.heap.size (.int .u64 0) false := unhide HT3
             have hh := unhide HL2
             have HK4 := hide ((unhide HK3).putV hT (.int .u64 tb) tu)
             have HF4 := hide ((unhide HF3).putV (M := W2.heap.size) (by omega) (by omega) (.int .u64 tb) tu)
             have HBX4 := hide (((unhide HBX3).setCell (b' := W2.heap.size) (i := 0) (by omega) (.int .u64 tb)).setCell (b' := W2.heap.size) (i := 1) (by omega) (.bool tu))
             have HRS4 := hide (((unhide HRS3).setCell (b' := W2.heap.size) (i := 0) (by omega) (.int .u64 tb)).setCell (b' := W2.heap.size) (i := 1) (by omega) (.bool tu))
             have HT4 := hide (hT.put (.int .u64 tb) tu)
             simp only [put2] at HK4 HF4 HT4
             clear hT z0 z1 y0 y1 HT3
             generalize (W3.setCell ⟨W2.heap.size, 0, none⟩ (.int .u64 tb)).setCell ⟨W2.heap.size, 1, none⟩ (.bool tu) = W4 at *)
          | (have hT : VBox W3 W1.heap.size (.int .u64 0) false := unhide HT3
             have hh := unhide HL1
             have HK4 := hide ((unhide HK3).putV hT (.int .u64 tb) tu)
             have HF4 := hide ((unhide HF3).putV (M := W1.heap.size) (by omega) (by omega) (.int .u64 tb) tu)
             have HBX4 := hide (((unhide HBX3).setCell (b' := W1.heap.size) (i := 0) (by omega) (.int .u64 tb)).setCell (b' := W1.heap.size) (i := 1) (by omega) (.bool tu))
             have HRS4 := hide (((unhide HRS3).setCell (b' := W1.heap.size) (i := 0) (by omega) (.int .u64 tb)).setCell (b' := W1.heap.size) (i := 1) (by omega) (.bool tu))
             have HT4 := hide (hT.put (.int .u64 tb) tu)
             simp only [put2] at HK4 HF4 HT4
             clear hT z0 z1 y0 y1 HT3
             generalize (W3.setCell ⟨W1.heap.size, 0, none⟩ (.int .u64 tb)).setCell ⟨W1.heap.size, 1, none⟩ (.bool tu) = W4 at *)
          | (have hal := below_new W3 (.cells #[.int .u64 tb, .bool tu] 37)
             have HK4 := hide ((unhide HK3).next hal)
             have HF4 := hide ((unhide HF3).trans (Fk.of (R := R) hal (Nat.le_of_lt (unhide HK3).lt)))
             have HBX4 := hide ((unhide HBX3).below hal (unhide HBX3).lt)
             have HRS4 := hide ((unhide HRS3).below hal (unhide HRS3).lt)
             have HT4 : Hid (VBox (W3.alloc (.cells #[.int .u64 tb, .bool tu] 37)) W3.heap.size (.int .u64 tb) tu) := World.alloc_heap_new W3 _
             have hlt3 : w.heap.size + 1 < W3.heap.size := (unhide HRS3).lt
             clear hal
             generalize W3.alloc (.cells #[.int .u64 tb, .bool tu] 37) = W4 at *)
          clear HK3 HF3 HBX3 HRS3 q0 q1 v0 v1 w0 w1
          obtain ⟨n0, n1⟩ := (unhide HT4).two
          obtain ⟨v0, v1⟩ := (unhide HBX4).two
          obtain ⟨c0, c1, c2⟩ := (unhide HK4).three
          have fv0 := (unhide HBX4).frozen 0
          have fv1 := (unhide HBX4).frozen 1
          have fc2 := (unhide HK4).frozen 2
          have hs0 := skN_nonneg r
          have hneR : w.heap.size + 1 ≠ R := by omega
          cases D
          · by_cases hsk : skN r = 0
            · have isk : (skN r == 0) = true := by simpa using hsk
              have HS5 : Hid (St w (put2 (W4.setCell ⟨R, 2, none⟩ (.bool true)) w.heap.size (.int .u64 tb) tu) R l Z vv2 r true ⟨tb, tu⟩) := by
                have k5 := (unhide HK4).setU true
                have b5 := (unhide HBX4).setCell (b' := R) (i := 2) (by omega) (.bool true)
                have r5 := (unhide HRS4).setCell (b' := R) (i := 2) (by omega) (.bool true)
                have f5 := (unhide HF4).setCell (M := R) (i := 2) (Nat.le_refl _) (unhide HK4).box (.inl rfl) (.bool true)
                refine ⟨k5.putV b5 _ _, b5.put _ _, (r5.setCell (by omega) _).setCell (by omega) _, f5.putV (by omega) (Nat.le_refl _) _ _, unhide HOK, unhide HOKS, ?_⟩
                have := unhide HIS
                rw [isk] at this
                simpa using this
              simp only [put2] at HS5
              rw [hsk] at c1
              clear HK4 HF4 HBX4 HRS4 HT4
              go_wp2
              go_roundg r.length
              case measure => simp
              case rel => exact ⟨r, true, ⟨tb, tu⟩, vv2, rfl, HS5⟩
            · have isk : (skN r == 0) = false := by simpa using hsk
              have HS5 : Hid (St w (put2 W4 w.heap.size (.int .u64 tb) tu) R l Z vv2 r und' ⟨tb, tu⟩) := by
                refine ⟨(unhide HK4).putV (unhide HBX4) _ _, (unhide HBX4).put _ _, ((unhide HRS4).setCell (by omega) _).setCell (by omega) _, (unhide HF4).putV (by omega) (Nat.le_refl _) _ _, unhide HOK, unhide HOKS, ?_⟩
                have := unhide HIS
                rw [isk] at this
                simpa using this
              simp only [put2] at HS5
              clear HK4 HF4 HBX4 HRS4 HT4 hsk
              go_wp2
              go_roundg r.length
              case measure => simp
              case rel => exact ⟨r, und', ⟨tb, tu⟩, vv2, rfl, HS5⟩
          · have HS5 : Hid (St w (put2 W4 w.heap.size (.int .u64 tb) tu) R l Z vv2 r und' ⟨tb, tu⟩) := by
              refine ⟨(unhide HK4).putV (unhide HBX4) _ _, (unhide HBX4).put _ _, ((unhide HRS4).setCell (by omega) _).setCell (by omega) _, (unhide HF4).putV (by omega) (Nat.le_refl _) _ _, unhide HOK, unhide HOKS, ?_⟩
              have := unhide HIS
              simpa using this
            simp only [put2] at HS5
            clear HK4 HF4 HBX4 HRS4 HT4
            go_wp2
            go_roundg r.length
            case measure => simp
            case rel => exact ⟨r, und', ⟨tb, tu⟩, vv2, rfl, HS5⟩)
      · rw [Hid, settleM, if_neg hlev] at HIS
        go_wp2_with fail
        refine (unhide HL).mono ?_
        rintro e W1 ⟨rfl, hb1⟩
        have hb' := (unhide HS).box.below hb1 (unhide HS).box.lt
        have hr' := (unhide HS).res.below hb1 (unhide HS).res.lt
        have HRK := hide ((unhide HS).rk.next hb1)
        have HFK := hide ((unhide HS).fk.trans (Fk.of (R := R) hb1 (Nat.le_of_lt (unhide HS).rk.lt)))
        have HRS := hide hr'
        clear v0 v1 r0 r1 fr0 fr1 c0 c1 c2
        obtain ⟨v0, v1⟩ := hb'.two
        obtain ⟨r0, r1⟩ := hr'.two
        have fr0 := hr'.frozen 0
        have fr1 := hr'.frozen 1
        clear hb' hr' HL hb1 HS
        go_wp2
        refine bodyPost_ret (res_v (f := Tryz.f17) rfl rfl ((unhide HRS).put _ _) rfl) rfl ⟨by rw [← unhide HIS], ⟨_, by rw [← unhide HIS]; exact (unhide HRK).putV (unhide HRS) _ _⟩, (unhide HFK).putV (by omega) (by omega) _ _⟩
end Go.Proofs.YtfghfohlcofdpaaGreatDoor
