/-
  Package expr: a level's closure, over a level.
-/
import Derived.Test.YtmpkgjonbjpohaaGreatDoorRt
import Derived.Test.YtmpkgjonbjpohaaGreatDoorY7
namespace Go.Proofs.YtmpkgjonbjpohaaGreatDoor
open Go Go.RowKit
set_option linter.unusedVariables false
set_option linter.unusedSimpArgs false

set_option maxRecDepth 100000 in
set_option maxHeartbeats 16000000 in
theorem levelS_any (R : Nat) (wv : Value) (ws : List Wd) (tw : Value) (hl : ws.length ≤ 1000000) (hws : ∀ y ∈ ws, y.s.length ≤ 140737488355328) (p : Nat) (j : Nat) (ho : ∀ p', p ≤ p' → OkV R wv ws tw j p') : OkV R wv ws tw (j + 1) p := fun w cr ba bb bc fv hC hL hfv => by
  have HO := veil ho
  have HC0 := veil hC
  have hR := hC.lt
  obtain ⟨la, lb, lc, pv, sb, sc, he, ⟨hl1, hl2, hl3, hl4⟩, ka, kp, kb, kc, ks⟩ := hL
  have HLP := veil kp
  obtain ⟨ma, mb, mc, _, _, _, hpv, _⟩ := kp
  subst hpv
  rw [he] at hfv
  simp only [Value.func.injEq, true_and, Array.mk.injEq, List.cons.injEq, Value.pointer.injEq, Option.some.injEq, Addr.mk.injEq, and_true] at hfv
  obtain ⟨rfl, rfl, rfl⟩ := hfv
  have HA := veil ka
  have HBX := veil kb
  have HCX := veil kc
  have HSX := veil ks
  clear he ka kb kc ks hC ho
  have hb0 : Below w.heap.size w (w.alloc (.cells #[.int .i64 0, .int .i64 0, .int .i64 0, .int .i64 0, .string ⟨#[]⟩, .slice none 0 0, .int .i64 0] 24)) := (Below.refl _ w).alloc (Nat.le_refl _) _
  have HC1 := veil ((unveil HC0).below hb0)
  have HZ0 : Hid (Bk (w.alloc (.cells #[.int .i64 0, .int .i64 0, .int .i64 0, .int .i64 0, .string ⟨#[]⟩, .slice none 0 0, .int .i64 0] 24)) w.heap.size 24 #[.int .i64 0, .int .i64 0, .int .i64 0, .int .i64 0, .string ⟨#[]⟩, .slice none 0 0, .int .i64 0]) := Bk.new _ _ _
  have HF0 : Hid (FrE R w (w.alloc (.cells #[.int .i64 0, .int .i64 0, .int .i64 0, .int .i64 0, .string ⟨#[]⟩, .slice none 0 0, .int .i64 0] 24))) := FrE.below hb0 (Nat.le_of_lt hR)
  have hsz : (w.alloc (.cells #[.int .i64 0, .int .i64 0, .int .i64 0, .int .i64 0, .string ⟨#[]⟩, .slice none 0 0, .int .i64 0] 24)).heap.size = w.heap.size + 1 := by simp
  clear hb0 HC0
  go_enter Tryz.func94, Tryz.ntmps94
  go_upto_region 1 with fail
  generalize (w.alloc (.cells #[.int .i64 0, .int .i64 0, .int .i64 0, .int .i64 0, .string ⟨#[]⟩, .slice none 0 0, .int .i64 0] 24)) = W0 at *
  have a0 : W0.cell? ⟨la, 0, none⟩ = some (.func (.func 94) #[] #[.pointer (some ⟨ma, 0, none⟩), .pointer (some ⟨mb, 0, none⟩), .pointer (some ⟨mc, 0, none⟩)]) := ((unveil HF0).box (unveil HA) (by decide) (by omega)).cell 0
  have al := ((unveil HF0).box (unveil HA) (by decide) (by omega)).lt
  have HP0 := veil ((unveil HO) _ (Nat.le_refl _) W0 cr ma mb mc (.func (.func 94) #[] #[.pointer (some ⟨ma, 0, none⟩), .pointer (some ⟨mb, 0, none⟩), .pointer (some ⟨mc, 0, none⟩)]) (unveil HC1) (LvC.fr (unveil HF0) _ _ (unveil HLP)) rfl)
  go_upto_region 2 with (go_at_call 94; refine (unveil HP0).mono ?_; rintro e W1 ⟨x, q, cx, o1, p1, cr1, f1, rfl, hg1, ho1, hk1, hc1, hf1, hp1⟩; have HG1 := veil (And.intro hg1 ho1); have HK1 := veil hk1; have HC2 := veil hc1; have HP1 := veil hp1; have HZ1 := veil (hf1.box (unveil HZ0) (by decide) (by omega)); have HF1 := veil ((unveil HF0).trans hf1); clear hg1 ho1 hk1 hc1 hf1 hp1; obtain ⟨x0, x1, x2, x3, x4, x5, x6⟩ := x; simp only [exC, PE.is, PE.op, PE.k, PE.v, PE.nm, PE.l, PE.line])
  have hb2 : Below W1.heap.size W1 (W1.alloc (.cells #[.int .i64 x0, .int .i64 x1, .int .i64 x2, .int .i64 x3, .string ⟨x4.toArray⟩, .slice q x5.length cx, .int .i64 x6] 24)) := (Below.refl _ W1).alloc (Nat.le_refl _) _
  have HC3 := veil ((unveil HC2).below hb2)
  have HZ3 := veil ((unveil HZ1).below hb2)
  have HF3 := veil ((unveil HF1).trans (FrE.below hb2 (Nat.le_of_lt (unveil HC2).lt)))
  have HK3 : Hid (Kids (W1.alloc (.cells #[.int .i64 x0, .int .i64 x1, .int .i64 x2, .int .i64 x3, .string ⟨x4.toArray⟩, .slice q x5.length cx, .int .i64 x6] 24)) (fun g => w.heap.size < g ∧ g ≠ W1.heap.size) (.mk x0 x1 x2 x3 x4 x5 x6) q) := ((unveil HK1).mono (K' := fun g => w.heap.size < g ∧ g ≠ W1.heap.size) (fun g h1 h => ⟨by omega, by omega⟩)).below hb2
  have HX3 : Hid (Bk (W1.alloc (.cells #[.int .i64 x0, .int .i64 x1, .int .i64 x2, .int .i64 x3, .string ⟨x4.toArray⟩, .slice q x5.length cx, .int .i64 x6] 24)) W1.heap.size 24 #[.int .i64 x0, .int .i64 x1, .int .i64 x2, .int .i64 x3, .string ⟨x4.toArray⟩, .slice q x5.length cx, .int .i64 x6]) := Bk.new _ _ _
  have hEB : w.heap.size < W1.heap.size := (unveil HZ1).lt
  clear hb2 HK1 HC2 HZ1 HF1 HC1 HZ0 HF0 hsz a0 al HP0
  generalize (W1.alloc (.cells #[.int .i64 x0, .int .i64 x1, .int .i64 x2, .int .i64 x3, .string ⟨x4.toArray⟩, .slice q x5.length cx, .int .i64 x6] 24)) = W2 at *
  generalize W1.heap.size = EB at *
  have HCN : Hid (Cont (nxt ws) (j + 1) p cr (.mk x0 x1 x2 x3 x4 x5 x6) o1 p1 cr1) := Cont.start (unveil HG1).1 (unveil HG1).2
  go_loopg [6] (ws.length - p1) (fun gk okv wr => ∃ (x0 x1 x2 x3 : Int) (x4 : List UInt8) (x5 : List PE) (x6 : Int) (q : Option Addr) (cx : Nat) (o : Option (List PE)) (p1 : Nat) (cr1 : List Int), gk = ws.length - p1 ∧ okv = .bool (Option.isSome o) ∧ p ≤ p1 ∧ Hid (Cx R wv ws tw wr p1 cr1) ∧ Hid (Bk wr w.heap.size 24 #[.int .i64 0, .int .i64 0, .int .i64 0, .int .i64 0, .string ⟨#[]⟩, .slice none 0 0, .int .i64 0]) ∧ Hid (Bk wr EB 24 #[.int .i64 x0, .int .i64 x1, .int .i64 x2, .int .i64 x3, .string ⟨x4.toArray⟩, .slice q x5.length cx, .int .i64 x6]) ∧ Hid (FrE R w wr) ∧ Hid (Kids wr (fun g => w.heap.size < g ∧ g ≠ EB) (.mk x0 x1 x2 x3 x4 x5 x6) q) ∧ Hid (Cont (nxt ws) (j + 1) p cr (.mk x0 x1 x2 x3 x4 x5 x6) o p1 cr1))
  case atStart => exact ⟨x0, x1, x2, x3, x4, x5, x6, q, cx, o1, p1, cr1, rfl, rfl, unveil HP1, HC3, HZ3, HX3, HF3, HK3, HCN⟩
  case round =>
    clear HC3 HZ3 HX3 HF3 HK3 HCN HG1 HP1
    rename World => wr
    obtain ⟨x0, x1, x2, x3, x4, x5, x6, q, cx, o1, p1, cr1, rfl, rfl, hp1, HC3, HZ3, HX3, HF3, HK3, HCN⟩ := hrel
    have HP1 := veil hp1
    cases o1 with
    | none =>
      obtain ⟨fN, hfN⟩ := (unveil HCN).1 rfl
      have HGF := veil hfN
      clear hfN HCN
      simp only [Option.isSome_none]
      go_upto_region 7 with (go_quiet (fail))
      generalize hW : wr.drewN _ = W4
      have hbd : Below wr.heap.size wr W4 := by rw [← hW]; exact below_dn (Below.refl _ wr) _
      have HC4 := veil ((unveil HC3).below hbd)
      have HZ4 := veil ((unveil HZ3).below hbd)
      have HX4 := veil ((unveil HX3).below hbd)
      have HF4 := veil ((unveil HF3).trans (FrE.below hbd (Nat.le_of_lt (unveil HC3).lt)))
      have HK4 := veil (((unveil HK3).below hbd).mono (K' := fun g => w.heap.size < g) (fun g _ h => h.1))
      clear HC3 HZ3 HX3 HF3 HK3 hbd hW
      obtain ⟨⟨b0, b1, b2, b3, b4, b5, b6⟩, bl, _⟩ := ex_cells (unveil HX4)
      obtain ⟨⟨z0, z1, z2, z3, z4, z5, z6⟩, zl, ⟨g0, g1, g2, g3, g4, g5, g6⟩⟩ := ex_cells (unveil HZ4)
      go_wp2_with fail
      obtain ⟨r1, r2⟩ := PrP.fin (x := .mk x0 x1 x2 x3 x4 x5 x6) (c := cx) hR (unveil HC4) (unveil HZ4) (unveil HF4) (unveil HK4) (unveil HGF) (fun l h => by cases h) hp1 false rfl _ rfl
      exact bodyPost_ret (res_ex (f := Tryz.f94) (i := 4) rfl rfl r1 rfl) rfl r2
    | some l1 =>
      obtain rfl := (unveil HCN).2.1 l1 rfl
      simp only [Option.isSome_some]
      have hbd : Below wr.heap.size wr wr.drew := (Below.refl _ wr).drew
      have HC4 := veil ((unveil HC3).below hbd)
      have HZ4 := veil ((unveil HZ3).below hbd)
      have HX4 := veil ((unveil HX3).below hbd)
      have HF4 := veil ((unveil HF3).trans (FrE.below hbd (Nat.le_of_lt (unveil HC3).lt)))
      have HK4 := veil ((unveil HK3).below hbd)
      have HBD := veil hbd
      clear HC3 HZ3 HX3 HK3 hbd
      have HB4 := veil ((unveil HF4).box (unveil HBX) (by decide) (by omega))
      have HC5 := veil ((unveil HF4).box (unveil HCX) (by decide) (by omega))
      have HS4 := veil ((unveil HF4).box (unveil HSX) (by decide) (by omega))
      have HFB := veil (fun (W : World) (h : Below wr.heap.size wr W) => And.intro (((unveil HF3).box (unveil HBX) (by decide) (by omega)).below h) (((unveil HF3).box (unveil HCX) (by decide) (by omega)).below h))
      have HQ : Hid (∀ W, Hid (Below wr.heap.size wr W) → (W.cell? ⟨lb, 0, none⟩ = some (.slice (some ⟨sb, 0, none⟩) (sgnL ((j + 1) + 1)).length sc) ∧ lb < W.heap.size) ∧ (W.cell? ⟨lc, 0, none⟩ = some (.pointer (some ⟨R, 0, none⟩)) ∧ lc < W.heap.size)) := fun W h => by
        obtain ⟨h1, h2⟩ := unveil HFB W (unveil h)
        exact ⟨⟨h1.cell 0, h1.lt⟩, ⟨h2.cell 0, h2.lt⟩⟩
      obtain ⟨crv4, hX4, hL4, hp4⟩ := id (unveil HC4)
      have HSG := veil (sign_any hX4)
      have HTK := veil (fun (hin : p1 < ws.length) => etake_any hX4 hin hl hws)
      have HL4 := veil hL4
      have HCT := veil (contains_any (sgnL ((j + 1) + 1)) (sgW (nxt ws p1)) sb sc wr.drew (sgn_len _) (unveil HS4))
      clear hX4 hL4 HFB
      obtain ⟨B, hB⟩ : ∃ B, (sgnL ((j + 1) + 1)).contains (sgW (nxt ws p1)) = B := ⟨_, rfl⟩
      have HBB := veil hB
      rw [hB] at HCT
      clear hB
      have HSW : Hid (∀ S, sgW (nxt ws p1) = S → S = sgW (nxt ws p1)) := fun S h => h.symm
      generalize hSS : sgW (nxt ws p1) = S at HSG HCT
      have HS5 := veil hSS
      clear hSS
      go_upto_region 2 with fail
      refine wp_region_noPanic (wpIn_wide.1 (wpIn_region_sch (ro := none) (n := 0) (fun w' => Hid (Below wr.heap.size wr w')) (.pure 0 (.pure 1 (.pure 2 (.pure 3 (.sole 4 (.sole 5 .done)))))) 6 hmixX (by kernel_rfl) (by kernel_rfl) (by kernel_rfl) (by kernel_rfl) (by kernel_rfl) (by kernel_rfl) (fun _ _ _ _ h => h) (veil (unveil HBD)) ?_))
      iterate 4 (
        refine sch_pure _ rfl _ (.inl ⟨rfl, fun W hS => (by obtain ⟨⟨u1, u2⟩, ⟨u3, u4⟩⟩ := unveil HQ W hS; go_simp; rfl)⟩) (fun B' hB' => ?_)
        simp only [List.getElem_toArray, List.getElem_cons_zero, List.getElem_cons_succ, Act.put, List.setIfInBounds_toArray, List.set_cons_zero, List.set_cons_succ] at hB'
        subst hB')
      refine sch_sole _ rfl (fun K hK => ?_)
      go_simp
      refine ⟨trivial, rfl, (callsIn_wide.2 (unveil HSG)).mono ?_⟩
      rintro e W3 ⟨rfl, hw'⟩
      obtain rfl := hw'.symm
      refine hK _ _ HBD ?_
      clear hK K hw'
      refine sch_sole _ rfl (fun K hK => ?_)
      go_simp
      refine ⟨trivial, rfl, (callsIn_wide.2 (unveil HCT)).mono ?_⟩
      rintro e W3 ⟨rfl, hw'⟩
      obtain rfl := hw'.symm
      refine hK _ _ HBD ?_
      clear hK K hw'
      refine sch_done ?_
      refine listIn_last rfl (fun K hK => ?_)
      go_simp
      refine hK _ _ ?_
      clear hK K HSG HCT HQ HBD HF3
      have HPA := veil ((unveil HF4).box (unveil HA) (by decide) (by omega))
      generalize wr.drew = W4 at *
      cases B
      · obtain ⟨fN, hfN⟩ := (unveil HCN).2.2 _ rfl 1 _ (lop_no (unveil HBB))
        have HGF := veil hfN
        clear hfN HCN HTK
        have HK5 := veil ((unveil HK4).mono (K' := fun g => w.heap.size < g) (fun g _ h => h.1))
        go_upto_region 7 with fail
        obtain ⟨⟨b0, b1, b2, b3, b4, b5, b6⟩, bl, _⟩ := ex_cells (unveil HX4)
        obtain ⟨⟨z0, z1, z2, z3, z4, z5, z6⟩, zl, ⟨g0, g1, g2, g3, g4, g5, g6⟩⟩ := ex_cells (unveil HZ4)
        go_wp2_with fail
        obtain ⟨r1, r2⟩ := PrP.fin (x := .mk x0 x1 x2 x3 x4 x5 x6) (c := cx) hR (unveil HC4) (unveil HZ4) (unveil HF4) (unveil HK5) (unveil HGF) (fun l h => by cases h; rfl) hp1 true rfl _ rfl
        exact bodyPost_ret (res_ex (f := Tryz.f94) (i := 4) rfl rfl r1 rfl) rfl r2
      · have hin : p1 < ws.length := sg_in (by
          intro e
          have := unveil HBB
          rw [e, (sgn_no _).1] at this
          cases this)
        have HTA := veil (unveil HTK hin)
        generalize hxw : nxt ws p1 = xw at HTA
        have HXW := veil hxw
        clear hxw HTK
        obtain ⟨wk, wsx, wvx, wt, wf, wl⟩ := xw
        unfold wdV wdC at HTA
        have lc0 := (unveil HC5).cell 0
        have lcl := (unveil HC5).lt
        simp only [List.getElem?_toArray, List.getElem?_cons_zero] at lc0
        go_upto_region 5 with (first
          | (go_at_call 66; refine (unveil HTA).mono ?_; rintro e W5 ⟨rfl, hf5, hx5⟩; have HF5 := veil hf5; have HC6 : Hid (Cx R wv ws tw W5 (p1 + 1) cr1) := ⟨_, hx5, LvC.fr hf5 10 tw (unveil HL4), hin, Nat.le_succ_of_le hp4.2⟩; clear hf5 hx5))
        clear lc0 lcl HTA HL4
        have hR4 := (unveil HC4).lt
        obtain ⟨csR, hbkR⟩ := (unveil HC4).bk
        have hb6 : Below W5.heap.size W5 ((W5.alloc (.cells #[.int .i64 wk, .string ⟨wsx.toArray⟩, .int .i64 wvx, .int .i64 wt, .string ⟨wf.toArray⟩, .int .i64 wl] 42)).alloc (.cells #[.int .i64 0, .int .i64 0, .int .i64 0, .int .i64 0, .string ⟨#[]⟩, .slice none 0 0, .int .i64 0] 24)) := ((Below.refl _ W5).alloc (Nat.le_refl _) _).alloc (by simp) _
        have HCa := veil ((unveil HC6).below hb6)
        have HZa := veil (((unveil HF5).box (unveil HZ4) (by decide) (by omega)).below hb6)
        have HXa := veil (((unveil HF5).box (unveil HX4) (by decide) (by omega)).below hb6)
        have HFa := veil (((unveil HF4).trans (unveil HF5)).trans (FrE.below hb6 (Nat.le_of_lt (unveil HC6).lt)))
        have HKa := veil ((((unveil HK4).fr (unveil HF5) hbkR).mono (K' := fun g => (w.heap.size < g ∧ g ≠ EB) ∧ g ≠ W5.heap.size + 1) (fun g h1 h => ⟨h, by omega⟩)).below hb6)
        have HPa := veil (((unveil HF5).box (unveil HPA) (by decide) (by omega)).below hb6)
        have HWa : Hid (Bk ((W5.alloc (.cells #[.int .i64 wk, .string ⟨wsx.toArray⟩, .int .i64 wvx, .int .i64 wt, .string ⟨wf.toArray⟩, .int .i64 wl] 42)).alloc (.cells #[.int .i64 0, .int .i64 0, .int .i64 0, .int .i64 0, .string ⟨#[]⟩, .slice none 0 0, .int .i64 0] 24)) W5.heap.size 42 #[.int .i64 wk, .string ⟨wsx.toArray⟩, .int .i64 wvx, .int .i64 wt, .string ⟨wf.toArray⟩, .int .i64 wl]) := (Bk.new _ _ _).alloc _
        have HSa : Hid (Bk ((W5.alloc (.cells #[.int .i64 wk, .string ⟨wsx.toArray⟩, .int .i64 wvx, .int .i64 wt, .string ⟨wf.toArray⟩, .int .i64 wl] 42)).alloc (.cells #[.int .i64 0, .int .i64 0, .int .i64 0, .int .i64 0, .string ⟨#[]⟩, .slice none 0 0, .int .i64 0] 24)) (W5.heap.size + 1) 24 #[.int .i64 0, .int .i64 0, .int .i64 0, .int .i64 0, .string ⟨#[]⟩, .slice none 0 0, .int .i64 0]) := by
          have := Bk.new (W5.alloc (.cells #[.int .i64 wk, .string ⟨wsx.toArray⟩, .int .i64 wvx, .int .i64 wt, .string ⟨wf.toArray⟩, .int .i64 wl] 42)) 24 #[.int .i64 0, .int .i64 0, .int .i64 0, .int .i64 0, .string ⟨#[]⟩, .slice none 0 0, .int .i64 0]
          rw [World.size_alloc] at this
          exact this
        have hEW : EB < W5.heap.size := ((unveil HF5).box (unveil HX4) (by decide) (by omega)).lt
        have hsz : ((W5.alloc (.cells #[.int .i64 wk, .string ⟨wsx.toArray⟩, .int .i64 wvx, .int .i64 wt, .string ⟨wf.toArray⟩, .int .i64 wl] 42)).alloc (.cells #[.int .i64 0, .int .i64 0, .int .i64 0, .int .i64 0, .string ⟨#[]⟩, .slice none 0 0, .int .i64 0] 24)).heap.size = W5.heap.size + 1 + 1 := by simp
        clear hb6 HC6 HZ4 HX4 HF4 HK4 HPA HF5 hbkR HC4
        generalize ((W5.alloc (.cells #[.int .i64 wk, .string ⟨wsx.toArray⟩, .int .i64 wvx, .int .i64 wt, .string ⟨wf.toArray⟩, .int .i64 wl] 42)).alloc (.cells #[.int .i64 0, .int .i64 0, .int .i64 0, .int .i64 0, .string ⟨#[]⟩, .slice none 0 0, .int .i64 0] 24)) = W6 at *
        generalize W5.heap.size = WB at *
        have a0 : W6.cell? ⟨la, 0, none⟩ = some (.func (.func 94) #[] #[.pointer (some ⟨ma, 0, none⟩), .pointer (some ⟨mb, 0, none⟩), .pointer (some ⟨mc, 0, none⟩)]) := (unveil HPa).cell 0
        have al := (unveil HPa).lt
        have HP6 := veil ((unveil HO) _ (by omega) W6 cr1 ma mb mc (.func (.func 94) #[] #[.pointer (some ⟨ma, 0, none⟩), .pointer (some ⟨mb, 0, none⟩), .pointer (some ⟨mc, 0, none⟩)]) (unveil HCa) (LvC.fr (unveil HFa) _ _ (unveil HLP)) rfl)
        have HN := veil hin
        go_upto_region 6 with (go_at_call 94; refine (unveil HP6).mono ?_; rintro e W7 ⟨y, q2, cy, o2, p2, cr2, f2, rfl, hg2, ho2, hk2, hc2, hf2, hp2⟩; have HG2 := veil (And.intro hg2 ho2); have HK2 := veil hk2; have HC7 := veil hc2; have HP2 := veil hp2; have HF7 := veil hf2; have HS7 := veil (hf2.box (unveil HSa) (by decide) (by have := (unveil HCa).lt; omega)); clear hg2 ho2 hk2 hc2 hf2 hp2; obtain ⟨y0, y1, y2, y3, y4, y5, y6⟩ := y; simp only [exC, PE.is, PE.op, PE.k, PE.v, PE.nm, PE.l, PE.line]; obtain ⟨⟨t0, t1, t2, t3, t4, t5, t6⟩, tl, ⟨i0, i1, i2, i3, i4, i5, i6⟩⟩ := ex_cells (unveil HS7))
        clear t0 t1 t2 t3 t4 t5 t6 tl i0 i1 i2 i3 i4 i5 i6 a0 al HP6
        have hRa := (unveil HCa).lt
        obtain ⟨csR2, hbkR2⟩ := (unveil HCa).bk
        obtain ⟨s1, s2, s3, s4⟩ := ex_put (unveil HS7) (.int .i64 y0) (.int .i64 y1) (.int .i64 y2) (.int .i64 y3) (.string ⟨y4.toArray⟩) (.slice q2 y5.length cy) (.int .i64 y6) _ rfl
        have HC8 := veil ((unveil HC7).late (by omega) (unveil HS7) s3 s2)
        have HZ8 : Hid (Bk _ w.heap.size 24 #[.int .i64 0, .int .i64 0, .int .i64 0, .int .i64 0, .string ⟨#[]⟩, .slice none 0 0, .int .i64 0]) := veil (s3 _ _ (by omega) ((unveil HF7).box (unveil HZa) (by decide) (by omega)))
        have HX8 : Hid (Bk _ EB 24 #[.int .i64 x0, .int .i64 x1, .int .i64 x2, .int .i64 x3, .string ⟨x4.toArray⟩, .slice q x5.length cx, .int .i64 x6]) := veil (s3 _ _ (by omega) ((unveil HF7).box (unveil HXa) (by decide) (by omega)))
        have HW8 : Hid (Bk _ WB 42 #[.int .i64 wk, .string ⟨wsx.toArray⟩, .int .i64 wvx, .int .i64 wt, .string ⟨wf.toArray⟩, .int .i64 wl]) := veil (s3 _ _ (by omega) ((unveil HF7).box (unveil HWa) (by decide) (by omega)))
        have HF8 := veil (FrE.late ((unveil HFa).trans (unveil HF7)) (by omega) (by omega) s3 s2)
        have HK8 := veil (((((unveil HKa).fr (unveil HF7) hbkR2)).off s3 (by simp)).mono (K' := fun g => w.heap.size < g ∧ g ≠ EB) (fun g _ h => h.1))
        have HY8 := veil (((unveil HK2).off s3 (by omega)).mono (K' := fun g => w.heap.size < g ∧ g ≠ EB) (fun g _ h => ⟨by omega, by omega⟩))
        have HS8 := veil s1
        clear s1 s2 s3 s4 HS7 HC7 HZa HXa HWa HFa HKa HPa HF7 HK2 HCa hbkR2 HSa
        generalize (((((((W7.setCell ⟨WB + 1, 0, none⟩ (.int .i64 y0)).setCell ⟨WB + 1, 1, none⟩ (.int .i64 y1)).setCell ⟨WB + 1, 2, none⟩ (.int .i64 y2)).setCell ⟨WB + 1, 3, none⟩ (.int .i64 y3)).setCell ⟨WB + 1, 4, none⟩ (.string ⟨y4.toArray⟩)).setCell ⟨WB + 1, 5, none⟩ (.slice q2 y5.length cy)).setCell ⟨WB + 1, 6, none⟩ (.int .i64 y6)) = W8 at *
        obtain ⟨⟨b0, b1, b2, b3, b4, b5, b6⟩, bl, ⟨j0, j1, j2, j3, j4, j5, j6⟩⟩ := ex_cells (unveil HX8)
        obtain ⟨⟨d0, d1, d2, d3, d4, d5, d6⟩, dl, _⟩ := ex_cells (unveil HS8)
        have w0 := (unveil HW8).cell 0
        have w1 := (unveil HW8).cell 1
        have w2 := (unveil HW8).cell 2
        have w3 := (unveil HW8).cell 3
        have w4 := (unveil HW8).cell 4
        have w5 := (unveil HW8).cell 5
        have wll := (unveil HW8).lt
        simp only [List.getElem?_toArray, List.getElem?_cons_zero, List.getElem?_cons_succ] at w0 w1 w2 w3 w4 w5
        have HJO : Hid (Calls Tryz.prog 96 #[.agg #[.int .i64 wk, .string ⟨wsx.toArray⟩, .int .i64 wvx, .int .i64 wt, .string ⟨wf.toArray⟩, .int .i64 wl], .agg #[.int .i64 x0, .int .i64 x1, .int .i64 x2, .int .i64 x3, .string ⟨x4.toArray⟩, .slice q x5.length cx, .int .i64 x6], .agg #[.int .i64 y0, .int .i64 y1, .int .i64 y2, .int .i64 y3, .string ⟨y4.toArray⟩, .slice q2 y5.length cy, .int .i64 y6]] W8 fun e w' => ∃ q' c', e = .returned (.agg (exC (joiP (nxt ws p1) (.mk x0 x1 x2 x3 x4 x5 x6) (.mk y0 y1 y2 y3 y4 y5 y6)) q' c')) ∧ Kids w' (fun g => (w.heap.size < g ∧ g ≠ EB) ∨ W8.heap.size ≤ g) (joiP (nxt ws p1) (.mk x0 x1 x2 x3 x4 x5 x6) (.mk y0 y1 y2 y3 y4 y5 y6)) q' ∧ Below W8.heap.size W8 w') := by
          obtain ⟨crv8, hX8', _, _⟩ := unveil HC8
          have h := joined_any (nxt ws p1) (.mk x0 x1 x2 x3 x4 x5 x6) (.mk y0 y1 y2 y3 y4 y5 y6) q q2 cx cy W8 (fun g => w.heap.size < g ∧ g ≠ EB) hX8'.op (by have := hX8'.gl.size; show 0 < _; omega) (unveil HK8) (unveil HY8)
          rw [unveil HXW] at h ⊢
          exact h
        have HCO : Hid (Cont (nxt ws) (j + 1) p cr (joiP (nxt ws p1) (.mk x0 x1 x2 x3 x4 x5 x6) (.mk y0 y1 y2 y3 y4 y5 y6)) (o2.map fun _ => [joiP (nxt ws p1) (.mk x0 x1 x2 x3 x4 x5 x6) (.mk y0 y1 y2 y3 y4 y5 y6)]) p2 cr2) := Cont.next (unveil HCN) (unveil HBB) (unveil HG2).1 (unveil HG2).2
        clear HCN HG2 HXW HK8 HY8
        generalize joiP (nxt ws p1) (.mk x0 x1 x2 x3 x4 x5 x6) (.mk y0 y1 y2 y3 y4 y5 y6) = J at *
        obtain ⟨k0, k1, k2, k3, k4, k5, k6⟩ := J
        simp only [exC, PE.is, PE.op, PE.k, PE.v, PE.nm, PE.l, PE.line] at HJO
        have hW8 : EB < W8.heap.size := (unveil HX8).lt
        go_wp2_with (go_at_call 96; refine (unveil HJO).mono ?_; rintro e W9 ⟨q9, c9, rfl, hk9, hb9⟩; have HK9 := veil hk9; have HC9 := veil ((unveil HC8).below hb9); have HZ9 := veil ((unveil HZ8).below hb9); have HX9 := veil ((unveil HX8).below hb9); have HF9 := veil ((unveil HF8).trans (FrE.below hb9 (Nat.le_of_lt (unveil HC8).lt))); clear hk9 hb9 b0 b1 b2 b3 b4 b5 b6 bl j0 j1 j2 j3 j4 j5 j6; obtain ⟨⟨b0, b1, b2, b3, b4, b5, b6⟩, bl, ⟨j0, j1, j2, j3, j4, j5, j6⟩⟩ := ex_cells (unveil HX9))
        obtain ⟨s1, s2, s3, s4⟩ := ex_put (unveil HX9) (.int .i64 k0) (.int .i64 k1) (.int .i64 k2) (.int .i64 k3) (.string ⟨k4.toArray⟩) (.slice q9 k5.length c9) (.int .i64 k6) _ rfl
        have hCf := (unveil HC9).late (by omega) (unveil HX9) s3 s2
        have hFf := FrE.late (unveil HF9) (Nat.le_of_lt hEB) (by omega) s3 s2
        have hKf := ((unveil HK9).mono (K' := fun g => w.heap.size < g ∧ g ≠ EB) (fun g _ h => by rcases h with h | h; exact h; exact ⟨by omega, by omega⟩)).off s3 (by simp)
        have hZf := s3 _ _ (by omega) (unveil HZ9)
        have HR := veil (And.intro s1 (And.intro hCf (And.intro hFf (And.intro hKf hZf))))
        clear s1 s2 s3 s4 hCf hFf hKf hZf
        go_roundg (ws.length - p2)
        case measure => have := unveil HN; have := unveil HP2; omega
        case rel =>
          obtain ⟨r1, r2, r3, r4, r5⟩ := unveil HR
          exact ⟨k0, k1, k2, k3, k4, k5, k6, q9, c9, _, p2, cr2, rfl, by cases o2 <;> rfl, by have := unveil HP2; omega, r2, r5, r1, r3, r4, HCO⟩
end Go.Proofs.YtmpkgjonbjpohaaGreatDoor
