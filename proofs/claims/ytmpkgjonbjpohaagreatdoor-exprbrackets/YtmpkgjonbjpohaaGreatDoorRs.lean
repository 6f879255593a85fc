/-
  Package expr: expression.
-/
import Derived.Test.YtmpkgjonbjpohaaGreatDoorRr
namespace Go.Proofs.YtmpkgjonbjpohaaGreatDoor
open Go Go.RowKit
set_option linter.unusedVariables false
set_option linter.unusedSimpArgs false

/-- The levels' closures, called. -/
def OkV (R : Nat) (wv : Value) (ws : List Wd) (tw : Value) (i p : Nat) : Prop := ∀ (W : World) (cr : List Int) (a b c : Nat) (fv : Value), Cx R wv ws tw W p cr → LvC W R (i + 1) fv → fv = .func (.func 94) #[] #[.pointer (some ⟨a, 0, none⟩), .pointer (some ⟨b, 0, none⟩), .pointer (some ⟨c, 0, none⟩)] →
  Calls Tryz.prog 94 #[.pointer (some ⟨a, 0, none⟩), .pointer (some ⟨b, 0, none⟩), .pointer (some ⟨c, 0, none⟩)] W (PrP R wv ws tw (.lev (i + 1)) p cr W)
def OkE (R : Nat) (wv : Value) (ws : List Wd) (tw : Value) (p : Nat) : Prop := ∀ (W : World) (cr : List Int), Cx R wv ws tw W p cr → Calls Tryz.prog 32 #[.pointer (some ⟨R, 0, none⟩)] W (PrP R wv ws tw .exp p cr W)
def OkO (R : Nat) (wv : Value) (ws : List Wd) (tw : Value) (p : Nat) : Prop := ∀ (W : World) (cr : List Int), Cx R wv ws tw W p cr → Calls Tryz.prog 64 #[.pointer (some ⟨R, 0, none⟩)] W (PrP R wv ws tw .one p cr W)
theorem gM_ge {N : Nat → Wd} {f p : Nat} {k : Kd} {cr : List Int} {r : Option (List PE) × Nat × List Int} (h : gM N f k p cr = some r) (n : Nat) (hn : f ≤ n) : gM N n k p cr = some r := gM_le N hn k p cr r h
theorem exp_none {N : Nat → Wd} {f p p1 : Nat} {cr cr1 : List Int} (h : gM N f (.lev 10) p cr = some (none, p1, cr1)) : gM N (f + 1) .exp p cr = some (none, p1, cr1) := by rw [gM, h]; rfl
theorem exp_no {N : Nat → Wd} {f p p1 : Nat} {cr cr1 : List Int} {x : PE} (h : gM N f (.lev 10) p cr = some (some [x], p1, cr1)) (hs : (sgW (N p1) == [63]) = false) : gM N (f + 1) .exp p cr = some (some [x], p1, cr1) := by
  rw [gM, h]
  simp only [bnd]
  rw [hs]
  rfl
theorem exp_two {N : Nat → Wd} {f f2 p p1 p2 : Nat} {cr cr1 cr2 : List Int} {x : PE} (h : gM N f (.lev 10) p cr = some (some [x], p1, cr1)) (hs : (sgW (N p1) == [63]) = true) (h2 : gM N f2 .exp (p1 + 1) cr1 = some (none, p2, cr2)) : gM N (f + f2 + 1) .exp p cr = some (none, p2, cr2) := by
  rw [gM, gM_ge h (f + f2) (by omega)]
  simp only [bnd]
  rw [hs, if_pos rfl, gM_ge h2 (f + f2) (by omega)]
theorem exp_col {N : Nat → Wd} {f f2 p p1 p2 : Nat} {cr cr1 cr2 : List Int} {x y : PE} (h : gM N f (.lev 10) p cr = some (some [x], p1, cr1)) (hs : (sgW (N p1) == [63]) = true) (h2 : gM N f2 .exp (p1 + 1) cr1 = some (some [y], p2, cr2)) (hc : (sgW (N p2) == [58]) = false) : gM N (f + f2 + 1) .exp p cr = some (none, p2, cr2) := by
  rw [gM, gM_ge h (f + f2) (by omega)]
  simp only [bnd]
  rw [hs, if_pos rfl, gM_ge h2 (f + f2) (by omega)]
  simp only
  rw [hc]
  rfl
theorem exp_three {N : Nat → Wd} {f f2 f3 p p1 p2 p3 : Nat} {cr cr1 cr2 cr3 : List Int} {x y z : PE} {o : Option (List PE)} (h : gM N f (.lev 10) p cr = some (some [x], p1, cr1)) (hs : (sgW (N p1) == [63]) = true) (h2 : gM N f2 .exp (p1 + 1) cr1 = some (some [y], p2, cr2)) (hc : (sgW (N p2) == [58]) = true) (h3 : gM N f3 .exp (p2 + 1) cr2 = some (o, p3, cr3)) (ho : ∀ l, o = some l → l = [z]) :
    gM N (f + f2 + f3 + 1) .exp p cr = some (o.map (fun _ => [.mk 9 0 0 0 [] [x, y, z] (N p1).line]), p3, cr3) := by
  rw [gM, gM_ge h (f + f2 + f3) (by omega)]
  simp only [bnd]
  rw [hs, if_pos rfl, gM_ge h2 (f + f2 + f3) (by omega)]
  simp only
  rw [hc, if_pos rfl, gM_ge h3 (f + f2 + f3) (by omega)]
  cases o with
  | none => rfl
  | some l => rw [ho l rfl]; rfl
def zeP : PE := .mk 0 0 0 0 [] [] 0
set_option maxRecDepth 100000 in
set_option maxHeartbeats 16000000 in
theorem expression_any (R : Nat) (wv : Value) (ws : List Wd) (tw : Value) (hl : ws.length ≤ 1000000) (hws : ∀ y ∈ ws, y.s.length ≤ 140737488355328) (p : Nat) (hv : OkV R wv ws tw 9 p) (he : ∀ p', p < p' → OkE R wv ws tw p') : OkE R wv ws tw p := fun w cr hC => by
  have HE := veil he
  have hR := hC.lt
  have hb0 : Below w.heap.size w (w.alloc (.cells #[.int .i64 0, .int .i64 0, .int .i64 0, .int .i64 0, .string ⟨#[]⟩, .slice none 0 0, .int .i64 0] 24)) := (Below.refl _ w).alloc (Nat.le_refl _) _
  have HC1 := veil (hC.below hb0)
  have HZ0 : Hid (Bk (w.alloc (.cells #[.int .i64 0, .int .i64 0, .int .i64 0, .int .i64 0, .string ⟨#[]⟩, .slice none 0 0, .int .i64 0] 24)) w.heap.size 24 #[.int .i64 0, .int .i64 0, .int .i64 0, .int .i64 0, .string ⟨#[]⟩, .slice none 0 0, .int .i64 0]) := Bk.new _ _ _
  have HF0 : Hid (FrE R w (w.alloc (.cells #[.int .i64 0, .int .i64 0, .int .i64 0, .int .i64 0, .string ⟨#[]⟩, .slice none 0 0, .int .i64 0] 24))) := FrE.below hb0 (Nat.le_of_lt hR)
  have hsz : (w.alloc (.cells #[.int .i64 0, .int .i64 0, .int .i64 0, .int .i64 0, .string ⟨#[]⟩, .slice none 0 0, .int .i64 0] 24)).heap.size = w.heap.size + 1 := by simp
  clear hb0 he hC
  go_enter Tryz.func32, Tryz.ntmps32
  go_upto_region 1 with fail
  generalize (w.alloc (.cells #[.int .i64 0, .int .i64 0, .int .i64 0, .int .i64 0, .string ⟨#[]⟩, .slice none 0 0, .int .i64 0] 24)) = W0 at *
  obtain ⟨crv0, hX0, hL0, hp0⟩ := unveil HC1
  obtain ⟨la, lb, lc, pv, sb, sc, htw, hlv⟩ := id hL0
  have HCV := veil (hv W0 cr la lb lc tw (unveil HC1) hL0 htw)
  obtain ⟨⟨c0, c1, c2, c3, c4, c5, c6, c7, c8, c9⟩, hlr, _⟩ := hX0.cells
  rw [htw] at c8
  clear htw hlv hv hL0 hX0
  go_upto_region 2 with (go_at_call 94; refine (unveil HCV).mono ?_; rintro e W1 ⟨x, q, cx, o1, p1, cr1, f1, rfl, hg1, ho1, hk1, hc1, hf1, hp1⟩; have HG1 := veil (And.intro hg1 ho1); have HK1 := veil hk1; have HC2 := veil hc1; have HP1 := veil hp1; have HZ1 := veil (hf1.box (unveil HZ0) (by decide) (by omega)); have HF1 := veil ((unveil HF0).trans hf1); clear hg1 ho1 hk1 hc1 hf1 hp1; obtain ⟨x0, x1, x2, x3, x4, x5, x6⟩ := x; simp only [exC, PE.is, PE.op, PE.k, PE.v, PE.nm, PE.l, PE.line])
  clear c0 c1 c2 c3 c4 c5 c6 c7 c8 c9 hlr HCV
  have hb2 : Below W1.heap.size W1 (W1.alloc (.cells #[.int .i64 x0, .int .i64 x1, .int .i64 x2, .int .i64 x3, .string ⟨x4.toArray⟩, .slice q x5.length cx, .int .i64 x6] 24)) := (Below.refl _ W1).alloc (Nat.le_refl _) _
  have HC3 := veil ((unveil HC2).below hb2)
  have HZ3 := veil ((unveil HZ1).below hb2)
  have HF3 := veil ((unveil HF1).trans (FrE.below hb2 (Nat.le_of_lt (unveil HC2).lt)))
  have HK3 : Hid (Kids (W1.alloc (.cells #[.int .i64 x0, .int .i64 x1, .int .i64 x2, .int .i64 x3, .string ⟨x4.toArray⟩, .slice q x5.length cx, .int .i64 x6] 24)) (fun g => w.heap.size < g) (.mk x0 x1 x2 x3 x4 x5 x6) q) := ((unveil HK1).below hb2).mono (fun g _ h => by omega)
  have HX3 : Hid (Bk (W1.alloc (.cells #[.int .i64 x0, .int .i64 x1, .int .i64 x2, .int .i64 x3, .string ⟨x4.toArray⟩, .slice q x5.length cx, .int .i64 x6] 24)) W1.heap.size 24 #[.int .i64 x0, .int .i64 x1, .int .i64 x2, .int .i64 x3, .string ⟨x4.toArray⟩, .slice q x5.length cx, .int .i64 x6]) := Bk.new _ _ _
  have hXB : w.heap.size < W1.heap.size := (unveil HZ1).lt
  clear hb2 HK1 HC2 HZ1 HF1 HC1 HZ0 HF0 hsz
  generalize (W1.alloc (.cells #[.int .i64 x0, .int .i64 x1, .int .i64 x2, .int .i64 x3, .string ⟨x4.toArray⟩, .slice q x5.length cx, .int .i64 x6] 24)) = W2 at *
  generalize W1.heap.size = XB at *
  obtain ⟨⟨b0, b1, b2, b3, b4, b5, b6⟩, bl, _⟩ := ex_cells (unveil HX3)
  obtain ⟨⟨z0, z1, z2, z3, z4, z5, z6⟩, zl, ⟨g0, g1, g2, g3, g4, g5, g6⟩⟩ := ex_cells (unveil HZ3)
  cases o1 with
  | none =>
    have HGF := veil (exp_none (unveil HG1).1)
    clear HG1 HE
    simp only [Option.isSome_none]
    go_wp2_with fail
    obtain ⟨r1, r2⟩ := PrP.fin (x := .mk x0 x1 x2 x3 x4 x5 x6) (c := cx) hR (unveil HC3) (unveil HZ3) (unveil HF3) (unveil HK3) (unveil HGF) (fun l h => by cases h) (unveil HP1) false rfl _ rfl
    exact bodyPost_ret (res_ex (f := Tryz.f32) (i := 3) rfl rfl r1 rfl) rfl r2
  | some l1 =>
    obtain rfl := (unveil HG1).2 l1 rfl
    have HGA := veil (unveil HG1).1
    clear HG1
    simp only [Option.isSome_some]
    obtain ⟨crv3, hX3, _, hp3⟩ := id (unveil HC3)
    have HSG := veil (sign_any hX3)
    clear hX3
    cases hS : sgW (nxt ws p1) == [63]
    · have HGF := veil (exp_no (unveil HGA) hS)
      clear HGA HE
      generalize sgW (nxt ws p1) = S at *
      go_wp2_with (go_at_call 65; refine (unveil HSG).mono ?_; rintro e W3 ⟨rfl, hw'⟩; obtain rfl := hw'.symm)
      obtain ⟨r1, r2⟩ := PrP.fin (x := .mk x0 x1 x2 x3 x4 x5 x6) (c := cx) hR (unveil HC3) (unveil HZ3) (unveil HF3) (unveil HK3) (unveil HGF) (fun l h => by cases h; rfl) (unveil HP1) true rfl _ rfl
      exact bodyPost_ret (res_ex (f := Tryz.f32) (i := 3) rfl rfl r1 rfl) rfl r2
    · have hin : p1 < ws.length := sg_in (by intro e; rw [e] at hS; cases hS)
      have HTK : Hid (∃ crv, ∃ h : RdX W2 R wv ws tw crv p1 (nxt ws p1) cr1, LvC W2 R 10 tw) := by obtain ⟨crv, h1, h2, _⟩ := unveil HC3; exact ⟨crv, h1, h2⟩
      obtain ⟨crv4, hX4, hL4⟩ := unveil HTK
      have HTA := veil (etake_any hX4 hin hl hws)
      have HL4 := veil hL4
      clear hX4 hL4 HTK
      have HSS := veil hS
      generalize sgW (nxt ws p1) = S at HSG hS
      have HLN : Hid (∀ y, nxt ws p1 = y → y.line = (nxt ws p1).line) := fun y h => by rw [h]
      generalize hxw : nxt ws p1 = xw at HTA
      have HXW := veil hxw
      clear hxw
      obtain ⟨wk, wsx, wvx, wt, wf, wl⟩ := xw
      unfold wdV wdC at HTA
      go_upto_region 5 with (first
        | (go_at_call 65; refine (unveil HSG).mono ?_; rintro e W3 ⟨rfl, hw'⟩; obtain rfl := hw'.symm)
        | (go_at_call 66; refine (unveil HTA).mono ?_; rintro e W3 ⟨rfl, hf4, hx4⟩; have HF4 := veil hf4; have HC4 : Hid (Cx R wv ws tw W3 (p1 + 1) cr1) := ⟨_, hx4, LvC.fr hf4 10 tw (unveil HL4), hin, Nat.le_succ_of_le hp3.2⟩; clear hf4 hx4))
      clear HSG HTA HL4 b0 b1 b2 b3 b4 b5 b6 bl z0 z1 z2 z3 z4 z5 z6 zl g0 g1 g2 g3 g4 g5 g6
      have hR2 := (unveil HC3).lt
      obtain ⟨csR, hbkR⟩ := (unveil HC3).bk
      have hWS := (unveil HF4).be.size
      have hb5 : Below W3.heap.size W3 (W3.alloc (.cells #[.int .i64 wk, .string ⟨wsx.toArray⟩, .int .i64 wvx, .int .i64 wt, .string ⟨wf.toArray⟩, .int .i64 wl] 42)) := (Below.refl _ W3).alloc (Nat.le_refl _) _
      have HC5 := veil ((unveil HC4).below hb5)
      have HZ5 := veil (((unveil HF4).box (unveil HZ3) (by decide) (by omega)).below hb5)
      have HX5 := veil (((unveil HF4).box (unveil HX3) (by decide) (by omega)).below hb5)
      have HF5 := veil (((unveil HF3).trans (unveil HF4)).trans (FrE.below hb5 (Nat.le_of_lt (unveil HC4).lt)))
      have HK5 := veil (((unveil HK3).fr (unveil HF4) hbkR).below hb5)
      have HW5 : Hid (Bk (W3.alloc (.cells #[.int .i64 wk, .string ⟨wsx.toArray⟩, .int .i64 wvx, .int .i64 wt, .string ⟨wf.toArray⟩, .int .i64 wl] 42)) W3.heap.size 42 #[.int .i64 wk, .string ⟨wsx.toArray⟩, .int .i64 wvx, .int .i64 wt, .string ⟨wf.toArray⟩, .int .i64 wl]) := Bk.new _ _ _
      have hWB : XB < W3.heap.size := ((unveil HF4).box (unveil HX3) (by decide) (by omega)).lt
      clear hb5 HC4 HZ3 HX3 HF3 HK3 HC3 HF4 hWS hbkR
      generalize (W3.alloc (.cells #[.int .i64 wk, .string ⟨wsx.toArray⟩, .int .i64 wvx, .int .i64 wt, .string ⟨wf.toArray⟩, .int .i64 wl] 42)) = W4 at *
      generalize W3.heap.size = WB at *
      have HE5 := veil ((unveil HE) (p1 + 1) (by have := unveil HP1; omega) W4 cr1 (unveil HC5))
      have hW4s : w.heap.size < W4.heap.size := (unveil HZ5).lt
      go_upto_region 6 with (go_at_call 32; refine (unveil HE5).mono ?_; rintro e W5 ⟨y, q2, cy, o2, p2, cr2, f2, rfl, hg2, ho2, hk2, hc2, hf2, hp2⟩; have HG2 := veil (And.intro hg2 ho2); have HK2 := veil hk2; have HC6 := veil hc2; have HP2 := veil hp2; have HF6 := veil hf2; clear hg2 ho2 hk2 hc2 hf2 hp2; obtain ⟨y0, y1, y2, y3, y4, y5, y6⟩ := y; simp only [exC, PE.is, PE.op, PE.k, PE.v, PE.nm, PE.l, PE.line])
      obtain ⟨csR2, hbkR2⟩ := (unveil HC5).bk
      have hR3 := (unveil HC5).lt
      have hb6 : Below W5.heap.size W5 (W5.alloc (.cells #[.int .i64 y0, .int .i64 y1, .int .i64 y2, .int .i64 y3, .string ⟨y4.toArray⟩, .slice q2 y5.length cy, .int .i64 y6] 24)) := (Below.refl _ W5).alloc (Nat.le_refl _) _
      have HC7 := veil ((unveil HC6).below hb6)
      have HZ7 := veil (((unveil HF6).box (unveil HZ5) (by decide) (by omega)).below hb6)
      have HX7 := veil (((unveil HF6).box (unveil HX5) (by decide) (by omega)).below hb6)
      have HW7 := veil (((unveil HF6).box (unveil HW5) (by decide) (by omega)).below hb6)
      have HF7 := veil (((unveil HF5).trans (unveil HF6)).trans (FrE.below hb6 (Nat.le_of_lt (unveil HC6).lt)))
      have HK7 := veil (((unveil HK5).fr (unveil HF6) hbkR2).below hb6)
      have HL7 : Hid (Kids (W5.alloc (.cells #[.int .i64 y0, .int .i64 y1, .int .i64 y2, .int .i64 y3, .string ⟨y4.toArray⟩, .slice q2 y5.length cy, .int .i64 y6] 24)) (fun g => w.heap.size < g) (.mk y0 y1 y2 y3 y4 y5 y6) q2) := ((unveil HK2).below hb6).mono (fun g _ h => by omega)
      have HY7 : Hid (Bk (W5.alloc (.cells #[.int .i64 y0, .int .i64 y1, .int .i64 y2, .int .i64 y3, .string ⟨y4.toArray⟩, .slice q2 y5.length cy, .int .i64 y6] 24)) W5.heap.size 24 #[.int .i64 y0, .int .i64 y1, .int .i64 y2, .int .i64 y3, .string ⟨y4.toArray⟩, .slice q2 y5.length cy, .int .i64 y6]) := Bk.new _ _ _
      have hYB : WB < W5.heap.size := ((unveil HF6).box (unveil HW5) (by decide) (by omega)).lt
      clear hb6 HC5 HZ5 HX5 HW5 HF5 HK5 HK2 HC6 HF6 HE5 hbkR2
      generalize (W5.alloc (.cells #[.int .i64 y0, .int .i64 y1, .int .i64 y2, .int .i64 y3, .string ⟨y4.toArray⟩, .slice q2 y5.length cy, .int .i64 y6] 24)) = W6 at *
      generalize W5.heap.size = YB at *
      obtain ⟨⟨z0, z1, z2, z3, z4, z5, z6⟩, zl, ⟨g0, g1, g2, g3, g4, g5, g6⟩⟩ := ex_cells (unveil HZ7)
      cases o2 with
      | none =>
        have HGF := veil (exp_two (unveil HGA) (unveil HSS) (unveil HG2).1)
        clear HGA HE HG2
        simp only [Option.isSome_none]
        go_wp2_with fail
        obtain ⟨r1, r2⟩ := PrP.fin (x := zeP) (q := none) (c := 0) hR (unveil HC7) (unveil HZ7) (unveil HF7) (Kids.nil rfl _) (unveil HGF) (fun l h => by cases h) (by have := unveil HP1; have := unveil HP2; omega) false rfl _ rfl
        exact bodyPost_ret (res_ex (f := Tryz.f32) (i := 3) rfl rfl r1 rfl) rfl r2
      | some l2 =>
        obtain rfl := (unveil HG2).2 l2 rfl
        have HGB := veil (unveil HG2).1
        clear HG2
        simp only [Option.isSome_some]
        have HLV : Hid (LvC W6 R 10 tw) := by obtain ⟨_, _, h2, _⟩ := unveil HC7; exact h2
        obtain ⟨crv7, hX7, _, hp7⟩ := id (unveil HC7)
        have HSK := veil (skip_any hX7 [58] (by simp) hl hws)
        clear hX7
        have hR4 := (unveil HC7).lt
        obtain ⟨csR3, hbkR3⟩ := (unveil HC7).bk
        have HBR := veil hbkR3
        clear hbkR3
        cases hQ : sgW (nxt ws p2) == [58]
        · have HGF := veil (exp_col (unveil HGA) (unveil HSS) (unveil HGB) hQ)
          rw [hQ] at HSK
          simp only [Bool.false_eq_true, if_false] at HSK
          clear HGA HGB HE
          go_upto_region 7 with (go_at_call 67; refine (unveil HSK).mono ?_; rintro e W7 ⟨rfl, hf8, hx8⟩; have HC8 : Hid (Cx R wv ws tw W7 p2 cr2) := ⟨_, hx8, LvC.fr hf8 10 tw (unveil HLV), hp7⟩; have HZ8 := veil (hf8.box (unveil HZ7) (by decide) (by omega)); have HF8 := veil ((unveil HF7).trans hf8); clear hf8 hx8)
          clear z0 z1 z2 z3 z4 z5 z6 zl g0 g1 g2 g3 g4 g5 g6
          obtain ⟨⟨z0, z1, z2, z3, z4, z5, z6⟩, zl, ⟨g0, g1, g2, g3, g4, g5, g6⟩⟩ := ex_cells (unveil HZ8)
          go_wp2_with fail
          obtain ⟨r1, r2⟩ := PrP.fin (x := zeP) (q := none) (c := 0) hR (unveil HC8) (unveil HZ8) (unveil HF8) (Kids.nil rfl _) (unveil HGF) (fun l h => by cases h) (by have := unveil HP1; have := unveil HP2; omega) false rfl _ rfl
          exact bodyPost_ret (res_ex (f := Tryz.f32) (i := 3) rfl rfl r1 rfl) rfl r2
        · have hin2 : p2 < ws.length := sg_in (by intro e; rw [e] at hQ; cases hQ)
          have HQQ := veil hQ
          rw [hQ] at HSK
          simp only [if_true] at HSK
          clear hQ
          go_upto_region 8 with (go_at_call 67; refine (unveil HSK).mono ?_; rintro e W7 ⟨rfl, hf8, hx8⟩; have HC8 : Hid (Cx R wv ws tw W7 (p2 + 1) cr2) := ⟨_, hx8, LvC.fr hf8 10 tw (unveil HLV), hin2, Nat.le_succ_of_le hp7.2⟩; have HZ8 := veil (hf8.box (unveil HZ7) (by decide) (by omega)); have HF8 := veil ((unveil HF7).trans hf8); have HX8 := veil (hf8.box (unveil HX7) (by decide) (by omega)); have HW8 := veil (hf8.box (unveil HW7) (by decide) (by omega)); have HY8 := veil (hf8.box (unveil HY7) (by decide) (by omega)); have HK8 := veil ((unveil HK7).fr hf8 (unveil HBR)); have HL8 := veil ((unveil HL7).fr hf8 (unveil HBR)); clear hf8 hx8)
          clear z0 z1 z2 z3 z4 z5 z6 zl g0 g1 g2 g3 g4 g5 g6 HSK HC7 HZ7 HF7 HX7 HW7 HY7 HK7 HL7 HLV HBR
          have HE8 := veil ((unveil HE) (p2 + 1) (by have := unveil HP1; have := unveil HP2; omega) W7 cr2 (unveil HC8))
          have hW7s : w.heap.size < W7.heap.size := (unveil HZ8).lt
          go_upto_region 9 with (go_at_call 32; refine (unveil HE8).mono ?_; rintro e W8 ⟨z, q3, cz, o3, p3, cr3, f3, rfl, hg3, ho3, hk3, hc3, hf3, hp3⟩; have HG3 := veil (And.intro hg3 ho3); have HK3 := veil hk3; have HC9 := veil hc3; have HP3 := veil hp3; have HF9 := veil hf3; clear hg3 ho3 hk3 hc3 hf3 hp3; obtain ⟨z0, z1, z2, z3, z4, z5, z6⟩ := z; simp only [exC, PE.is, PE.op, PE.k, PE.v, PE.nm, PE.l, PE.line])
          obtain ⟨csR4, hbkR4⟩ := (unveil HC8).bk
          have hR5 := (unveil HC8).lt
          have hb9 : Below W8.heap.size W8 (W8.alloc (.cells #[.int .i64 z0, .int .i64 z1, .int .i64 z2, .int .i64 z3, .string ⟨z4.toArray⟩, .slice q3 z5.length cz, .int .i64 z6] 24)) := (Below.refl _ W8).alloc (Nat.le_refl _) _
          have HCa := veil ((unveil HC9).below hb9)
          have HZa := veil (((unveil HF9).box (unveil HZ8) (by decide) (by omega)).below hb9)
          have HXa := veil (((unveil HF9).box (unveil HX8) (by decide) (by omega)).below hb9)
          have HWa := veil (((unveil HF9).box (unveil HW8) (by decide) (by omega)).below hb9)
          have HYa := veil (((unveil HF9).box (unveil HY8) (by decide) (by omega)).below hb9)
          have HFa := veil (((unveil HF8).trans (unveil HF9)).trans (FrE.below hb9 (Nat.le_of_lt (unveil HC9).lt)))
          have HKa := veil (((unveil HK8).fr (unveil HF9) hbkR4).below hb9)
          have HLa := veil (((unveil HL8).fr (unveil HF9) hbkR4).below hb9)
          have HMa : Hid (Kids (W8.alloc (.cells #[.int .i64 z0, .int .i64 z1, .int .i64 z2, .int .i64 z3, .string ⟨z4.toArray⟩, .slice q3 z5.length cz, .int .i64 z6] 24)) (fun g => w.heap.size < g) (.mk z0 z1 z2 z3 z4 z5 z6) q3) := ((unveil HK3).below hb9).mono (fun g _ h => by omega)
          have HVa : Hid (Bk (W8.alloc (.cells #[.int .i64 z0, .int .i64 z1, .int .i64 z2, .int .i64 z3, .string ⟨z4.toArray⟩, .slice q3 z5.length cz, .int .i64 z6] 24)) W8.heap.size 24 #[.int .i64 z0, .int .i64 z1, .int .i64 z2, .int .i64 z3, .string ⟨z4.toArray⟩, .slice q3 z5.length cz, .int .i64 z6]) := Bk.new _ _ _
          clear hb9 HC8 HZ8 HF8 HX8 HW8 HY8 HK8 HL8 HK3 HC9 HF9 HE8 hbkR4
          generalize (W8.alloc (.cells #[.int .i64 z0, .int .i64 z1, .int .i64 z2, .int .i64 z3, .string ⟨z4.toArray⟩, .slice q3 z5.length cz, .int .i64 z6] 24)) = W9 at *
          generalize W8.heap.size = VB at *
          have HLI : Hid (wl = (nxt ws p1).line) := unveil HLN _ (unveil HXW)
          have HGF := veil (exp_three (z := .mk z0 z1 z2 z3 z4 z5 z6) (unveil HGA) (unveil HSS) (unveil HGB) (unveil HQQ) (unveil HG3).1 (unveil HG3).2)
          have HPF : Hid (p ≤ p3) := by have := unveil HP1; have := unveil HP2; have := unveil HP3; show p ≤ p3; omega
          rw [Hid, ← unveil HLI] at HGF
          have HGG := veil HGF
          have hob : o3.isSome = (o3.map (fun _ => [PE.mk 9 0 0 0 [] [.mk x0 x1 x2 x3 x4 x5 x6, .mk y0 y1 y2 y3 y4 y5 y6, .mk z0 z1 z2 z3 z4 z5 z6] wl])).isSome := by cases o3 <;> rfl
          have HOB := veil hob
          clear HGF HGA HGB HG3 hob HE HP1 HP2 HP3 HLN HXW HSS HQQ HLI
          obtain ⟨⟨b0, b1, b2, b3, b4, b5, b6⟩, bl, _⟩ := ex_cells (unveil HXa)
          obtain ⟨⟨d0, d1, d2, d3, d4, d5, d6⟩, dl, _⟩ := ex_cells (unveil HYa)
          obtain ⟨⟨e0, e1, e2, e3, e4, e5, e6⟩, el, _⟩ := ex_cells (unveil HVa)
          obtain ⟨⟨k0, k1, k2, k3, k4, k5, k6⟩, kl, ⟨g0, g1, g2, g3, g4, g5, g6⟩⟩ := ex_cells (unveil HZa)
          have m5 : W9.cell? ⟨WB, 5, none⟩ = some (.int .i64 wl) := (unveil HWa).cell 5
          have ml := (unveil HWa).lt
          generalize o3.isSome = OS at *
          go_wp2_with fail
          obtain ⟨r1, r2⟩ := PrP.finL (x := .mk 9 0 0 0 [] [.mk x0 x1 x2 x3 x4 x5 x6, .mk y0 y1 y2 y3 y4 y5 y6, .mk z0 z1 z2 z3 z4 z5 z6] wl) (c := 3) (n := 3) rfl hR (unveil HCa) (unveil HZa) (unveil HFa) (L := #[.int .i64 x0, .int .i64 x1, .int .i64 x2, .int .i64 x3, .string ⟨x4.toArray⟩, .slice q x5.length cx, .int .i64 x6, .int .i64 y0, .int .i64 y1, .int .i64 y2, .int .i64 y3, .string ⟨y4.toArray⟩, .slice q2 y5.length cy, .int .i64 y6, .int .i64 z0, .int .i64 z1, .int .i64 z2, .int .i64 z3, .string ⟨z4.toArray⟩, .slice q3 z5.length cz, .int .i64 z6]) (fun V hb hy => Kids.of (KidL.three (x := .mk x0 x1 x2 x3 x4 x5 x6) (y := .mk y0 y1 y2 y3 y4 y5 y6) (z := .mk z0 z1 z2 z3 z4 z5 z6) (c := cx) (d := cy) (e := cz) hb (by have := (unveil HZa).lt; omega) (hy _ _ (unveil HKa)) (hy _ _ (unveil HLa)) (hy _ _ (unveil HMa)))) (unveil HGG) (fun l h => by cases o3 with | none => cases h | some a => cases h; rfl) (unveil HPF) OS (unveil HOB) _ rfl
          exact bodyPost_ret (res_ex (f := Tryz.f32) (i := 3) rfl rfl r1 rfl) rfl r2
end Go.Proofs.YtmpkgjonbjpohaaGreatDoor
