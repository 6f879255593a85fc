/-
  Package expr: one.
-/
import Derived.Test.YtmpkgjonbjpohaaGreatDoorRy
namespace Go.Proofs.YtmpkgjonbjpohaaGreatDoor
open Go Go.RowKit
set_option linter.unusedVariables false
set_option linter.unusedSimpArgs false

theorem fstO_no {P : Int → Bool} (h : ∀ op, P op = false) : ∀ (n : Nat) (op : Int), fstO P n op = 0
  | 0, _ => rfl
  | n + 1, op => by unfold fstO; rw [h]; exact fstO_no h n _
theorem opO_in {ws : List Wd} {p : Nat} (h : (opO (sgW (nxt ws p)) != 0) = true) : p < ws.length := sg_in (by
  intro e
  rw [e] at h
  have : opO [] = 0 := fstO_no (fun op => by unfold ofO; cases (sigM op == []) <;> simp) 17 1
  rw [this] at h
  exact absurd h (by decide))
theorem PrP.next {R : Nat} {wv : Value} {ws : List Wd} {tw : Value} {k : Kd} {p : Nat} {cr : List Int} {W A B : World} {e : Ending} (h : PrP R wv ws tw k p cr W e A) (hb : Below A.heap.size A B) : PrP R wv ws tw k p cr W e B := by
  obtain ⟨x, q, c, o, p', cr', f, h0, h1, h2, h3, h4, h5, h6⟩ := h
  exact ⟨x, q, c, o, p', cr', f, h0, h1, h2, h3.below hb, h4.below hb, h5.trans (FrE.below hb (Nat.le_of_lt h4.lt)), h6⟩
theorem one_plus {N : Nat → Wd} {f p : Nat} {cr : List Int} {r : Option (List PE) × Nat × List Int} (h : (sgW (N p) == [43]) = true) (h2 : gM N f .one (p + 1) cr = some r) : gM N (f + 1) .one p cr = some r := by rw [gM, h]; exact h2
theorem one_op {N : Nat → Wd} {f p p2 : Nat} {cr cr2 : List Int} {o : Option (List PE)} {x : PE} (h : (sgW (N p) == [43]) = false) (ho : (opO (sgW (N p)) != 0) = true) (h2 : gM N f .one (p + 1) cr = some (o, p2, cr2)) (hx : ∀ l, o = some l → l = [x]) :
    gM N (f + 1) .one p cr = some (o.map (fun _ => [.mk 3 (opO (sgW (N p))) 0 0 [] [x] (N p).line]), p2, cr2) := by
  rw [gM, h, ho, h2]
  cases o with
  | none => rfl
  | some l =>
    rw [hx l rfl]
    rfl
theorem one_alone {N : Nat → Wd} {f p : Nat} {cr : List Int} {r : Option (List PE) × Nat × List Int} (h : (sgW (N p) == [43]) = false) (ho : (opO (sgW (N p)) != 0) = false) (hb : (sgW (N p) == [40]) = false) (h2 : gM N f .alone p cr = some r) : gM N (f + 1) .one p cr = some r := by rw [gM, h, ho, hb]; exact h2
theorem one_cast {N : Nat → Wd} {f p : Nat} {cr : List Int} {r : Option (List PE) × Nat × List Int} (h : (sgW (N p) == [43]) = false) (ho : (opO (sgW (N p)) != 0) = false) (hb : (sgW (N p) == [40]) = true) (hk : akW (N (p + 1)) = true) (h2 : gM N f (.kw (N p).line []) (p + 1) cr = some r) : gM N (f + 1) .one p cr = some r := by rw [gM, h, ho, hb, hk]; exact h2
theorem one_no {N : Nat → Wd} {f p p2 : Nat} {cr cr2 : List Int} (h : (sgW (N p) == [43]) = false) (ho : (opO (sgW (N p)) != 0) = false) (hb : (sgW (N p) == [40]) = true) (hk : akW (N (p + 1)) = false) (h2 : gM N f .exp (p + 1) cr = some (none, p2, cr2)) : gM N (f + 1) .one p cr = some (none, p2, cr2) := by rw [gM, h, ho, hb, hk, h2]; rfl
theorem one_open {N : Nat → Wd} {f p p2 : Nat} {cr cr2 : List Int} {x : PE} (h : (sgW (N p) == [43]) = false) (ho : (opO (sgW (N p)) != 0) = false) (hb : (sgW (N p) == [40]) = true) (hk : akW (N (p + 1)) = false) (h2 : gM N f .exp (p + 1) cr = some (some [x], p2, cr2)) (hq : (sgW (N p2) == [41]) = false) : gM N (f + 1) .one p cr = some (none, p2, cr2) := by
  rw [gM, h, ho, hb, hk, h2]
  simp only [bnd]
  rw [hq]
  rfl
theorem one_shut {N : Nat → Wd} {f p p2 : Nat} {cr cr2 : List Int} {x : PE} (h : (sgW (N p) == [43]) = false) (ho : (opO (sgW (N p)) != 0) = false) (hb : (sgW (N p) == [40]) = true) (hk : akW (N (p + 1)) = false) (h2 : gM N f .exp (p + 1) cr = some (some [x], p2, cr2)) (hq : (sgW (N p2) == [41]) = true) : gM N (f + 1) .one p cr = some (some [x], p2 + 1, cr2) := by
  rw [gM, h, ho, hb, hk, h2]
  simp only [bnd]
  rw [hq]
  rfl
set_option maxRecDepth 100000 in
set_option maxHeartbeats 16000000 in
theorem one_any (R : Nat) (wv : Value) (ws : List Wd) (tw : Value) (hl : ws.length ≤ 1000000) (hws : ∀ y ∈ ws, y.s.length ≤ 140737488355328) (p : Nat) (ho : ∀ p', p < p' → OkO R wv ws tw p') (he : ∀ p', p < p' → OkE R wv ws tw p') (hk : ∀ p', p < p' → OkK R wv ws tw p') (hn : OkN R wv ws tw p) : OkO R wv ws tw p := fun w cr hC => by
  have HO := veil (ho (p + 1) (Nat.lt_succ_self p))
  have HE := veil (he (p + 1) (Nat.lt_succ_self p))
  have HK := veil (hk (p + 1) (Nat.lt_succ_self p))
  have HN := veil hn
  have hR := hC.lt
  have hb0 : Below w.heap.size w (w.alloc (.cells #[.int .i64 0, .int .i64 0, .int .i64 0, .int .i64 0, .string ⟨#[]⟩, .slice none 0 0, .int .i64 0] 24)) := (Below.refl _ w).alloc (Nat.le_refl _) _
  have HC0 := veil (hC.below hb0)
  have HZ0 : Hid (Bk (w.alloc (.cells #[.int .i64 0, .int .i64 0, .int .i64 0, .int .i64 0, .string ⟨#[]⟩, .slice none 0 0, .int .i64 0] 24)) w.heap.size 24 #[.int .i64 0, .int .i64 0, .int .i64 0, .int .i64 0, .string ⟨#[]⟩, .slice none 0 0, .int .i64 0]) := Bk.new _ _ _
  have HF0 : Hid (FrE R w (w.alloc (.cells #[.int .i64 0, .int .i64 0, .int .i64 0, .int .i64 0, .string ⟨#[]⟩, .slice none 0 0, .int .i64 0] 24))) := FrE.below hb0 (Nat.le_of_lt hR)
  clear hb0 ho he hk hn hC
  go_enter Tryz.func64, Tryz.ntmps64
  go_upto_region 1 with fail
  generalize (w.alloc (.cells #[.int .i64 0, .int .i64 0, .int .i64 0, .int .i64 0, .string ⟨#[]⟩, .slice none 0 0, .int .i64 0] 24)) = W0 at *
  obtain ⟨crv0, hX0, hL0, hp0⟩ := unveil HC0
  have HL0 := veil hL0
  have HP0 := veil hp0
  have hR0 := hX0.b.lt
  have hsz0 : w.heap.size < W0.heap.size := (unveil HZ0).lt
  have HSK := veil (skip_any hX0 [43] (by simp) hl hws)
  clear hL0 hp0 hX0
  cases h1 : sgW (nxt ws p) == [43]
  · rw [h1] at HSK
    simp only [Bool.false_eq_true, if_false] at HSK
    go_upto_region 3 with (go_at_call 67; refine (unveil HSK).mono ?_; rintro e W1 ⟨rfl, hf, hx⟩; have HF1 := veil hf; have HX1 := veil hx; have HC1 : Hid (Cx R wv ws tw W1 p cr) := ⟨_, hx, LvC.fr hf 10 tw (unveil HL0), unveil HP0⟩; clear hf hx)
    have HZ1 := veil ((unveil HF1).box (unveil HZ0) (by decide) (by omega))
    have HFa := veil ((unveil HF0).trans (unveil HF1))
    clear HSK HC0 HZ0 HF0 HL0 HF1
    have hR1 := (unveil HC1).lt
    have hsz1 : w.heap.size < W1.heap.size := (unveil HZ1).lt
    have HSG := veil (sign_any (unveil HX1))
    have HOP := veil (opO_any (sgW (nxt ws p)) W1 (unveil HX1).op (by omega))
    have HOI := veil (@opO_in ws p)
    have HG1 := veil (fun (f p2 : Nat) (cr2 : List Int) (o : Option (List PE)) (x : PE) => @one_op (nxt ws) f p p2 cr cr2 o x h1)
    have HG2 := veil (fun (f : Nat) (r : Option (List PE) × Nat × List Int) => @one_alone (nxt ws) f p cr r h1)
    have HG3 := veil (fun (f : Nat) (r : Option (List PE) × Nat × List Int) => @one_cast (nxt ws) f p cr r h1)
    have HG4 := veil (fun (f p2 : Nat) (cr2 : List Int) => @one_no (nxt ws) f p p2 cr cr2 h1)
    have HG5 := veil (fun (f p2 : Nat) (cr2 : List Int) (x : PE) => @one_open (nxt ws) f p p2 cr cr2 x h1)
    have HG6 := veil (fun (f p2 : Nat) (cr2 : List Int) (x : PE) => @one_shut (nxt ws) f p p2 cr cr2 x h1)
    have HSI : Hid (sgW (nxt ws p) ≠ [] → p < ws.length) := @sg_in ws p
    generalize hS : sgW (nxt ws p) = S at *
    have HSE := veil hS
    clear hS h1
    go_upto_region 4 with (first
      | (go_at_call 65; refine (unveil HSG).mono ?_; rintro e W9 ⟨rfl, hw'⟩; obtain rfl := hw'.symm)
      | (go_at_call 97; refine (unveil HOP).mono ?_; rintro e W2 ⟨rfl, hb⟩; have HB2 := veil hb; clear hb))
    have HX2 := veil ((unveil HX1).below (unveil HB2))
    have HC2 := veil ((unveil HC1).below (unveil HB2))
    have HZ2 := veil ((unveil HZ1).below (unveil HB2))
    have HF2 := veil ((unveil HFa).trans (FrE.below (unveil HB2) (Nat.le_of_lt hR1)))
    have HSG2 := veil (sign_any (unveil HX2))
    rw [unveil HSE] at HSG2
    have HLV2 : Hid (LvC W2 R 10 tw) := by obtain ⟨_, _, h2, _⟩ := unveil HC2; exact h2
    have HTK := veil (fun (hin : p < ws.length) => etake_any (unveil HX2) hin hl hws)
    have hR2 := (unveil HC2).lt
    have hsz2 : w.heap.size < W2.heap.size := (unveil HZ2).lt
    clear HX1 HC1 HZ1 HFa HB2 HSG HOP
    generalize hOO : opO S = OP at *
    clear hOO
    cases hO : OP != 0
    · cases hB : S == [40]
      · have hB' : (S != [40]) = true := by simp only [bne, hB]; rfl
        have HGA := veil (fun f r => unveil HG2 f r hO hB)
        have HNN := veil ((unveil HN) W2 cr (unveil HC2))
        clear HG1 HG2 HG3 HG4 HG5 HG6 HTK
        go_wp2_with (first
          | (go_at_call 65; refine (unveil HSG2).mono ?_; rintro e W9 ⟨rfl, hw'⟩; obtain rfl := hw'.symm)
          | (go_at_call 98; refine (unveil HNN).mono ?_; rintro e W3 ⟨x, q, cx, o, p2, cr2, f, rfl, hg, ho, hk, hc, hf, hp⟩; have HG := veil (And.intro hg ho); have HC9 := veil hc; have HP9 := veil hp; have HZ9 := veil (hf.box (unveil HZ2) (by decide) (by omega)); have HF9 := veil ((unveil HF2).trans hf); have HK9 := veil (hk.mono (K' := fun g => w.heap.size < g) (fun g _ h => by omega)); clear hg ho hk hc hf hp; obtain ⟨x0, x1, x2, x3, x4, x5, x6⟩ := x; simp only [exC, PE.is, PE.op, PE.k, PE.v, PE.nm, PE.l, PE.line]; obtain ⟨⟨z0, z1, z2, z3, z4, z5, z6⟩, zl, ⟨g0, g1, g2, g3, g4, g5, g6⟩⟩ := ex_cells (unveil HZ9)))
        have HGF := veil (unveil HGA _ _ (unveil HG).1)
        have HON := veil (unveil HG).2
        obtain ⟨r1, r2⟩ := PrP.fin (x := .mk x0 x1 x2 x3 x4 x5 x6) (q := q) (c := cx) hR (unveil HC9) (unveil HZ9) (unveil HF9) (unveil HK9) (unveil HGF) (unveil HON) (unveil HP9) _ rfl _ rfl
        exact bodyPost_ret (res_ex (f := Tryz.f64) (i := 3) rfl rfl r1 rfl) rfl r2

      · have hB' : (S != [40]) = false := by simp only [bne, hB]; rfl
        have HIN : Hid (p < ws.length) := unveil HSI (by intro e; rw [e] at hB; cases hB)
        have HGC := veil (fun f r => unveil HG3 f r hO hB)
        have HGN := veil (fun f p2 cr2 => unveil HG4 f p2 cr2 hO hB)
        have HGO := veil (fun f p2 cr2 x => unveil HG5 f p2 cr2 x hO hB)
        have HGS := veil (fun f p2 cr2 x => unveil HG6 f p2 cr2 x hO hB)
        have HTA := veil (unveil HTK (unveil HIN))
        clear HG1 HG2 HG3 HG4 HG5 HG6 HTK HOI HSI HN
        generalize hxw : nxt ws p = xw at *
        clear hxw
        obtain ⟨wk, wsx, wvx, wt, wf, wl⟩ := xw
        simp only at HGC
        unfold wdV wdC at HTA
        go_upto_region 11 with (first
          | (go_at_call 65; refine (unveil HSG2).mono ?_; rintro e W9 ⟨rfl, hw'⟩; obtain rfl := hw'.symm)
          | (go_at_call 66; refine (unveil HTA).mono ?_; rintro e W3 ⟨rfl, hf, hx⟩; have HF3 := veil hf; have HX3 := veil hx; have HC3 : Hid (Cx R wv ws tw W3 (p + 1) cr) := ⟨_, hx, LvC.fr hf 10 tw (unveil HLV2), unveil HIN, Nat.le_succ_of_le (unveil HP0).2⟩; clear hf hx))
        clear HSG2
        have hb4 : Below W3.heap.size W3 (W3.alloc (.cells #[.int .i64 wk, .string ⟨wsx.toArray⟩, .int .i64 wvx, .int .i64 wt, .string ⟨wf.toArray⟩, .int .i64 wl] 42)) := (Below.refl _ W3).alloc (Nat.le_refl _) _
        have HC4 := veil ((unveil HC3).below hb4)
        have HX4 := veil ((unveil HX3).below hb4)
        have HZ4 := veil (((unveil HF3).box (unveil HZ2) (by decide) (by omega)).below hb4)
        have HF4 := veil (((unveil HF2).trans (unveil HF3)).trans (FrE.below hb4 (Nat.le_of_lt (unveil HC3).lt)))
        have HW4 : Hid (Bk (W3.alloc (.cells #[.int .i64 wk, .string ⟨wsx.toArray⟩, .int .i64 wvx, .int .i64 wt, .string ⟨wf.toArray⟩, .int .i64 wl] 42)) W3.heap.size 42 #[.int .i64 wk, .string ⟨wsx.toArray⟩, .int .i64 wvx, .int .i64 wt, .string ⟨wf.toArray⟩, .int .i64 wl]) := Bk.new _ _ _
        have HLV4 : Hid (LvC (W3.alloc (.cells #[.int .i64 wk, .string ⟨wsx.toArray⟩, .int .i64 wvx, .int .i64 wt, .string ⟨wf.toArray⟩, .int .i64 wl] 42)) R 10 tw) := by obtain ⟨_, _, h2, _⟩ := unveil HC4; exact h2
        have hWB : w.heap.size < W3.heap.size := ((unveil HF3).box (unveil HZ2) (by decide) (by omega)).lt
        clear hb4 HC3 HX3 HZ2 HF2 HF3 HTA HX2 HC2
        generalize (W3.alloc (.cells #[.int .i64 wk, .string ⟨wsx.toArray⟩, .int .i64 wvx, .int .i64 wt, .string ⟨wf.toArray⟩, .int .i64 wl] 42)) = W4 at *
        generalize W3.heap.size = WB at *
        have hW4s : w.heap.size < W4.heap.size := (unveil HZ4).lt
        have hR4 := (unveil HC4).lt
        have HAK := veil (atKind_any (unveil HX4))
        cases hK : akW (nxt ws (p + 1))
        · rw [hK] at HAK
          have HGN2 := veil (fun f p2 cr2 => unveil HGN f p2 cr2 hK)
          have HGO2 := veil (fun f p2 cr2 x => unveil HGO f p2 cr2 x hK)
          have HGS2 := veil (fun f p2 cr2 x => unveil HGS f p2 cr2 x hK)
          clear HGC HGN HGO HGS HK HO hK
          go_upto_region 13 with (go_at_call 99; refine (unveil HAK).mono ?_; rintro e Wb ⟨rfl, hb⟩; have HBb := veil hb; clear hb)
          have HCb := veil ((unveil HC4).below (unveil HBb))
          have HZb := veil ((unveil HZ4).below (unveil HBb))
          have HWb := veil ((unveil HW4).below (unveil HBb))
          have HFb := veil ((unveil HF4).trans (FrE.below (unveil HBb) (Nat.le_of_lt hR4)))
          clear HAK HX4 HC4 HZ4 HW4 HF4 HBb HLV4
          have hRb := (unveil HCb).lt
          have hWbs : w.heap.size < Wb.heap.size := (unveil HZb).lt
          have HEE := veil ((unveil HE) Wb cr (unveil HCb))
          go_upto_region 14 with (go_at_call 32; refine (unveil HEE).mono ?_; rintro e W5 ⟨x, q, cx, o, p2, cr2, f, rfl, hg, ho, hk, hc, hf, hp⟩; have HG := veil (And.intro hg ho); have HK5 := veil hk; have HC5 := veil hc; have HP5 := veil hp; have HF5 := veil hf; clear hg ho hk hc hf hp; obtain ⟨x0, x1, x2, x3, x4, x5, x6⟩ := x; simp only [exC, PE.is, PE.op, PE.k, PE.v, PE.nm, PE.l, PE.line])
          have hb6 : Below W5.heap.size W5 (W5.alloc (.cells #[.int .i64 x0, .int .i64 x1, .int .i64 x2, .int .i64 x3, .string ⟨x4.toArray⟩, .slice q x5.length cx, .int .i64 x6] 24)) := (Below.refl _ W5).alloc (Nat.le_refl _) _
          have HC6 := veil ((unveil HC5).below hb6)
          have HZ6 := veil (((unveil HF5).box (unveil HZb) (by decide) (by omega)).below hb6)
          have HW6 := veil (((unveil HF5).box (unveil HWb) (by decide) (by omega)).below hb6)
          have HF6 := veil (((unveil HFb).trans (unveil HF5)).trans (FrE.below hb6 (Nat.le_of_lt (unveil HC5).lt)))
          have HK6 : Hid (Kids (W5.alloc (.cells #[.int .i64 x0, .int .i64 x1, .int .i64 x2, .int .i64 x3, .string ⟨x4.toArray⟩, .slice q x5.length cx, .int .i64 x6] 24)) (fun g => w.heap.size < g) (.mk x0 x1 x2 x3 x4 x5 x6) q) := ((unveil HK5).below hb6).mono (fun g _ h => by omega)
          have HX6 : Hid (Bk (W5.alloc (.cells #[.int .i64 x0, .int .i64 x1, .int .i64 x2, .int .i64 x3, .string ⟨x4.toArray⟩, .slice q x5.length cx, .int .i64 x6] 24)) W5.heap.size 24 #[.int .i64 x0, .int .i64 x1, .int .i64 x2, .int .i64 x3, .string ⟨x4.toArray⟩, .slice q x5.length cx, .int .i64 x6]) := Bk.new _ _ _
          have hXB : w.heap.size < W5.heap.size := ((unveil HF5).box (unveil HZb) (by decide) (by omega)).lt
          clear hb6 HK5 HC5 HZb HFb HF5
          generalize (W5.alloc (.cells #[.int .i64 x0, .int .i64 x1, .int .i64 x2, .int .i64 x3, .string ⟨x4.toArray⟩, .slice q x5.length cx, .int .i64 x6] 24)) = W6 at *
          generalize W5.heap.size = XB at *
          have hR6 := (unveil HC6).lt
          have hW6s : w.heap.size < W6.heap.size := (unveil HZ6).lt
          have HBd : Hid (Below W6.heap.size W6 W6.drew) := (Below.refl _ W6).drew
          have HCd := veil ((unveil HC6).below (unveil HBd))
          have HZd := veil ((unveil HZ6).below (unveil HBd))
          have HXd := veil ((unveil HX6).below (unveil HBd))
          have HKd := veil ((unveil HK6).below (unveil HBd))
          have HFd := veil ((unveil HF6).trans (FrE.below (unveil HBd) (Nat.le_of_lt hR6)))
          obtain ⟨⟨b0, b1, b2, b3, b4, b5, b6⟩, bl, _⟩ := ex_cells (unveil HX6)
          cases o with
          | none =>
            have HGF := veil (unveil HGN2 _ _ _ (unveil HG).1)
            have HPF : Hid (p ≤ p2) := by have := unveil HP5; show p ≤ p2; omega
            clear HGN2 HGO2 HGS2 HE HEE HG
            simp only [Option.isSome_none]
            obtain ⟨⟨z0, z1, z2, z3, z4, z5, z6⟩, zl, ⟨g0, g1, g2, g3, g4, g5, g6⟩⟩ := ex_cells (unveil HZ6)
            refine wp_region_any (by kernel_rfl) ?_
            change wpAny _ _ _ _ _ _ _ (World.drew _)
            refine wpAny_take (i := 1) (v := .bool false) rfl (by kernel_rfl) (by kernel_rfl) (by kernel_rfl) (fun _ _ _ h => h) (Or.inl ⟨rfl, fun _ => rfl⟩) ?_
            refine wpAny_take (i := 2) (v := .bool false) rfl (by kernel_rfl) (by kernel_rfl) (by kernel_rfl) (fun _ _ _ h => h) (Or.inl ⟨rfl, fun _ => rfl⟩) ?_
            refine wpAny_take (i := 3) (v := undef) rfl (by kernel_rfl) (by kernel_rfl) (by kernel_rfl) (fun _ _ _ h => h) (Or.inr ⟨rfl, rfl⟩) ?_
            refine wpAny_take (i := 4) (v := undef) rfl (by kernel_rfl) (by kernel_rfl) (by kernel_rfl) (fun _ _ _ h => h) (Or.inr ⟨rfl, rfl⟩) ?_
            refine wpAny_take (i := 5) (v := .bool false) rfl (by kernel_rfl) (by kernel_rfl) (by kernel_rfl) (fun _ _ _ h => h) (Or.inl ⟨rfl, fun _ => rfl⟩) ?_
            refine wpAny_ready (rs := [0]) (by kernel_rfl) (by simp) (AllReady.cons rfl (fun K hK => ?_) AllReady.nil)
            go_simp
            refine hK _ _ ?_
            clear hK K
            refine wpAny_ready (rs := [6]) (by kernel_rfl) (by simp) (AllReady.cons rfl (fun K hK => ?_) AllReady.nil)
            go_simp
            refine hK _ _ ?_
            clear hK K
            refine wpAny_take (i := 7) (v := .bool false) rfl (by kernel_rfl) (by kernel_rfl) (by kernel_rfl) (fun _ _ _ h => h) (Or.inl ⟨rfl, fun _ => rfl⟩) ?_
            refine wpAny_done (by kernel_rfl) ?_ _
            go_simp
            go_wp2_with fail
            obtain ⟨r1, r2⟩ := PrP.fin (x := .mk x0 x1 x2 x3 x4 x5 x6) (q := q) (c := cx) hR (unveil HC6) (unveil HZ6) (unveil HF6) (unveil HK6) (unveil HGF) (fun l h => by cases h) (unveil HPF) false rfl _ rfl
            have hbD : ∀ X : World, Below X.heap.size X X.drew := fun X => (Below.refl _ X).drew
            exact bodyPost_ret (res_ex (f := Tryz.f64) (i := 3) rfl rfl (Bk.below r1 (hbD _)) rfl) rfl (r2.next (hbD _))
          | some l1 =>
            obtain rfl := (unveil HG).2 l1 rfl
            have HGA := veil (unveil HG).1
            simp only [Option.isSome_some]
            obtain ⟨crv6, hX6', hL6, hp6⟩ := unveil HCd
            have HL6 := veil hL6
            have HP6 := veil hp6
            have HSK := veil (skip_any hX6' [41] (by simp) hl hws)
            obtain ⟨csR, hbkR⟩ := (unveil HCd).bk
            have HBR := veil hbkR
            have hRd := (unveil HCd).lt
            clear hX6' hL6 hp6 hbkR HEE HE HG
            cases hQ : sgW (nxt ws p2) == [41]
            · have HGF := veil (unveil HGO2 _ _ _ _ (unveil HGA) hQ)
              have HPF : Hid (p ≤ p2) := by have := unveil HP5; show p ≤ p2; omega
              rw [hQ] at HSK
              simp only [Bool.false_eq_true, if_false] at HSK
              clear HGN2 HGO2 HGS2 hQ
              first | go_region_with (go_at_call 67; refine (unveil HSK).mono ?_; rintro e W7 ⟨rfl, hf, hx⟩; have HF7 := veil hf; have HC7 : Hid (Cx R wv ws tw W7 p2 cr2) := ⟨_, hx, LvC.fr hf 10 tw (unveil HL6), (unveil HP6)⟩; have HZ7 := veil (hf.box (unveil HZd) (by decide) (by omega)); have HX7 := veil (hf.box (unveil HXd) (by decide) (by omega)); have HK7 := veil ((unveil HKd).fr hf (unveil HBR)); have HFe := veil ((unveil HFd).trans hf); obtain ⟨⟨z0, z1, z2, z3, z4, z5, z6⟩, zl, ⟨g0, g1, g2, g3, g4, g5, g6⟩⟩ := ex_cells (unveil HZ7); obtain ⟨⟨d0, d1, d2, d3, d4, d5, d6⟩, dl, _⟩ := ex_cells (unveil HX7); clear hf hx)
              all_goals (
                go_wp2_with fail
                obtain ⟨r1, r2⟩ := PrP.fin (x := .mk x0 x1 x2 x3 x4 x5 x6) (q := q) (c := cx) hR (unveil HC7) (unveil HZ7) (unveil HFe) (unveil HK7) (unveil HGF) (fun l h => by cases h) (unveil HPF) false rfl _ rfl
                exact bodyPost_ret (res_ex (f := Tryz.f64) (i := 3) rfl rfl r1 rfl) rfl r2)
            · have HGF := veil (unveil HGS2 _ _ _ _ (unveil HGA) hQ)
              have HPF : Hid (p ≤ p2 + 1) := by have := unveil HP5; show p ≤ p2 + 1; omega
              have HIN2 : Hid (p2 < ws.length) := sg_in (by intro e; rw [e] at hQ; cases hQ)
              rw [hQ] at HSK
              simp only [if_true] at HSK
              clear HGN2 HGO2 HGS2 hQ
              first | go_region_with (go_at_call 67; refine (unveil HSK).mono ?_; rintro e W7 ⟨rfl, hf, hx⟩; have HF7 := veil hf; have HC7 : Hid (Cx R wv ws tw W7 (p2 + 1) cr2) := ⟨_, hx, LvC.fr hf 10 tw (unveil HL6), unveil HIN2, Nat.le_succ_of_le (unveil HP6).2⟩; have HZ7 := veil (hf.box (unveil HZd) (by decide) (by omega)); have HX7 := veil (hf.box (unveil HXd) (by decide) (by omega)); have HK7 := veil ((unveil HKd).fr hf (unveil HBR)); have HFe := veil ((unveil HFd).trans hf); obtain ⟨⟨z0, z1, z2, z3, z4, z5, z6⟩, zl, ⟨g0, g1, g2, g3, g4, g5, g6⟩⟩ := ex_cells (unveil HZ7); obtain ⟨⟨d0, d1, d2, d3, d4, d5, d6⟩, dl, _⟩ := ex_cells (unveil HX7); clear hf hx)
              all_goals (
                go_wp2_with fail
                obtain ⟨r1, r2⟩ := PrP.fin (x := .mk x0 x1 x2 x3 x4 x5 x6) (q := q) (c := cx) hR (unveil HC7) (unveil HZ7) (unveil HFe) (unveil HK7) (unveil HGF) (fun l h => by cases h; rfl) (unveil HPF) true rfl _ rfl
                exact bodyPost_ret (res_ex (f := Tryz.f64) (i := 3) rfl rfl r1 rfl) rfl r2)
        · rw [hK] at HAK
          have HGA := veil (fun f r => unveil HGC f r hK)
          clear HGC HGN HGO HGS HE HO hK
          go_upto_region 12 with (go_at_call 99; refine (unveil HAK).mono ?_; rintro e Wb ⟨rfl, hb⟩; have HBb := veil hb; clear hb)
          have HCb := veil ((unveil HC4).below (unveil HBb))
          have HZb := veil ((unveil HZ4).below (unveil HBb))
          have HWb := veil ((unveil HW4).below (unveil HBb))
          have HFb := veil ((unveil HF4).trans (FrE.below (unveil HBb) (Nat.le_of_lt hR4)))
          clear HAK HX4 HC4 HZ4 HW4 HF4 HBb HLV4
          have hRb := (unveil HCb).lt
          have hWbs : w.heap.size < Wb.heap.size := (unveil HZb).lt
          have HKK := veil ((unveil HK) Wb cr wl (unveil HCb))
          have w0 := (unveil HWb).cell 0
          have w1 := (unveil HWb).cell 1
          have w2 := (unveil HWb).cell 2
          have w3 := (unveil HWb).cell 3
          have w4 := (unveil HWb).cell 4
          have w5 := (unveil HWb).cell 5
          have wlt := (unveil HWb).lt
          simp only [List.getElem?_toArray, List.getElem?_cons_zero, List.getElem?_cons_succ] at w0 w1 w2 w3 w4 w5
          go_wp2_with (go_at_call 100; refine (unveil HKK).mono ?_; rintro e W5 ⟨x, q, cx, o, p2, cr2, f, rfl, hg, ho, hk, hc, hf, hp⟩; have HG := veil (And.intro hg ho); have HC9 := veil hc; have HP9 := veil hp; have HZ9 := veil (hf.box (unveil HZb) (by decide) (by omega)); have HF9 := veil ((unveil HFb).trans hf); have HK9 := veil (hk.mono (K' := fun g => w.heap.size < g) (fun g _ h => by omega)); clear hg ho hk hc hf hp; obtain ⟨x0, x1, x2, x3, x4, x5, x6⟩ := x; simp only [exC, PE.is, PE.op, PE.k, PE.v, PE.nm, PE.l, PE.line]; obtain ⟨⟨z0, z1, z2, z3, z4, z5, z6⟩, zl, ⟨g0, g1, g2, g3, g4, g5, g6⟩⟩ := ex_cells (unveil HZ9))
          have HGF := veil (unveil HGA _ _ (unveil HG).1)
          have HON := veil (unveil HG).2
          obtain ⟨r1, r2⟩ := PrP.fin (x := .mk x0 x1 x2 x3 x4 x5 x6) (q := q) (c := cx) hR (unveil HC9) (unveil HZ9) (unveil HF9) (unveil HK9) (unveil HGF) (unveil HON) (by have := unveil HP9; omega) _ rfl _ rfl
          exact bodyPost_ret (res_ex (f := Tryz.f64) (i := 3) rfl rfl r1 rfl) rfl r2

    · have HIN : Hid (p < ws.length) := unveil HOI hO
      have HGA := veil (fun f p2 cr2 o x => unveil HG1 f p2 cr2 o x hO)
      have HTA := veil (unveil HTK (unveil HIN))
      clear HG1 HG2 HG3 HG4 HG5 HG6 HTK HOI HSI HN HE HK
      generalize hxw : nxt ws p = xw at *
      clear hxw
      obtain ⟨wk, wsx, wvx, wt, wf, wl⟩ := xw
      simp only at HGA
      unfold wdV wdC at HTA
      go_upto_region 6 with (go_at_call 66; refine (unveil HTA).mono ?_; rintro e W3 ⟨rfl, hf, hx⟩; have HF3 := veil hf; have HX3 := veil hx; have HC3 : Hid (Cx R wv ws tw W3 (p + 1) cr) := ⟨_, hx, LvC.fr hf 10 tw (unveil HLV2), unveil HIN, Nat.le_succ_of_le (unveil HP0).2⟩; clear hf hx)
      have hb4 : Below W3.heap.size W3 (W3.alloc (.cells #[.int .i64 wk, .string ⟨wsx.toArray⟩, .int .i64 wvx, .int .i64 wt, .string ⟨wf.toArray⟩, .int .i64 wl] 42)) := (Below.refl _ W3).alloc (Nat.le_refl _) _
      have HC4 := veil ((unveil HC3).below hb4)
      have HX4 := veil ((unveil HX3).below hb4)
      have HZ4 := veil (((unveil HF3).box (unveil HZ2) (by decide) (by omega)).below hb4)
      have HF4 := veil (((unveil HF2).trans (unveil HF3)).trans (FrE.below hb4 (Nat.le_of_lt (unveil HC3).lt)))
      have HW4 : Hid (Bk (W3.alloc (.cells #[.int .i64 wk, .string ⟨wsx.toArray⟩, .int .i64 wvx, .int .i64 wt, .string ⟨wf.toArray⟩, .int .i64 wl] 42)) W3.heap.size 42 #[.int .i64 wk, .string ⟨wsx.toArray⟩, .int .i64 wvx, .int .i64 wt, .string ⟨wf.toArray⟩, .int .i64 wl]) := Bk.new _ _ _
      have HLV4 : Hid (LvC (W3.alloc (.cells #[.int .i64 wk, .string ⟨wsx.toArray⟩, .int .i64 wvx, .int .i64 wt, .string ⟨wf.toArray⟩, .int .i64 wl] 42)) R 10 tw) := by obtain ⟨_, _, h2, _⟩ := unveil HC4; exact h2
      have hWB : w.heap.size < W3.heap.size := ((unveil HF3).box (unveil HZ2) (by decide) (by omega)).lt
      clear hb4 HC3 HX3 HZ2 HF2 HF3 HTA HX2 HC2
      generalize (W3.alloc (.cells #[.int .i64 wk, .string ⟨wsx.toArray⟩, .int .i64 wvx, .int .i64 wt, .string ⟨wf.toArray⟩, .int .i64 wl] 42)) = W4 at *
      generalize W3.heap.size = WB at *
      have hW4s : w.heap.size < W4.heap.size := (unveil HZ4).lt
      have hR4 := (unveil HC4).lt
      have HOO := veil ((unveil HO) W4 cr (unveil HC4))
      go_upto_region 7 with (go_at_call 64; refine (unveil HOO).mono ?_; rintro e W5 ⟨x, q, cx, o, p2, cr2, f, rfl, hg, ho, hk, hc, hf, hp⟩; have HG := veil (And.intro hg ho); have HK5 := veil hk; have HC5 := veil hc; have HP5 := veil hp; have HF5 := veil hf; clear hg ho hk hc hf hp; obtain ⟨x0, x1, x2, x3, x4, x5, x6⟩ := x; simp only [exC, PE.is, PE.op, PE.k, PE.v, PE.nm, PE.l, PE.line])
      have hb6 : Below W5.heap.size W5 (W5.alloc (.cells #[.int .i64 x0, .int .i64 x1, .int .i64 x2, .int .i64 x3, .string ⟨x4.toArray⟩, .slice q x5.length cx, .int .i64 x6] 24)) := (Below.refl _ W5).alloc (Nat.le_refl _) _
      have HC6 := veil ((unveil HC5).below hb6)
      have HZ6 := veil (((unveil HF5).box (unveil HZ4) (by decide) (by omega)).below hb6)
      have HW6 := veil (((unveil HF5).box (unveil HW4) (by decide) (by omega)).below hb6)
      have HF6 := veil (((unveil HF4).trans (unveil HF5)).trans (FrE.below hb6 (Nat.le_of_lt (unveil HC5).lt)))
      have HK6 : Hid (Kids (W5.alloc (.cells #[.int .i64 x0, .int .i64 x1, .int .i64 x2, .int .i64 x3, .string ⟨x4.toArray⟩, .slice q x5.length cx, .int .i64 x6] 24)) (fun g => w.heap.size < g) (.mk x0 x1 x2 x3 x4 x5 x6) q) := ((unveil HK5).below hb6).mono (fun g _ h => by omega)
      have HX6 : Hid (Bk (W5.alloc (.cells #[.int .i64 x0, .int .i64 x1, .int .i64 x2, .int .i64 x3, .string ⟨x4.toArray⟩, .slice q x5.length cx, .int .i64 x6] 24)) W5.heap.size 24 #[.int .i64 x0, .int .i64 x1, .int .i64 x2, .int .i64 x3, .string ⟨x4.toArray⟩, .slice q x5.length cx, .int .i64 x6]) := Bk.new _ _ _
      have hXB : w.heap.size < W5.heap.size := ((unveil HF5).box (unveil HZ4) (by decide) (by omega)).lt
      clear hb6 HK5 HC5 HZ4 HF4 HF5
      generalize (W5.alloc (.cells #[.int .i64 x0, .int .i64 x1, .int .i64 x2, .int .i64 x3, .string ⟨x4.toArray⟩, .slice q x5.length cx, .int .i64 x6] 24)) = W6 at *
      generalize W5.heap.size = XB at *
      have HGF := veil (unveil HGA _ _ _ _ _ (unveil HG).1 (unveil HG).2)
      have HPF : Hid (p ≤ p2) := by have := unveil HP5; show p ≤ p2; omega
      have HOB : Hid (o.isSome = (o.map (fun _ => [PE.mk 3 OP 0 0 [] [.mk x0 x1 x2 x3 x4 x5 x6] wl])).isSome) := by cases o <;> rfl
      have HON : Hid (∀ l, o.map (fun _ => [PE.mk 3 OP 0 0 [] [.mk x0 x1 x2 x3 x4 x5 x6] wl]) = some l → l = [PE.mk 3 OP 0 0 [] [.mk x0 x1 x2 x3 x4 x5 x6] wl]) := by
        intro l' h
        cases o with
        | none => cases h
        | some _ => cases h; rfl
      clear HGA HG HO HOO
      generalize o.isSome = OS at *
      have w0 := (unveil HW6).cell 0
      have w1 := (unveil HW6).cell 1
      have w2 := (unveil HW6).cell 2
      have w3 := (unveil HW6).cell 3
      have w4 := (unveil HW6).cell 4
      have w5 := (unveil HW6).cell 5
      have wlt := (unveil HW6).lt
      simp only [List.getElem?_toArray, List.getElem?_cons_zero, List.getElem?_cons_succ] at w0 w1 w2 w3 w4 w5
      obtain ⟨⟨b0, b1, b2, b3, b4, b5, b6⟩, bl, _⟩ := ex_cells (unveil HX6)
      obtain ⟨⟨z0, z1, z2, z3, z4, z5, z6⟩, zl, ⟨g0, g1, g2, g3, g4, g5, g6⟩⟩ := ex_cells (unveil HZ6)
      go_wp2_with fail
      obtain ⟨r1, r2⟩ := PrP.finL (x := .mk 3 OP 0 0 [] [.mk x0 x1 x2 x3 x4 x5 x6] wl) (c := 1) (n := 1) rfl hR (unveil HC6) (unveil HZ6) (unveil HF6) (L := #[.int .i64 x0, .int .i64 x1, .int .i64 x2, .int .i64 x3, .string ⟨x4.toArray⟩, .slice q x5.length cx, .int .i64 x6]) (fun V hb hy => Kids.of (KidL.one (x := .mk x0 x1 x2 x3 x4 x5 x6) (c := cx) hb (by have := (unveil HZ6).lt; omega) (hy _ _ (unveil HK6)))) (unveil HGF) (unveil HON) (unveil HPF) OS (unveil HOB) _ rfl
      exact bodyPost_ret (res_ex (f := Tryz.f64) (i := 3) rfl rfl r1 rfl) rfl r2
  · have HIN : Hid (p < ws.length) := sg_in (by intro e; rw [e] at h1; cases h1)
    rw [h1] at HSK
    simp only [if_true] at HSK
    have HGA := veil (fun (f : Nat) (r : Option (List PE) × Nat × List Int) => @one_plus (nxt ws) f p cr r h1)
    clear HE HK HN h1
    go_upto_region 2 with (go_at_call 67; refine (unveil HSK).mono ?_; rintro e W1 ⟨rfl, hf, hx⟩; have HF1 := veil hf; have HX1 := veil hx; have HC1 : Hid (Cx R wv ws tw W1 (p + 1) cr) := ⟨_, hx, LvC.fr hf 10 tw (unveil HL0), unveil HIN, Nat.le_succ_of_le (unveil HP0).2⟩; clear hf hx)
    have HZ1 := veil ((unveil HF1).box (unveil HZ0) (by decide) (by omega))
    have HFa := veil ((unveil HF0).trans (unveil HF1))
    clear HSK HC0 HZ0 HF0 HL0 HF1
    have hR1 := (unveil HC1).lt
    have hsz1 : w.heap.size < W1.heap.size := (unveil HZ1).lt
    have HOO := veil ((unveil HO) W1 cr (unveil HC1))
    go_wp2_with (go_at_call 64; refine (unveil HOO).mono ?_; rintro e W2 ⟨x, q, cx, o, p2, cr2, f, rfl, hg, ho, hk, hc, hf, hp⟩; have HG := veil (And.intro hg ho); have HC9 := veil hc; have HP9 := veil hp; have HZ9 := veil (hf.box (unveil HZ1) (by decide) (by omega)); have HF9 := veil ((unveil HFa).trans hf); have HK9 := veil (hk.mono (K' := fun g => w.heap.size < g) (fun g _ h => by omega)); clear hg ho hk hc hf hp; obtain ⟨x0, x1, x2, x3, x4, x5, x6⟩ := x; simp only [exC, PE.is, PE.op, PE.k, PE.v, PE.nm, PE.l, PE.line]; obtain ⟨⟨z0, z1, z2, z3, z4, z5, z6⟩, zl, ⟨g0, g1, g2, g3, g4, g5, g6⟩⟩ := ex_cells (unveil HZ9))
    have HGF := veil (unveil HGA _ _ (unveil HG).1)
    have HON := veil (unveil HG).2
    obtain ⟨r1, r2⟩ := PrP.fin (x := .mk x0 x1 x2 x3 x4 x5 x6) (q := q) (c := cx) hR (unveil HC9) (unveil HZ9) (unveil HF9) (unveil HK9) (unveil HGF) (unveil HON) (by have := unveil HP9; omega) _ rfl _ rfl
    exact bodyPost_ret (res_ex (f := Tryz.f64) (i := 3) rfl rfl r1 rfl) rfl r2

end Go.Proofs.YtmpkgjonbjpohaaGreatDoor
