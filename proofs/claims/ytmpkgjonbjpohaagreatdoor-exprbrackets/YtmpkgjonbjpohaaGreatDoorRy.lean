/-
  Package expr: cast.
-/
import Derived.Test.YtmpkgjonbjpohaaGreatDoorRx
namespace Go.Proofs.YtmpkgjonbjpohaaGreatDoor
open Go Go.RowKit
set_option linter.unusedVariables false
set_option linter.unusedSimpArgs false

def stV (s : List UInt8) : Value := .string ⟨s.toArray⟩
theorem infoStr : (Tryz.prog.info? 9).map (fun i => (i.zero, i.size, i.bytes)) = some (some (.string ⟨#[]⟩), 1, 16) := by kernel_rfl
theorem fldWd1 (a b c d e f : Value) (W : World) : (Instr.field 42 (.agg #[a, b, c, d, e, f]) 1).run Tryz.prog W = .ok b W := by kernel_rfl
theorem Bk.grow {A B : World} {b : Nat} {T : TypeId} {cs : Array Value} {row : Option Nat} (h : Bk A b T cs) (hg : A.grownBy B row) (hr : ∀ r, row = some r → b < r) : Bk B b T cs := (hg.block b h.lt (fun e => by have := hr b e.symm; omega)).trans h
/-- A list of words grows: the reader does not know it. -/
theorem Cx.growS {R : Nat} {wv : Value} {ws : List Wd} {tw : Value} {W W' : World} {p : Nat} {cr : List Int} {row : Option Nat} (h : Cx R wv ws tw W p cr) (hg : W.grownBy W' row) (hr : ∀ r, row = some r → R < r ∧ ∃ cur, W.heap[r]? = some (.cells cur 9 (0, 0))) (hL : LvC W' R 10 tw) : Cx R wv ws tw W' p cr := by
  cases row with
  | none => exact h.below ⟨hg.os, hg.tape, hg.output, hg.size, fun i hi => hg.block i hi (by simp)⟩
  | some r =>
    obtain ⟨h1, cur, h2⟩ := hr r rfl
    obtain ⟨crv, hX, _, hp⟩ := h
    exact ⟨crv, hX.late h1 (cs := cur) (T := 9) h2 (by decide) (fun j o hj hj2 => (hg.block j (Array.getElem?_eq_some_iff.1 hj2).1 (fun e => hj (by cases e; rfl))).trans hj2) (fun n hn => ⟨hg.os, hg.tape, hg.output, hg.size, fun i hi => hg.block i (by have := (Array.getElem?_eq_some_iff.1 h2).1; omega) (fun e => by cases e; omega)⟩), hL, hp⟩
theorem st_of {W : World} {base n c : Nat} {lp : Option Addr} {L : List (List UInt8)} (h : W.ownsRow base 9 1 (.slice lp n c) L.length (L.map stV)) : StG W.heap.size W (.slice lp L.length c) L := by
  refine ⟨lp, c, rfl, fun i hi => ?_⟩
  obtain ⟨_, ⟨h1, h0⟩ | ⟨g, cap, cur, he, hbg, hg, hc, hm, hs, hx⟩⟩ := h
  · omega
  · cases he
    refine ⟨g, 0, rfl, (Array.getElem?_eq_some_iff.1 hg).1, ?_⟩
    have hb : Bk W g 9 cur := hg
    rw [hb.cell]
    have e : (L.map stV)[i]? = some (.string ⟨L[i].toArray⟩) := by simp [stV, hi]
    rw [← hx, List.getElem?_take] at e
    split at e
    · rw [Nat.zero_add]
      simpa using e
    · cases e
def OkK (R : Nat) (wv : Value) (ws : List Wd) (tw : Value) (p : Nat) : Prop := ∀ (W : World) (cr : List Int) (line : Int), Cx R wv ws tw W p cr → Calls Tryz.prog 100 #[.pointer (some ⟨R, 0, none⟩), .int .i64 line] W (PrP R wv ws tw (.kw line []) p cr W)
theorem kw_go {N : Nat → Wd} {f p : Nat} {cr : List Int} {line : Int} {acc : List (List UInt8)} {r : Option (List PE) × Nat × List Int} (h : akW (N p) = true) (h2 : gM N f (.kw line (acc ++ [(N p).s])) (p + 1) cr = some r) : gM N (f + 1) (.kw line acc) p cr = some r := by rw [gM, h]; exact h2
theorem kw_bad {N : Nat → Wd} {p : Nat} {cr : List Int} {line : Int} {acc : List (List UInt8)} (h : akW (N p) = false) (he : ((kofM acc).2 == 0) = false) : gM N 1 (.kw line acc) p cr = some (none, p, cr) := by rw [gM, h, he]; rfl
theorem kw_no {N : Nat → Wd} {p : Nat} {cr : List Int} {line : Int} {acc : List (List UInt8)} (h : akW (N p) = false) (he : ((kofM acc).2 == 0) = true) (hq : (sgW (N p) == [41]) = false) : gM N 1 (.kw line acc) p cr = some (none, p, cr) := by rw [gM, h, he, hq]; rfl
theorem kw_yes {N : Nat → Wd} {f p p2 : Nat} {cr cr2 : List Int} {line : Int} {acc : List (List UInt8)} {o : Option (List PE)} {x : PE} (h : akW (N p) = false) (he : ((kofM acc).2 == 0) = true) (hq : (sgW (N p) == [41]) = true) (h2 : gM N f .one (p + 1) cr = some (o, p2, cr2)) (ho : ∀ l, o = some l → l = [x]) :
    gM N (f + 1) (.kw line acc) p cr = some (o.map (fun _ => [.mk 7 0 (kofM acc).1 0 [] [x] line]), p2, cr2) := by
  rw [gM, h, he, hq, h2]
  cases o with
  | none => rfl
  | some l =>
    rw [ho l rfl]
    rfl
theorem ak_in {ws : List Wd} {p : Nat} (h : akW (nxt ws p) = true) : p < ws.length := kd_in (by intro e; unfold akW at h; rw [e] at h; simp at h)
set_option maxRecDepth 100000 in
set_option maxHeartbeats 16000000 in
theorem cast_any (R : Nat) (wv : Value) (ws : List Wd) (tw : Value) (hl : ws.length ≤ 1000000) (hws : ∀ y ∈ ws, y.s.length ≤ 140737488355328) (p : Nat) (ho : ∀ p', p < p' → OkO R wv ws tw p') : OkK R wv ws tw p := fun w cr line hC => by
  have HO := veil ho
  have hR := hC.lt
  have hb0 : Below w.heap.size w (w.alloc (.cells #[.int .i64 0, .int .i64 0, .int .i64 0, .int .i64 0, .string ⟨#[]⟩, .slice none 0 0, .int .i64 0] 24)) := (Below.refl _ w).alloc (Nat.le_refl _) _
  have HC1 := veil (hC.below hb0)
  have HZ0 : Hid (Bk (w.alloc (.cells #[.int .i64 0, .int .i64 0, .int .i64 0, .int .i64 0, .string ⟨#[]⟩, .slice none 0 0, .int .i64 0] 24)) w.heap.size 24 #[.int .i64 0, .int .i64 0, .int .i64 0, .int .i64 0, .string ⟨#[]⟩, .slice none 0 0, .int .i64 0]) := Bk.new _ _ _
  have HF0 : Hid (FrE R w (w.alloc (.cells #[.int .i64 0, .int .i64 0, .int .i64 0, .int .i64 0, .string ⟨#[]⟩, .slice none 0 0, .int .i64 0] 24))) := FrE.below hb0 (Nat.le_of_lt hR)
  obtain ⟨crvw, hXw, hLw, hpw⟩ := hC
  have HLW := veil hLw
  clear hb0 ho hXw hLw hpw
  go_enter Tryz.func100, Tryz.ntmps100
  go_upto_region 1 with fail
  generalize (w.alloc (.cells #[.int .i64 0, .int .i64 0, .int .i64 0, .int .i64 0, .string ⟨#[]⟩, .slice none 0 0, .int .i64 0] 24)) = W0 at *
  go_upto_region 2 with fail
  go_loopg [6] (ws.length - p) (fun gk lv wr => ∃ (L : List (List UInt8)) (lp : Option Addr) (lc p1 : Nat), gk = ws.length - p1 ∧ lv = .slice lp L.length lc ∧ p ≤ p1 ∧ L.length ≤ p1 ∧ Hid (Cx R wv ws tw wr p1 cr) ∧ Hid (wr.ownsRow (w.heap.size + 1) 9 1 (.slice lp L.length lc) L.length (L.map stV)) ∧ Hid (Bk wr w.heap.size 24 #[.int .i64 0, .int .i64 0, .int .i64 0, .int .i64 0, .string ⟨#[]⟩, .slice none 0 0, .int .i64 0]) ∧ Hid (FrE R w wr) ∧ Hid (∀ f2 r, gM (nxt ws) f2 (.kw line L) p1 cr = some r → ∃ f, gM (nxt ws) f (.kw line []) p cr = some r))
  case atStart => exact ⟨[], none, 0, p, rfl, rfl, Nat.le_refl _, Nat.zero_le _, HC1, World.ownsRow_nil _ _ _ _, HZ0, HF0, fun f2 r h => ⟨_, h⟩⟩
  case round =>
    clear HC1 HZ0 HF0
    rename World => wr
    obtain ⟨L, lp, lc, p1, rfl, rfl, hp1, hLp, HC1, HRW, HZ1, HF1, HCN⟩ := hrel
    obtain ⟨crv1, hX1, hL1, hpp1⟩ := id (unveil HC1)
    have HX1 := veil hX1
    have HPP := veil hpp1
    have HAK := veil (atKind_any hX1)
    have hws0 : w.heap.size < wr.heap.size := (unveil HZ1).lt
    have hR1 := hX1.b.lt
    have hLb : L.length ≤ 1000000 := by omega
    clear hX1 hL1 hpp1
    cases hK : akW (nxt ws p1)
    · rw [hK] at HAK
      go_upto_region 4 with (go_at_call 99; refine (unveil HAK).mono ?_; rintro e W2 ⟨rfl, hb⟩; have HB2 := veil hb; clear hb)
      have HX2 := veil ((unveil HX1).below (unveil HB2))
      have HC2 := veil ((unveil HC1).below (unveil HB2))
      have HZ2 := veil ((unveil HZ1).below (unveil HB2))
      have HF2 := veil ((unveil HF1).trans (FrE.below (unveil HB2) (Nat.le_of_lt hR1)))
      have HRW2 := veil (row_kept (unveil HRW) (fun g cur _ hk => ((unveil HB2).block g (Array.getElem?_eq_some_iff.1 hk).1).trans hk))
      clear HX1 HC1 HZ1 HF1 HRW HAK HB2
      have HOF := veil (Of_any lp lc L W2 (by omega) (st_of (unveil HRW2)) (unveil HX2).mo (unveil HX2).gl.size)
      have hR2 := (unveil HX2).b.lt
      cases hE : (kofM L).2 == 0
      · obtain ⟨fN, hfN⟩ := (unveil HCN) _ _ (kw_bad (N := nxt ws) (cr := cr) hK hE)
        have HGF := veil hfN
        clear hfN HCN HO
        generalize kofM L = KO at *
        obtain ⟨ko, ke⟩ := KO
        simp only at hE HOF
        have hE' : (ke != 0) = true := by simp only [bne, hE]; rfl
        go_upto_region 5 with (go_at_call 125; refine (unveil HOF).mono ?_; rintro e W3 ⟨rfl, hb⟩; have HB3 := veil hb; clear hb)
        have HC3 := veil ((unveil HC2).below (unveil HB3))
        have HZ3 := veil ((unveil HZ2).below (unveil HB3))
        have HF3 := veil ((unveil HF2).trans (FrE.below (unveil HB3) (Nat.le_of_lt hR2)))
        clear HOF HX2 HC2 HZ2 HF2 HRW2 HB3
        obtain ⟨⟨z0, z1, z2, z3, z4, z5, z6⟩, zl, ⟨g0, g1, g2, g3, g4, g5, g6⟩⟩ := ex_cells (unveil HZ3)
        go_wp2_with fail
        obtain ⟨r1, r2⟩ := PrP.fin (x := zeP) (q := none) (c := 0) hR (unveil HC3) (unveil HZ3) (unveil HF3) (Kids.nil rfl _) (unveil HGF) (fun l h => by cases h) hp1 false rfl _ rfl
        exact bodyPost_ret (res_ex (f := Tryz.f100) (i := 5) rfl rfl r1 rfl) rfl r2

      · have HKW := veil (fun (f p2 : Nat) (cr2 : List Int) (o : Option (List PE)) (x : PE) => @kw_yes (nxt ws) f p1 p2 cr cr2 line L o x hK hE)
        have HKN := veil (kw_no (N := nxt ws) (p := p1) (cr := cr) (line := line) (acc := L) hK hE)
        generalize kofM L = KO at *
        obtain ⟨ko, ke⟩ := KO
        simp only at hE HOF HKW
        have hE' : (ke != 0) = false := by simp only [bne, hE]; rfl
        go_upto_region 5 with (go_at_call 125; refine (unveil HOF).mono ?_; rintro e W3 ⟨rfl, hb⟩; have HB3 := veil hb; clear hb)
        have HX3 := veil ((unveil HX2).below (unveil HB3))
        have HC3 := veil ((unveil HC2).below (unveil HB3))
        have HZ3 := veil ((unveil HZ2).below (unveil HB3))
        have HF3 := veil ((unveil HF2).trans (FrE.below (unveil HB3) (Nat.le_of_lt hR2)))
        have HLV : Hid (LvC W3 R 10 tw) := LvC.fr (unveil HF3) 10 tw (unveil HLW)
        clear HOF HX2 HC2 HZ2 HF2 HRW2 HB3
        have HSK := veil (skip_any (unveil HX3) [41] (by simp) hl hws)
        have hR3 := (unveil HX3).b.lt
        cases hQ : sgW (nxt ws p1) == [41]
        · obtain ⟨fN, hfN⟩ := (unveil HCN) _ _ (unveil HKN hQ)
          have HGF := veil hfN
          rw [hQ] at HSK
          simp only [Bool.false_eq_true, if_false] at HSK
          clear hfN HCN HO HKN HKW hQ
          go_upto_region 6 with (go_at_call 67; refine (unveil HSK).mono ?_; rintro e W4 ⟨rfl, hf4, hx4⟩; have HF4 := veil hf4; have HC4 : Hid (Cx R wv ws tw W4 p1 cr) := ⟨_, hx4, LvC.fr hf4 10 tw (unveil HLV), (unveil HPP)⟩; clear hf4 hx4)
          have HZ4 := veil ((unveil HF4).box (unveil HZ3) (by decide) (by omega))
          have HF5 := veil ((unveil HF3).trans (unveil HF4))
          clear HSK HC3 HZ3 HX3 HF3 HF4
          obtain ⟨⟨z0, z1, z2, z3, z4, z5, z6⟩, zl, ⟨g0, g1, g2, g3, g4, g5, g6⟩⟩ := ex_cells (unveil HZ4)
          go_wp2_with fail
          obtain ⟨r1, r2⟩ := PrP.fin (x := zeP) (q := none) (c := 0) hR (unveil HC4) (unveil HZ4) (unveil HF5) (Kids.nil rfl _) (unveil HGF) (fun l h => by cases h) hp1 false rfl _ rfl
          exact bodyPost_ret (res_ex (f := Tryz.f100) (i := 5) rfl rfl r1 rfl) rfl r2

        · have HKY := veil (fun f p2 cr2 o x => unveil HKW f p2 cr2 o x hQ)
          have HIN2 : Hid (p1 < ws.length) := sg_in (by intro e; rw [e] at hQ; cases hQ)
          rw [hQ] at HSK
          simp only [if_true] at HSK
          clear HKN HKW hQ
          go_upto_region 7 with (go_at_call 67; refine (unveil HSK).mono ?_; rintro e W4 ⟨rfl, hf4, hx4⟩; have HF4 := veil hf4; have HC4 : Hid (Cx R wv ws tw W4 (p1 + 1) cr) := ⟨_, hx4, LvC.fr hf4 10 tw (unveil HLV), unveil HIN2, Nat.le_succ_of_le (unveil HPP).2⟩; clear hf4 hx4)
          have HZ4 := veil ((unveil HF4).box (unveil HZ3) (by decide) (by omega))
          have HF5 := veil ((unveil HF3).trans (unveil HF4))
          clear HSK HC3 HZ3 HX3 HF3 HF4
          have hW4s : w.heap.size < W4.heap.size := (unveil HZ4).lt
          have hR4 := (unveil HC4).lt
          have HOO := veil ((unveil HO) (p1 + 1) (by omega) W4 cr (unveil HC4))
          go_upto_region 8 with (go_at_call 64; refine (unveil HOO).mono ?_; rintro e W5 ⟨x, q, cx, o, p2, cr2, f, rfl, hg, ho, hk, hc, hf, hp⟩; have HG := veil (And.intro hg ho); have HK5 := veil hk; have HC5 := veil hc; have HP5 := veil hp; have HF6 := veil hf; clear hg ho hk hc hf hp; obtain ⟨x0, x1, x2, x3, x4, x5, x6⟩ := x; simp only [exC, PE.is, PE.op, PE.k, PE.v, PE.nm, PE.l, PE.line])
          have hb6 : Below W5.heap.size W5 (W5.alloc (.cells #[.int .i64 x0, .int .i64 x1, .int .i64 x2, .int .i64 x3, .string ⟨x4.toArray⟩, .slice q x5.length cx, .int .i64 x6] 24)) := (Below.refl _ W5).alloc (Nat.le_refl _) _
          have HC6 := veil ((unveil HC5).below hb6)
          have HZ6 := veil (((unveil HF6).box (unveil HZ4) (by decide) (by omega)).below hb6)
          have HF7 := veil (((unveil HF5).trans (unveil HF6)).trans (FrE.below hb6 (Nat.le_of_lt (unveil HC5).lt)))
          have HK6 : Hid (Kids (W5.alloc (.cells #[.int .i64 x0, .int .i64 x1, .int .i64 x2, .int .i64 x3, .string ⟨x4.toArray⟩, .slice q x5.length cx, .int .i64 x6] 24)) (fun g => w.heap.size < g) (.mk x0 x1 x2 x3 x4 x5 x6) q) := ((unveil HK5).below hb6).mono (fun g _ h => by omega)
          have HX6 : Hid (Bk (W5.alloc (.cells #[.int .i64 x0, .int .i64 x1, .int .i64 x2, .int .i64 x3, .string ⟨x4.toArray⟩, .slice q x5.length cx, .int .i64 x6] 24)) W5.heap.size 24 #[.int .i64 x0, .int .i64 x1, .int .i64 x2, .int .i64 x3, .string ⟨x4.toArray⟩, .slice q x5.length cx, .int .i64 x6]) := Bk.new _ _ _
          obtain ⟨fN, hfN⟩ := (unveil HCN) _ _ (unveil HKY _ _ _ _ _ (unveil HG).1 (unveil HG).2)
          have HGF := veil hfN
          have HPF : Hid (p ≤ p2) := by have := unveil HP5; show p ≤ p2; omega
          have HOB : Hid (o.isSome = (o.map (fun _ => [PE.mk 7 0 ko 0 [] [.mk x0 x1 x2 x3 x4 x5 x6] line])).isSome) := by cases o <;> rfl
          have HON : Hid (∀ l, o.map (fun _ => [PE.mk 7 0 ko 0 [] [.mk x0 x1 x2 x3 x4 x5 x6] line]) = some l → l = [PE.mk 7 0 ko 0 [] [.mk x0 x1 x2 x3 x4 x5 x6] line]) := by
            intro l' h
            cases o with
            | none => cases h
            | some _ => cases h; rfl
          clear hb6 hfN HCN HKY HG HK5 HC5 HZ4 HF5 HF6 HC4 HO HOO
          generalize (W5.alloc (.cells #[.int .i64 x0, .int .i64 x1, .int .i64 x2, .int .i64 x3, .string ⟨x4.toArray⟩, .slice q x5.length cx, .int .i64 x6] 24)) = W6 at *
          generalize W5.heap.size = XB at *
          generalize o.isSome = OS at *
          obtain ⟨⟨b0, b1, b2, b3, b4, b5, b6⟩, bl, _⟩ := ex_cells (unveil HX6)
          obtain ⟨⟨z0, z1, z2, z3, z4, z5, z6⟩, zl, ⟨g0, g1, g2, g3, g4, g5, g6⟩⟩ := ex_cells (unveil HZ6)
          go_wp2_with fail
          obtain ⟨r1, r2⟩ := PrP.finL (x := .mk 7 0 ko 0 [] [.mk x0 x1 x2 x3 x4 x5 x6] line) (c := 1) (n := 1) rfl hR (unveil HC6) (unveil HZ6) (unveil HF7) (L := #[.int .i64 x0, .int .i64 x1, .int .i64 x2, .int .i64 x3, .string ⟨x4.toArray⟩, .slice q x5.length cx, .int .i64 x6]) (fun V hb hy => Kids.of (KidL.one (x := .mk x0 x1 x2 x3 x4 x5 x6) (c := cx) hb (by have := (unveil HZ6).lt; omega) (hy _ _ (unveil HK6)))) (unveil HGF) (unveil HON) (unveil HPF) OS (unveil HOB) _ rfl
          exact bodyPost_ret (res_ex (f := Tryz.f100) (i := 5) rfl rfl r1 rfl) rfl r2
    · have HIN : Hid (p1 < ws.length) := ak_in hK
      rw [hK] at HAK
      have HNX : Hid (∀ f2 r, gM (nxt ws) f2 (.kw line (L ++ [(nxt ws p1).s])) (p1 + 1) cr = some r → ∃ f, gM (nxt ws) f (.kw line []) p cr = some r) := fun f2 r h => (unveil HCN) _ _ (kw_go hK h)
      clear HCN HO hK
      go_upto_region 3 with (go_at_call 99; refine (unveil HAK).mono ?_; rintro e W2 ⟨rfl, hb⟩; have HB2 := veil hb; clear hb)
      have HX2 := veil ((unveil HX1).below (unveil HB2))
      have HZ2 := veil ((unveil HZ1).below (unveil HB2))
      have HF2 := veil ((unveil HF1).trans (FrE.below (unveil HB2) (Nat.le_of_lt hR1)))
      have HRW2 := veil (row_kept (unveil HRW) (fun g cur _ hk => ((unveil HB2).block g (Array.getElem?_eq_some_iff.1 hk).1).trans hk))
      have HLV : Hid (LvC W2 R 10 tw) := LvC.fr (unveil HF2) 10 tw (unveil HLW)
      clear HX1 HC1 HZ1 HF1 HRW HAK HB2
      have hW2s : w.heap.size < W2.heap.size := (unveil HZ2).lt
      have HTA := veil (etake_any (unveil HX2) (unveil HIN) hl hws)
      generalize hxw : nxt ws p1 = xw at *
      obtain ⟨wk, wsx, wvx, wt, wf, wl⟩ := xw
      unfold wdV wdC at HTA
      simp only at HNX
      obtain ⟨i0, hi, hz0, hz1, hz2'⟩ := info_parts infoStr
      have hfl := fldWd1 (.int .i64 wk) (.string ⟨wsx.toArray⟩) (.int .i64 wvx) (.int .i64 wt) (.string ⟨wf.toArray⟩) (.int .i64 wl)
      go_wp2_with (first
        | (go_at_call 66; refine (unveil HTA).mono ?_; rintro e W3 ⟨rfl, hf3, hx3⟩; have HF3 := veil hf3; have HX3 := veil hx3; have HRW3 : Hid ((W3.alloc (.cells #[.string ⟨wsx.toArray⟩] 9)).ownsRow (w.heap.size + 1) 9 1 (.slice lp L.length lc) L.length (L.map stV)) := row_kept (row_kept (unveil HRW2) (fun g cur hg hk => hf3.bk g cur _ (0, 0) (by decide) (by omega) hk)) (fun g cur _ hk => (Below.heap_alloc W3 _ g (Array.getElem?_eq_some_iff.1 hk).1).trans hk); have hsz3 := hf3.be.size; have hW3s : w.heap.size + 1 ≤ (W3.alloc (.cells #[.string ⟨wsx.toArray⟩] 9)).heap.size := (by have := (hf3.box (unveil HZ2) (by decide) (by omega)).lt; simp; omega); clear hf3 hx3)
        | (at_builtin; go_loud (refine wpList_append_own_at _ rfl _ _ 91 rfl (w.heap.size + 1) 9 i0 _ 1 16 Tryz.underlying91 hi hz0 hz1 hz2' rfl (by decide) _ _ _ rfl (unveil HRW3) _ 1 1 [.string ⟨wsx.toArray⟩] rfl rfl (cell_one_new _ _ _) (by intro u hu; simp at hu; subst hu; rfl) (by unfold maxLen; omega) (by omega) hW3s ?_; intro v5 W5 hown5 hg5 _ hwh; obtain ⟨lq, lqc, rfl⟩ := row_sliceX hown5; have HOWN := veil (And.intro hown5 hg5); clear hown5 hg5 hwh)))
      obtain ⟨hown5, hg5⟩ := unveil HOWN
      have hb3 : Below W3.heap.size W3 (W3.alloc (.cells #[.string ⟨wsx.toArray⟩] 9)) := (Below.refl _ W3).alloc (Nat.le_refl _) _
      have hrt := row_turnX (unveil HRW3)
      have HX4 := veil ((unveil HX3).below hb3)
      have HF4 := veil (((unveil HF2).trans (unveil HF3)).trans (FrE.below hb3 (Nat.le_of_lt (unveil HX3).b.lt)))
      have hf5 := (unveil HF4).grow hg5 (fun r e => by obtain ⟨h1, _, h3⟩ := hrt r e; exact ⟨by omega, by omega⟩) (Nat.le_of_lt (unveil HX4).b.lt)
      have HF5 := veil hf5
      have HZ5 := veil ((((unveil HF3).box (unveil HZ2) (by decide) (by omega)).below hb3).grow hg5 (fun r e => by obtain ⟨h1, _, h3⟩ := hrt r e; omega))
      have HC5 : Hid (Cx R wv ws tw W5 (p1 + 1) cr) := Cx.growS (W := (W3.alloc (.cells #[.string ⟨wsx.toArray⟩] 9))) ⟨_, unveil HX4, LvC.fr (unveil HF4) 10 tw (unveil HLW), unveil HIN, Nat.le_succ_of_le (unveil HPP).2⟩ hg5 (fun r e => by obtain ⟨h1, _, h3⟩ := hrt r e; exact ⟨by omega, h3⟩) (LvC.fr hf5 10 tw (unveil HLW))
      have HR5 : Hid (W5.ownsRow (w.heap.size + 1) 9 1 (.slice lq (L.length + 1) lqc) (L ++ [wsx]).length ((L ++ [wsx]).map stV)) := by
        rw [Hid, List.length_append, List.map_append]
        exact hown5
      have hLN : Hid ((L ++ [wsx]).length = L.length + 1) := by simp [Hid]
      clear hown5 hg5 hb3 hrt hf5 HOWN HX3 HX4 HF3 HF4 HZ2 HF2 HRW2 HRW3 HLV
      generalize L ++ [wsx] = LN at *
      go_roundg (ws.length - (p1 + 1))
      case measure => have := unveil HIN; omega
      case rel => exact ⟨LN, lq, lqc, p1 + 1, rfl, by rw [unveil hLN], by omega, by have := unveil hLN; omega, HC5, by rw [unveil hLN]; rw [← unveil hLN]; rw [← unveil hLN] at HR5; exact HR5, HZ5, HF5, HNX⟩
end Go.Proofs.YtmpkgjonbjpohaaGreatDoor
