/-
  Package expr: alone.
-/
import Derived.Test.YtmpkgjonbjpohaaGreatDoorRw
import Derived.Test.YtmpkgjonbjpohaaGreatDoorY7
import Derived.Deep.RegionLaw
namespace Go.Proofs.YtmpkgjonbjpohaaGreatDoor
open Go Go.RowKit
set_option linter.unusedVariables false
set_option linter.unusedSimpArgs false

/-- append to a list of the call's own, as one step of a region that draws. -/
theorem step_own_at {P : Program} {ops : Array Oper} {o : Oper} {a : Act} {w : World} {K : Act → World → Prop} {Q : Exit → Act → World → Prop} {E : Prop} (hg : o.guard = none) (s x : Operand) (t : TypeId) (hop : o.op = Op.call { callee := Callee.builtin Builtin.append, args := #[s, x], argTypes := #[t, t] })
    (base : Nat) (e : TypeId) (i : TypeInfo) (z : Value) (size bytes : Nat) (h1 : P.underlying t = some (.slice e)) (h2 : P.info? e = some i) (h3 : i.zero = some z) (h4 : i.size = size) (h5 : i.bytes = bytes) (h6 : z.cells.size = size) (h7 : 0 < size)
    (v : Value) (n : Nat) (xs : List Value) (hs : a.eval s = v) (hown : w.ownsRow base e size v n xs) (ad : Addr) (m c : Nat) (news : List Value) (hx : a.eval x = .slice (some ad) m c) (hn : news.length = m * size) (hc : ∀ j u, news[j]? = some u → w.cell? (ad.add j) = some u) (h1c : ∀ u ∈ news, u.oneCell' = true)
    (b1 : n + m ≤ maxLen) (b2 : (n + m) * bytes ≤ 140737488355328) (b3 : base ≤ w.heap.size)
    (hK : ∀ v' w', w'.ownsRow base e size v' (n + m) (xs ++ news) → w.grownBy w' v.ownBlock → K (a.put o.dst v') w') :
    if Region.wanted o (yielded ops a.tmps) = true then Oper.wp P o a w K Q else E := by
  have hw : Region.wanted o (yielded ops a.tmps) = true := by simp [Region.wanted, hg]
  rw [if_pos hw]
  obtain ⟨v', w', hrun, r1, r2, _⟩ := run_append_own_at (P := P) w base t o.type e i z size bytes h1 h2 h3 h4 h5 h6 h7 v n xs hown ad m c news hn hc h1c b1 b2 b3
  unfold Oper.wp
  simp [execOp, hop, resolve, invoke, builtin, hs, hx, hrun, Result.andThen]
  exact hK v' w' r1 r2
theorem infoInt : (Tryz.prog.info? 3).map (fun i => (i.zero, i.size, i.bytes)) = some (some (.int .i64 0), 1, 8) := by kernel_rfl
/-- A crowded call is noted. -/
theorem RdX.crowd {W W1 W2 : World} {R : Nat} {wv : Value} {ws : List Wd} {tw crv v5 : Value} {p : Nat} {x : Wd} {cr : List Int} {line : Int} (h : RdX W R wv ws tw crv p x cr) (hb : Below W.heap.size W W1) (hg : W1.grownBy W2 crv.ownBlock) (ho : W2.ownsRow (R + 1) 3 1 v5 (cr.length + 1) (cr.map (fun x => .int .i64 x) ++ [.int .i64 line])) :
    RdX (W2.setCell ⟨R, 9, none⟩ v5) R wv ws tw v5 p x (cr ++ [line]) ∧ FrE R W (W2.setCell ⟨R, 9, none⟩ v5) := by
  have h1 := h.below hb
  have hrow := row_turnX h1.r
  have hne : ∀ i, crv.ownBlock = some i → R < i := fun i e => (hrow i e).1
  have fB : FrE R W1 W2 := ⟨⟨hg.os, hg.tape, hg.output, hg.size, fun i hi => hg.block i (by have := h1.b.lt; omega) (fun e => by have := hne i e.symm; omega)⟩, fun i cs T fz hT _ hk => (hg.block i (Array.getElem?_eq_some_iff.1 hk).1 (fun e => by
    obtain ⟨_, _, cur, hc⟩ := hrow i e.symm
    rw [hc] at hk
    simp only [Option.some.injEq, Obj.cells.injEq] at hk
    exact hT hk.2.1.symm)).trans hk⟩
  have hf : FrE R W (W2.setCell ⟨R, 9, none⟩ v5) := ((FrE.below hb (Nat.le_of_lt h.b.lt)).trans fB).trans (FrE.set R 9 W2 v5)
  have hbk : Bk W2 R 70 _ := (hg.block R h1.b.lt (fun e => by have := hne R e.symm; omega)).trans h1.b
  refine ⟨⟨hbk.set 9 _, ?_, h.wd.below hf.be, h.gl.below hf.be h.gm, h.op.below hf.be (by have := h.gm; show 0 < _; omega), h.mo.below hf.be h.gm, h.gm⟩, hf⟩
  rw [List.length_append, List.map_append]
  exact row_kept ho (fun g cur hg2 hk => (Below.heap_setCell W2 ⟨R, 9, none⟩ _ g (by show g ≠ R; omega)).trans hk)
theorem kd_in {ws : List Wd} {p : Nat} (h : (nxt ws p).kind ≠ 0) : p < ws.length := by
  rcases Nat.lt_or_ge p ws.length with h1 | h1
  · exact h1
  · exfalso
    refine h ?_
    unfold nxt
    rw [List.getElem?_eq_none h1]
    rfl
def OkN (R : Nat) (wv : Value) (ws : List Wd) (tw : Value) (p : Nat) : Prop := ∀ (W : World) (cr : List Int), Cx R wv ws tw W p cr → Calls Tryz.prog 98 #[.pointer (some ⟨R, 0, none⟩)] W (PrP R wv ws tw .alone p cr W)
theorem al_num {N : Nat → Wd} {p : Nat} {cr : List Int} (h : ((N p).kind == 3) = true) : gM N 1 .alone p cr = some (some [.mk 1 0 (N p).t (N p).v [] [] (N p).line], p + 1, cr) := by rw [gM, h]; rfl
theorem al_no {N : Nat → Wd} {p : Nat} {cr : List Int} (h : ((N p).kind == 3) = false) (h2 : ((N p).kind == 2) = false) : gM N 1 .alone p cr = some (none, p, cr) := by rw [gM, h, h2]; rfl
theorem al_var {N : Nat → Wd} {p : Nat} {cr : List Int} (h : ((N p).kind == 3) = false) (h2 : ((N p).kind == 2) = true) (hq : (sgW (N (p + 1)) == [40]) = false) : gM N 1 .alone p cr = some (some [.mk 2 0 0 0 (N p).s [] (N p).line], p + 1, cr) := by rw [gM, h, h2, hq]; rfl
theorem al_call {N : Nat → Wd} {f p p2 : Nat} {cr cr2 : List Int} {o : Option (List PE)} {l : List PE} (h : ((N p).kind == 3) = false) (h2 : ((N p).kind == 2) = true) (hq : (sgW (N (p + 1)) == [40]) = true) (hg : gM N f .args (p + 2) cr = some (o, p2, cr2)) (h0 : o = none → l = []) (h1 : ∀ l', o = some l' → l' = l) :
    gM N (f + 1) .alone p cr = some (o.map (fun _ => [.mk 8 0 0 0 (N p).s l (N p).line]), p2, if 8 < l.length then cr2 ++ [(N p).line] else cr2) := by
  rw [gM, h, h2, hq, hg]
  cases o with
  | none =>
    rw [h0 rfl]
    rfl
  | some l' =>
    rw [h1 l' rfl]
    rfl
set_option maxRecDepth 100000 in
set_option maxHeartbeats 16000000 in
theorem alone_any (R : Nat) (wv : Value) (ws : List Wd) (tw : Value) (hl : ws.length ≤ 1000000) (hws : ∀ y ∈ ws, y.s.length ≤ 140737488355328) (p : Nat) (ha : ∀ p', p < p' → OkA R wv ws tw p') : OkN R wv ws tw p := fun w cr hC => by
  have HA := veil ha
  have hR := hC.lt
  have hb0 : Below w.heap.size w (w.alloc (.cells #[.int .i64 0, .int .i64 0, .int .i64 0, .int .i64 0, .string ⟨#[]⟩, .slice none 0 0, .int .i64 0] 24)) := (Below.refl _ w).alloc (Nat.le_refl _) _
  have HC1 := veil (hC.below hb0)
  have HZ0 : Hid (Bk (w.alloc (.cells #[.int .i64 0, .int .i64 0, .int .i64 0, .int .i64 0, .string ⟨#[]⟩, .slice none 0 0, .int .i64 0] 24)) w.heap.size 24 #[.int .i64 0, .int .i64 0, .int .i64 0, .int .i64 0, .string ⟨#[]⟩, .slice none 0 0, .int .i64 0]) := Bk.new _ _ _
  have HF0 : Hid (FrE R w (w.alloc (.cells #[.int .i64 0, .int .i64 0, .int .i64 0, .int .i64 0, .string ⟨#[]⟩, .slice none 0 0, .int .i64 0] 24))) := FrE.below hb0 (Nat.le_of_lt hR)
  clear hb0 ha hC
  go_enter Tryz.func98, Tryz.ntmps98
  go_upto_region 1 with fail
  generalize (w.alloc (.cells #[.int .i64 0, .int .i64 0, .int .i64 0, .int .i64 0, .string ⟨#[]⟩, .slice none 0 0, .int .i64 0] 24)) = W0 at *
  obtain ⟨crv0, hX0, hL0, hp0⟩ := unveil HC1
  have HL0 := veil hL0
  have HP0 := veil hp0
  have hR0 := hX0.b.lt
  have hsz0 : w.heap.size < W0.heap.size := (unveil HZ0).lt
  obtain ⟨⟨c0, c1, c2, c3, c4, c5, c6, c7, c8, c9⟩, hlr, _⟩ := hX0.cells
  have HTK := veil (fun (hin : p < ws.length) => etake_any hX0 hin hl hws)
  have HKI := veil (@kd_in ws p)
  clear hL0 hp0 hX0
  cases h3 : (nxt ws p).kind == 3
  · cases h2 : (nxt ws p).kind == 2
    · have HGF := veil (al_no (cr := cr) h3 h2)
      clear HTK HKI HA
      obtain ⟨⟨z0, z1, z2, z3, z4, z5, z6⟩, zl, ⟨g0, g1, g2, g3, g4, g5, g6⟩⟩ := ex_cells (unveil HZ0)
      generalize (nxt ws p).kind = KD at *
      go_wp2_with fail
      obtain ⟨r1, r2⟩ := PrP.fin (x := zeP) (q := none) (c := 0) hR (unveil HC1) (unveil HZ0) (unveil HF0) (Kids.nil rfl _) (unveil HGF) (fun l h => by cases h) (Nat.le_refl _) false rfl _ rfl
      exact bodyPost_ret (res_ex (f := Tryz.f98) (i := 3) rfl rfl r1 rfl) rfl r2

    · have HIN : Hid (p < ws.length) := unveil HKI (by intro e; rw [e] at h2; cases h2)
      have HTA := veil (unveil HTK (unveil HIN))
      have HAR := veil (fun (f p2 : Nat) (cr2 : List Int) (o : Option (List PE)) (l : List PE) => @al_call (nxt ws) f p p2 cr cr2 o l h3 h2)
      have HVR := veil (al_var (cr := cr) h3 h2)
      clear HTK HKI
      generalize hxw : nxt ws p = xw at *
      obtain ⟨wk, wsx, wvx, wt, wf, wl⟩ := xw
      simp only at h3 h2 c2 HVR HAR
      unfold wdV wdC at HTA
      go_upto_region 7 with (go_at_call 66; refine (unveil HTA).mono ?_; rintro e W1 ⟨rfl, hf1, hx1⟩; have HF1 := veil hf1; have HC2 : Hid (Cx R wv ws tw W1 (p + 1) cr) := ⟨_, hx1, LvC.fr hf1 10 tw (unveil HL0), unveil HIN, Nat.le_succ_of_le (unveil HP0).2⟩; clear hf1 hx1)
      clear c0 c1 c2 c3 c4 c5 c6 c7 c8 c9 hlr HTA
      have hb2 : Below W1.heap.size W1 (W1.alloc (.cells #[.int .i64 wk, .string ⟨wsx.toArray⟩, .int .i64 wvx, .int .i64 wt, .string ⟨wf.toArray⟩, .int .i64 wl] 42)) := (Below.refl _ W1).alloc (Nat.le_refl _) _
      have HC3 := veil ((unveil HC2).below hb2)
      have HZ3 := veil (((unveil HF1).box (unveil HZ0) (by decide) (by omega)).below hb2)
      have HF3 := veil (((unveil HF0).trans (unveil HF1)).trans (FrE.below hb2 (Nat.le_of_lt (unveil HC2).lt)))
      have HW3 : Hid (Bk (W1.alloc (.cells #[.int .i64 wk, .string ⟨wsx.toArray⟩, .int .i64 wvx, .int .i64 wt, .string ⟨wf.toArray⟩, .int .i64 wl] 42)) W1.heap.size 42 #[.int .i64 wk, .string ⟨wsx.toArray⟩, .int .i64 wvx, .int .i64 wt, .string ⟨wf.toArray⟩, .int .i64 wl]) := Bk.new _ _ _
      have hWB : w.heap.size < W1.heap.size := ((unveil HF1).box (unveil HZ0) (by decide) (by omega)).lt
      clear hb2 HC2 HF1
      generalize (W1.alloc (.cells #[.int .i64 wk, .string ⟨wsx.toArray⟩, .int .i64 wvx, .int .i64 wt, .string ⟨wf.toArray⟩, .int .i64 wl] 42)) = W2 at *
      generalize W1.heap.size = WB at *
      obtain ⟨crv3, hX3, hL3, hp3⟩ := id (unveil HC3)
      have HSK := veil (skip_any hX3 [40] (by simp) hl hws)
      have HL3 := veil hL3
      have HP3 := veil hp3
      have hR3 := (unveil HC3).lt
      obtain ⟨csR, hbkR⟩ := (unveil HC3).bk
      have HBR := veil hbkR
      clear hX3 hL3 hbkR hp3
      cases hQ : sgW (nxt ws (p + 1)) == [40]
      · have HGF := veil (unveil HVR hQ)
        rw [hQ] at HSK
        simp only [Bool.false_eq_true, if_false] at HSK
        clear HVR HAR HA hQ
        go_upto_region 8 with (go_at_call 67; refine (unveil HSK).mono ?_; rintro e W3 ⟨rfl, hf4, hx4⟩; have HF4 := veil hf4; have HC4 : Hid (Cx R wv ws tw W3 (p + 1) cr) := ⟨_, hx4, LvC.fr hf4 10 tw (unveil HL3), (unveil HP3)⟩; clear hf4 hx4)
        have HZ4 := veil ((unveil HF4).box (unveil HZ3) (by decide) (by omega))
        have HW4 := veil ((unveil HF4).box (unveil HW3) (by decide) (by omega))
        have HF5 := veil ((unveil HF3).trans (unveil HF4))
        clear HSK HC3 HZ3 HW3 HF3
        have w0 := (unveil HW4).cell 0
        have w1 := (unveil HW4).cell 1
        have w2 := (unveil HW4).cell 2
        have w3 := (unveil HW4).cell 3
        have w4 := (unveil HW4).cell 4
        have w5 := (unveil HW4).cell 5
        have wlt := (unveil HW4).lt
        simp only [List.getElem?_toArray, List.getElem?_cons_zero, List.getElem?_cons_succ] at w0 w1 w2 w3 w4 w5
        obtain ⟨⟨z0, z1, z2, z3, z4, z5, z6⟩, zl, ⟨g0, g1, g2, g3, g4, g5, g6⟩⟩ := ex_cells (unveil HZ4)
        go_wp2_with fail
        obtain ⟨r1, r2⟩ := PrP.fin (x := .mk 2 0 0 0 wsx [] wl) (q := none) (c := 0) hR (unveil HC4) (unveil HZ4) (unveil HF5) (Kids.nil rfl _) (unveil HGF) (fun l h => by cases h; rfl) (Nat.le_succ _) true rfl _ rfl
        exact bodyPost_ret (res_ex (f := Tryz.f98) (i := 3) rfl rfl r1 rfl) rfl r2

      · have HG0 := veil (fun f p2 cr2 o l => unveil HAR f p2 cr2 o l hQ)
        have HIN2 : Hid (p + 1 < ws.length) := sg_in (by intro e; rw [e] at hQ; cases hQ)
        rw [hQ] at HSK
        simp only [if_true] at HSK
        clear HVR HAR hQ
        go_upto_region 9 with (go_at_call 67; refine (unveil HSK).mono ?_; rintro e W3 ⟨rfl, hf4, hx4⟩; have HF4 := veil hf4; have HC4 : Hid (Cx R wv ws tw W3 (p + 1 + 1) cr) := ⟨_, hx4, LvC.fr hf4 10 tw (unveil HL3), unveil HIN2, Nat.le_succ_of_le (unveil HP3).2⟩; clear hf4 hx4)
        have HZ4 := veil ((unveil HF4).box (unveil HZ3) (by decide) (by omega))
        have HW4 := veil ((unveil HF4).box (unveil HW3) (by decide) (by omega))
        have HF5 := veil ((unveil HF3).trans (unveil HF4))
        clear HSK HC3 HZ3 HW3 HF3
        have hsz3 : w.heap.size < W3.heap.size := (unveil HZ4).lt
        have hR4 := (unveil HC4).lt
        have HAA := veil ((unveil HA) (p + 1 + 1) (by omega) W3 cr (unveil HC4))
        go_upto_region 10 with (go_at_call 124; refine (unveil HAA).mono ?_; rintro e W4 ⟨l, lp, lc, o, p2, cr2, f, rfl, hg, h0, h1, hk, hc, hf, hll⟩; have HG := veil (And.intro hg (And.intro h0 h1)); have HK := veil hk; have HC5 := veil hc; have HF6 := veil hf; have HLL := veil hll; clear hg h0 h1 hk hc hf hll)
        have HZ5 := veil ((unveil HF6).box (unveil HZ4) (by decide) (by omega))
        have HW5 := veil ((unveil HF6).box (unveil HW4) (by decide) (by omega))
        have HF7 := veil ((unveil HF5).trans (unveil HF6))
        have HPC := veil (gM_cr (nxt ws) _ _ _ _ _ _ _ (unveil HG).1)
        have HGN := veil (unveil HG0 _ _ _ _ _ (unveil HG).1 (unveil HG).2.1 (unveil HG).2.2)
        have HPX := veil (unveil HP0)
        have HK5 : Hid (Kids W4 (fun g => w.heap.size < g) (.mk 8 0 0 0 wsx l wl) lp) := (Kids.of (x := .mk 8 0 0 0 wsx l wl) (unveil HK)).mono (fun g _ h => by omega)
        have HLL2 := unveil HLL
        have HB : Hid (Option.isSome o = (o.map (fun _ => [PE.mk 8 0 0 0 wsx l wl])).isSome) := by cases o <;> rfl
        have HO : Hid (∀ l', o.map (fun _ => [PE.mk 8 0 0 0 wsx l wl]) = some l' → l' = [PE.mk 8 0 0 0 wsx l wl]) := by
          intro l' h
          cases o with
          | none => cases h
          | some _ => cases h; rfl
        clear HAA HZ4 HW4 HF5 HF6 HC4 HG HK HG0 HA
        generalize hOS : Option.isSome o = OS at *
        clear hOS
        have w0 := (unveil HW5).cell 0
        have w1 := (unveil HW5).cell 1
        have w2 := (unveil HW5).cell 2
        have w3 := (unveil HW5).cell 3
        have w4 := (unveil HW5).cell 4
        have w5 := (unveil HW5).cell 5
        have wlt := (unveil HW5).lt
        simp only [List.getElem?_toArray, List.getElem?_cons_zero, List.getElem?_cons_succ] at w0 w1 w2 w3 w4 w5
        obtain ⟨⟨z0, z1, z2, z3, z4, z5, z6⟩, zl, ⟨g0, g1, g2, g3, g4, g5, g6⟩⟩ := ex_cells (unveil HZ5)
        by_cases hn : 8 < l.length
        · have hni : (8 : Int) < (l.length : Int) := by omega
          rw [if_pos hn] at HGN
          obtain ⟨crv5, hX5, hL5, hp5⟩ := unveil HC5
          have HX5 := veil hX5
          have HL5 := veil hL5
          have HP5 := veil hp5
          obtain ⟨⟨c0, c1, c2, c3, c4, c5, c6, c7, c8, c9⟩, hlr, _⟩ := hX5.cells
          have f9 := hX5.b.frozen 9
          obtain ⟨cq, cqc, hcrv⟩ := row_sliceX hX5.r
          rw [hcrv] at c9
          have HCRV := veil hcrv
          clear hX5 hL5 hp5 hcrv
          have HGO : Hid (∀ V v' w', V = W4.drew.alloc (.cells #[.int .i64 wl] 3) → w'.ownsRow (R + 1) 3 1 v' (cr2.length + 1) (cr2.map (fun x => .int .i64 x) ++ [.int .i64 wl]) → V.grownBy w' crv5.ownBlock → RdX (w'.setCell ⟨R, 9, none⟩ v') R wv ws tw v' p2 (nxt ws p2) (cr2 ++ [wl]) ∧ FrE R W4 (w'.setCell ⟨R, 9, none⟩ v')) := fun V v' w' e ho hg => (unveil HX5).crowd (W1 := V) (by rw [e]; exact ((Below.refl _ W4).drew).alloc (Nat.le_refl _) _) hg ho
          have HOW : Hid ((W4.drew.alloc (.cells #[.int .i64 wl] 3)).ownsRow (R + 1) 3 1 crv5 cr2.length (cr2.map fun x => .int .i64 x)) := ((unveil HX5).below (((Below.refl _ W4).drew).alloc (Nat.le_refl _) _)).r
          have HRB : Hid (∀ w', (W4.drew.alloc (.cells #[.int .i64 wl] 3)).grownBy w' crv5.ownBlock → Bk w' R 70 _) := fun w' hg => (hg.block R (Nat.lt_of_lt_of_le (unveil HX5).b.lt (((Below.refl _ W4).drew).alloc (Nat.le_refl _) (.cells #[.int .i64 wl] 3)).size) (fun e => by have := (row_turnX (unveil HX5).r R e.symm).1; omega)).trans ((unveil HX5).below (((Below.refl _ W4).drew).alloc (Nat.le_refl _) _)).b
          rw [unveil HCRV] at HOW HRB HGO
          have HRZ : Hid (R + 1 ≤ (W4.drew.alloc (.cells #[.int .i64 wl] 3)).heap.size) := Nat.lt_of_lt_of_le (unveil HX5).b.lt (((Below.refl _ W4).drew).alloc (Nat.le_refl _) (.cells #[.int .i64 wl] 3)).size
          have HB5 := veil (unveil HX5).b
          have hcl : cr2.length ≤ 1000000 := by have := (unveil HP5).2; have := (unveil HP5).1; omega
          obtain ⟨i0, hi, hi0, hi1, hi2⟩ := info_parts infoInt
          go_upto_region 11 with fail
          go_region_law (refine step_own_at rfl _ _ 68 rfl (R + 1) 3 i0 _ 1 8 Tryz.underlying68 hi hi0 hi1 hi2 rfl (by decide) _ _ _ rfl (unveil HOW) _ 1 1 [.int .i64 wl] rfl rfl (cell_one_new _ _ _) (by intro u hu; simp at hu; subst hu; rfl) (by unfold maxLen; omega) (by omega) (unveil HRZ) ?_; intro v5 W5 hown5 hg5; obtain ⟨vq, vc, rfl⟩ := row_sliceX hown5; have HGG := veil (And.intro hown5 hg5); have q9 := (unveil HRB W5 hg5).cell 9; have ql := (unveil HRB W5 hg5).lt; have qf := (unveil HRB W5 hg5).frozen 9; clear hown5 hg5)
          all_goals (
            obtain ⟨hown5, hg5⟩ := unveil HGG
            obtain ⟨hx9, hf9⟩ := unveil HGO _ _ _ rfl hown5 hg5
            have HC8 : Hid (Cx R wv ws tw (W5.setCell ⟨R, 9, none⟩ (.slice vq (cr2.length + 1) vc)) p2 (cr2 ++ [wl])) := ⟨_, hx9, LvC.fr hf9 10 tw (unveil HL5), (unveil HP5).1, by rw [List.length_append]; have := (unveil HPC).2; have := (unveil HPX).2; show cr2.length + 1 ≤ p2; omega⟩
            have HF8 := veil hf9
            clear hown5 hg5 hx9 hf9 q9 ql qf HGG HGO HOW HRB c0 c1 c2 c3 c4 c5 c6 c7 c8 c9 hlr f9 hi hi0 hi1 hi2 z0 z1 z2 z3 z4 z5 z6 zl g0 g1 g2 g3 g4 g5 g6 w0 w1 w2 w3 w4 w5 wlt HX5 HL5 HC5
            generalize (W5.setCell ⟨R, 9, none⟩ (.slice vq (cr2.length + 1) vc)) = W6 at *
            have HZ8 := veil ((unveil HF8).box (unveil HZ5) (by decide) (by omega))
            have HW8 := veil ((unveil HF8).box (unveil HW5) (by decide) (by omega))
            have HF9 := veil ((unveil HF7).trans (unveil HF8))
            have HK8 := veil ((unveil HK5).fr (unveil HF8) (unveil HB5))
            clear HZ5 HW5 HF7 HF8 HK5 HB5
            have w0 := (unveil HW8).cell 0
            have w1 := (unveil HW8).cell 1
            have w2 := (unveil HW8).cell 2
            have w3 := (unveil HW8).cell 3
            have w4 := (unveil HW8).cell 4
            have w5 := (unveil HW8).cell 5
            have wlt := (unveil HW8).lt
            simp only [List.getElem?_toArray, List.getElem?_cons_zero, List.getElem?_cons_succ] at w0 w1 w2 w3 w4 w5
            obtain ⟨⟨z0, z1, z2, z3, z4, z5, z6⟩, zl, ⟨g0, g1, g2, g3, g4, g5, g6⟩⟩ := ex_cells (unveil HZ8)
            go_wp2_with fail
            obtain ⟨r1, r2⟩ := PrP.fin (x := .mk 8 0 0 0 wsx l wl) (q := lp) (c := lc) hR (unveil HC8) (unveil HZ8) (unveil HF9) (unveil HK8) (unveil HGN) (unveil HO) (by have := (unveil HPC).1; omega) _ (unveil HB) _ rfl
            exact bodyPost_ret (res_ex (f := Tryz.f98) (i := 3) rfl rfl r1 rfl) rfl r2)
        · have hni : ¬ (8 : Int) < (l.length : Int) := by omega
          rw [if_neg hn] at HGN
          go_wp2_with fail
          obtain ⟨r1, r2⟩ := PrP.fin (x := .mk 8 0 0 0 wsx l wl) (q := lp) (c := lc) hR (unveil HC5) (unveil HZ5) (unveil HF7) (unveil HK5) (unveil HGN) (unveil HO) (by have := (unveil HPC).1; omega) _ (unveil HB) _ rfl
          exact bodyPost_ret (res_ex (f := Tryz.f98) (i := 3) rfl rfl r1 rfl) rfl r2

  · have HGF := veil (al_num (cr := cr) h3)
    have HIN : Hid (p < ws.length) := unveil HKI (by intro e; rw [e] at h3; cases h3)
    have HTA := veil (unveil HTK (unveil HIN))
    clear HTK HKI HA
    generalize hxw : nxt ws p = xw at *
    obtain ⟨wk, wsx, wvx, wt, wf, wl⟩ := xw
    simp only at h3 c2 HGF
    unfold wdV wdC at HTA
    go_upto_region 4 with (go_at_call 66; refine (unveil HTA).mono ?_; rintro e W1 ⟨rfl, hf1, hx1⟩; have HF1 := veil hf1; have HC2 : Hid (Cx R wv ws tw W1 (p + 1) cr) := ⟨_, hx1, LvC.fr hf1 10 tw (unveil HL0), unveil HIN, Nat.le_succ_of_le (unveil HP0).2⟩; clear hf1 hx1)
    clear c0 c1 c2 c3 c4 c5 c6 c7 c8 c9 hlr HTA
    have hb2 : Below W1.heap.size W1 (W1.alloc (.cells #[.int .i64 wk, .string ⟨wsx.toArray⟩, .int .i64 wvx, .int .i64 wt, .string ⟨wf.toArray⟩, .int .i64 wl] 42)) := (Below.refl _ W1).alloc (Nat.le_refl _) _
    have HC3 := veil ((unveil HC2).below hb2)
    have HZ3 := veil (((unveil HF1).box (unveil HZ0) (by decide) (by omega)).below hb2)
    have HF3 := veil (((unveil HF0).trans (unveil HF1)).trans (FrE.below hb2 (Nat.le_of_lt (unveil HC2).lt)))
    have HW3 : Hid (Bk (W1.alloc (.cells #[.int .i64 wk, .string ⟨wsx.toArray⟩, .int .i64 wvx, .int .i64 wt, .string ⟨wf.toArray⟩, .int .i64 wl] 42)) W1.heap.size 42 #[.int .i64 wk, .string ⟨wsx.toArray⟩, .int .i64 wvx, .int .i64 wt, .string ⟨wf.toArray⟩, .int .i64 wl]) := Bk.new _ _ _
    have hWB : w.heap.size < W1.heap.size := ((unveil HF1).box (unveil HZ0) (by decide) (by omega)).lt
    clear hb2 HC2 HF1
    generalize (W1.alloc (.cells #[.int .i64 wk, .string ⟨wsx.toArray⟩, .int .i64 wvx, .int .i64 wt, .string ⟨wf.toArray⟩, .int .i64 wl] 42)) = W2 at *
    generalize W1.heap.size = WB at *
    have w0 := (unveil HW3).cell 0
    have w1 := (unveil HW3).cell 1
    have w2 := (unveil HW3).cell 2
    have w3 := (unveil HW3).cell 3
    have w4 := (unveil HW3).cell 4
    have w5 := (unveil HW3).cell 5
    have wlt := (unveil HW3).lt
    simp only [List.getElem?_toArray, List.getElem?_cons_zero, List.getElem?_cons_succ] at w0 w1 w2 w3 w4 w5
    obtain ⟨⟨z0, z1, z2, z3, z4, z5, z6⟩, zl, ⟨g0, g1, g2, g3, g4, g5, g6⟩⟩ := ex_cells (unveil HZ3)
    go_wp2_with fail
    obtain ⟨r1, r2⟩ := PrP.fin (x := .mk 1 0 wt wvx [] [] wl) (q := none) (c := 0) hR (unveil HC3) (unveil HZ3) (unveil HF3) (Kids.nil rfl _) (unveil HGF) (fun l h => by cases h; rfl) (Nat.le_succ _) true rfl _ rfl
    exact bodyPost_ret (res_ex (f := Tryz.f98) (i := 3) rfl rfl r1 rfl) rfl r2

end Go.Proofs.YtmpkgjonbjpohaaGreatDoor
