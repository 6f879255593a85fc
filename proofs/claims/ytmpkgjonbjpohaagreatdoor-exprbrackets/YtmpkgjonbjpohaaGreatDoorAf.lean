/-
  Package expr: Parse.
-/
import Derived.Test.YtmpkgjonbjpohaaGreatDoorY10
import Derived.Test.YtmpkgjonbjpohaaGreatDoorY8
import Derived.BigRegion
import Derived.BigRegionIn
namespace Go.Proofs.YtmpkgjonbjpohaaGreatDoor
open Go Go.RowKit
attribute [local go_sem] Oper.semAt_some
set_option linter.unusedVariables false
set_option linter.unusedSimpArgs false

theorem ownsRow_succX {W : World} {base n size : Nat} {e : TypeId} {v : Value} {xs : List Value} (h : W.ownsRow base e size v (n + 1) xs) : ∃ g cap, v = .slice (some ⟨g, 0, none⟩) (n + 1) cap := by
  rcases h.2 with ⟨_, h0⟩ | ⟨g, cap, cur, h, _⟩
  · omega
  · exact ⟨_, _, h⟩
theorem hmixP : Tryz.prog.follows .mixedOrders = true := by kernel_rfl
/-- Blocks from there on are what they were. -/
def UpS (n : Nat) (A B : World) : Prop := ∀ (j : Nat) (o : Obj), n ≤ j → A.heap[j]? = some o → B.heap[j]? = some o
theorem UpS.set {n : Nat} {A B : World} (h : UpS n A B) (b i : Nat) (v : Value) (hb : b < n) : UpS n A (B.setCell ⟨b, i, none⟩ v) := fun j o hj ho => (Below.heap_setCell B ⟨b, i, none⟩ v j (by simp only [ne_eq]; omega)).trans (h j o hj ho)
/-- What Parse tells of what was read. -/
inductive PaT (ws : List Wd) : Option (List PE) → PE → Nat → List Int → PE → Int → Int → Int → Prop where
  | bad (x : PE) (p' : Nat) (cr : List Int) : PaT ws none x p' cr (.mk 0 0 0 0 [] [] 0) 0 130 (lnM ws p')
  | deep (x : PE) (p' : Nat) (cr : List Int) (h : dpP x 1 = true) : PaT ws (some [x]) x p' cr (.mk 0 0 0 0 [] [] 0) 0 131 x.line
  | crowd (x : PE) (p' : Nat) (c : Int) (cr : List Int) (h : dpP x 1 = false) : PaT ws (some [x]) x p' (c :: cr) (.mk 0 0 0 0 [] [] 0) 0 133 c
  | good (x : PE) (p' : Nat) (h : dpP x 1 = false) : PaT ws (some [x]) x p' [] x p' 0 0
/-- What Parse tells. -/
def PaR (w : World) (ws : List Wd) (p : Nat) (e : Ending) (w' : World) : Prop :=
  ∃ (f : Nat) (o : Option (List PE)) (x : PE) (p' : Nat) (cr : List Int) (X : PE) (at' er ln : Int) (q : Option Addr) (c : Nat),
    gM (nxt ws) f .exp p [] = some (o, p', cr) ∧ PaT ws o x p' cr X at' er ln ∧ e = .returned (.tuple #[.agg (exC X q c), .int .i64 at', .int .i64 er, .int .i64 ln]) ∧ Kids w' (fun g => w.heap.size ≤ g) X q ∧ Below w.heap.size w w'
set_option maxRecDepth 100000 in
set_option maxHeartbeats 8000000 in
theorem Parse_any (w : World) (wv : Value) (ws : List Wd) (p : Nat) (hW : WdG w.heap.size w wv ws) (hgl : Gl w) (hop : Ops w) (hmo : Mo w) (hgm : 10 < w.heap.size) (hl : ws.length ≤ 5000) (hws : ∀ y ∈ ws, y.s.length ≤ 140737488355328) (hp : p ≤ ws.length) :
    Calls Tryz.prog 19 #[wv, .int .i64 p] w (PaR w ws p) := by
  have HP0 := veil (PaS.new w)
  have HNR : Hid (∀ W, Below w.heap.size w W → Calls Tryz.prog 31 #[wv, .int .i64 p] W fun e w' => ∃ tw, e = .returned (.pointer (some ⟨W.heap.size, 0, none⟩)) ∧ Cx W.heap.size wv ws tw w' p [] ∧ Below W.heap.size W w') := fun W hb => newReader_any W wv ws p ((hW.below hb).mono hb.size) (hgl.below hb hgm) (hop.below hb (by have := hgl.size; show 0 < _; omega)) (hmo.below hb hgm) (Nat.lt_of_lt_of_le hgm hb.size) (by omega) hws hp
  have HEX : Hid (∀ (R : Nat) (tw : Value) (W : World) (cr : List Int), Cx R wv ws tw W p cr → Calls Tryz.prog 32 #[.pointer (some ⟨R, 0, none⟩)] W (PrP R wv ws tw .exp p cr W)) := fun R tw W cr h => expr_read R wv ws tw (by omega) hws p W cr h
  obtain ⟨pw, cw, hwv, _⟩ := hW
  have hp1 : ¬ ((p : Int) < 0) := by omega
  have hp2 : ¬ ((p : Int) > (ws.length : Int)) := by omega
  have hp3 : ¬ ((ws.length : Int) > 5000) := by omega
  clear hgl hop hmo
  subst hwv
  unfold zrE at HP0
  refine (callsIn_wide (n := 4)).1 ?_
  refine callsIn_of_wp_marks Tryz.func19 rfl trivial ?_ rfl
  simp only [Tryz.ntmps19, List.size_toArray, List.length_cons, List.length_nil, Nat.reduceAdd, Nat.reduceSub, Array.replicate_succ, Array.replicate_zero, List.push_toArray, List.append_toArray, List.nil_append, List.cons_append]
  refine wpIn_wide.2 ?_
  go_upto_region 1 with fail
  have hz0 : ((((w.alloc (.cells #[.int .i64 0, .int .i64 0, .int .i64 0, .int .i64 0, .string ⟨#[]⟩, .slice none 0 0, .int .i64 0] 24)).alloc (.cells #[.int .i64 0] 3)).alloc (.cells #[.int .i64 0] 27)).alloc (.cells #[.int .i64 0] 3)).heap.size = w.heap.size + 4 := by simp
  generalize ((((w.alloc (.cells #[.int .i64 0, .int .i64 0, .int .i64 0, .int .i64 0, .string ⟨#[]⟩, .slice none 0 0, .int .i64 0] 24)).alloc (.cells #[.int .i64 0] 3)).alloc (.cells #[.int .i64 0] 27)).alloc (.cells #[.int .i64 0] 3)) = W0 at *
  go_upto_region 4 with (go_at_call 31; refine (unveil HNR W0 (unveil HP0).be).mono ?_; rintro e W1 ⟨tw, rfl, hcx, hb⟩; have HCX1 := veil hcx; have HP1 := veil ((unveil HP0).keep (hb.mono (by omega))); clear hcx hb)
  rw [hz0] at HCX1
  have HE1 := veil (unveil HEX (w.heap.size + 4) tw W1 [] (unveil HCX1))
  have hR1 := (unveil HCX1).lt
  clear HNR HEX HP0 HCX1
  go_upto_region 5 with (go_at_call 32; refine (unveil HE1).mono ?_; rintro e W2 ⟨x, q, c, o, p', cr, f, rfl, hg, ho, hk, hC, hF, hpp⟩; have HG := veil hg; have HO := veil ho; have HK := veil hk; have HC2 := veil hC; have HP2 := veil ((unveil HP1).keep hF.be); clear hg ho hk hC hF hpp HE1 HP1; obtain ⟨x0, x1, x2, x3, x4, x5, x6⟩ := x; simp only [exC, PE.is, PE.op, PE.k, PE.v, PE.nm, PE.l, PE.line])
  have HB : Hid (Bk (W2.alloc (.cells #[.int .i64 x0, .int .i64 x1, .int .i64 x2, .int .i64 x3, .string ⟨x4.toArray⟩, .slice q x5.length c, .int .i64 x6] 24)) W2.heap.size 24 (exC (.mk x0 x1 x2 x3 x4 x5 x6) q c)) := Bk.new W2 _ _
  have hb3 : Below W2.heap.size W2 (W2.alloc (.cells #[.int .i64 x0, .int .i64 x1, .int .i64 x2, .int .i64 x3, .string ⟨x4.toArray⟩, .slice q x5.length c, .int .i64 x6] 24)) := (Below.refl _ W2).alloc (Nat.le_refl _) _
  have HC3 := veil ((unveil HC2).below hb3)
  have HK3 := veil ((unveil HK).below hb3)
  have hR2 := (unveil HC2).lt
  have HP3 := veil ((unveil HP2).keep (hb3.mono (by omega)))
  have hz3 : (W2.alloc (.cells #[.int .i64 x0, .int .i64 x1, .int .i64 x2, .int .i64 x3, .string ⟨x4.toArray⟩, .slice q x5.length c, .int .i64 x6] 24)).heap.size = W2.heap.size + 1 := World.size_alloc _ _
  clear HC2 HK HP2 hb3
  generalize (W2.alloc (.cells #[.int .i64 x0, .int .i64 x1, .int .i64 x2, .int .i64 x3, .string ⟨x4.toArray⟩, .slice q x5.length c, .int .i64 x6] 24)) = W3 at *
  obtain ⟨crv, hX, hL, hpw, hcl⟩ := unveil HC3
  have HX3 := veil hX
  cases o with
  | none =>
    have HLN := veil (line_any hX hpw (by omega))
    clear hX hL
    go_upto_region 6 with fail
    go_wp2_with (go_at_call 33; refine (unveil HLN).mono ?_; rintro e W4 ⟨rfl, hb4⟩; have HP4 := veil ((unveil HP3).keep (hb4.mono (by omega))); clear hb4; obtain ⟨⟨f0, f1, f2, f3, f4, f5, f6⟩, ⟨c0, c1, c2, c3, c4, c5, c6⟩, ⟨g0, g1, g2⟩, ⟨d0, d1, d2⟩, hlt⟩ := (unveil HP4).cells)
    obtain ⟨r1, _⟩ := (unveil HP4).put (.int .i64 0) (.int .i64 0) (.int .i64 0) (.int .i64 0) (.string ⟨#[]⟩) (.slice none 0 0) (.int .i64 0) (.int .i64 0) (.int .i64 130) (.int .i64 (lnM ws p')) _ rfl
    exact ⟨_, res_p (f := Tryz.f19) rfl rfl rfl rfl rfl r1.x rfl r1.a r1.e r1.l, f, none, .mk x0 x1 x2 x3 x4 x5 x6, p', cr, .mk 0 0 0 0 [] [] 0, 0, 130, lnM ws p', none, 0, unveil HG, .bad _ _ _, rfl, Kids.nil rfl none, r1.be⟩
  | some lx =>
    obtain rfl := unveil HO _ rfl
    have hll : p' ≤ 1000000 := by omega
    have hln := exp_ln (unveil HG) hll
    obtain ⟨t, et, eg, eo, eq, ec, hli⟩ := le_of (SizeOf.sizeOf (PE.mk x0 x1 x2 x3 x4 x5 x6) + 1) (PE.mk x0 x1 x2 x3 x4 x5 x6) W2.heap.size 0 q c (by omega) hln ((unveil HK3).keep (fun g cs fz _ h => ⟨h, trivial⟩)) ⟨_, _, unveil HB, fun j u hj => by rw [Nat.zero_add]; exact hj⟩
    have HT := veil et
    have HLI := veil hli
    have hb4 : Below W3.heap.size W3 (W3.alloc (.cells #[.pointer (some ⟨W2.heap.size, 0, none⟩)] 46)) := (Below.refl _ W3).alloc (Nat.le_refl _) _
    have HP4 := veil ((unveil HP3).keep (hb4.mono (by omega)))
    have HC4 := veil ((unveil HC3).below hb4)
    have HB4 := veil ((unveil HB).below hb4)
    have HK4 := veil ((unveil HK3).below hb4)
    have HLI4 : Hid (t.Lies (W3.alloc (.cells #[.pointer (some ⟨W2.heap.size, 0, none⟩)] 46))) := LE.Lies.keep (fun g cs fz e => (hb4.block g (Array.getElem?_eq_some_iff.1 e).1).trans e) t hli
    have HPT := veil (Bk.new W3 46 #[.pointer (some ⟨W2.heap.size, 0, none⟩)])
    have hz4 : (W3.alloc (.cells #[.pointer (some ⟨W2.heap.size, 0, none⟩)] 46)).heap.size = W2.heap.size + 2 := by rw [World.size_alloc, hz3]
    have HWI := veil (within_any ⟨W2.heap.size, 0, none⟩ W3)
    rw [hz3] at HPT HWI
    clear hX hL HX3 hln hli hb4 HP3 HC3 HB HK3
    go_upto_region 7 with fail
    go_wp2_with (go_at_call 24; refine (unveil HWI).mono ?_; rintro e W4 ⟨rfl, rfl⟩)
    generalize (W3.alloc (.cells #[.pointer (some ⟨W2.heap.size, 0, none⟩)] 46)) = W4 at *
    have HBE : Hid (Below w.heap.size w W4) := (unveil HP4).be
    have HSTOP := veil (within_stops 3 (W2.heap.size + 1) 0 t W4 (Nat.zero_le _) (by rw [eg, eo]; exact unveil HPT) (unveil HLI4))
    have hz2 := hz4
    refine (wpIn_wide (n := 4)).1 ?_
    refine wpIn_rangeFunc_ownG (k := 0) (G := G60) rfl (by decide) (gf := 48) (lb := #[.pointer (some ⟨W2.heap.size + 1, 0, none⟩)]) rfl trivial (enters_of Tryz.func48 (by kernel_rfl) rfl)
      (unveil HSTOP) KE.trans (fun W lb o o' hlb hlo ho _ => KE.put hlo ho (Nat.zero_le _) o') (Below.refl _ _) (fun _ => rfl)
      (fun pre W => Below W4.heap.size W4 W ∧ G60 pre) (fun c pre W => c = .ret ∧ ¬ G60 pre ∧ PaS w W #[.int .i64 0, .int .i64 0, .int .i64 0, .int .i64 0, .string ⟨#[]⟩, .slice none 0 0, .int .i64 0] (.int .i64 0) (.int .i64 131) (.int .i64 x6))
      ?hI ?hIx (fun pre W h => h.2) ⟨Below.refl _ _, fun y hy => by cases hy⟩
      (fun y => { tmps := #[.slice pw ws.length cw, .int .i64 p, undef, undef, .pointer (some ⟨w.heap.size, 0, none⟩), .pointer (some ⟨w.heap.size + 1, 0, none⟩), .pointer (some ⟨w.heap.size + 1 + 1, 0, none⟩), .pointer (some ⟨w.heap.size + 1 + 1 + 1, 0, none⟩), .pointer (some ⟨w.heap.size + 4, 0, none⟩), .pointer (some ⟨W2.heap.size, 0, none⟩), .bool true, undef, .int .i64 y.2, .int .i64 p, .bool false, .bool false, .int .i64 p, .slice pw ws.length cw, .int .i64 ws.length, .bool false, .bool false, .bool false, .slice pw ws.length cw, .int .i64 ws.length, .bool false, .bool false, undef, .slice pw ws.length cw, .int .i64 p, .pointer (some ⟨w.heap.size + 4, 0, none⟩), .tuple #[.agg #[.int .i64 x0, .int .i64 x1, .int .i64 x2, .int .i64 x3, .string ⟨x4.toArray⟩, .slice q x5.length c, .int .i64 x6], .bool true], .pointer (some ⟨w.heap.size + 4, 0, none⟩), .tuple #[.agg #[.int .i64 x0, .int .i64 x1, .int .i64 x2, .int .i64 x3, .string ⟨x4.toArray⟩, .slice q x5.length c, .int .i64 x6], .bool true], .agg #[.int .i64 x0, .int .i64 x1, .int .i64 x2, .int .i64 x3, .string ⟨x4.toArray⟩, .slice q x5.length c, .int .i64 x6], .bool true, .bool true, .bool false, undef, undef, undef, .func (.func 48) #[] #[.pointer (some ⟨W2.heap.size + 1, 0, none⟩)], .pointer (some ⟨y.1.g, y.1.o, none⟩), .int .i64 y.2, undef, undef, undef, undef, undef, undef, undef, undef, undef, undef, undef, undef, undef, undef, undef, undef, undef, undef, undef, undef, undef, undef, undef], defers := [] })
      ?assign ?body ?done ?stop
    case hI =>
      exact ⟨fun s A B row hs hg' hr => ⟨hs.1.grown hg' (hs.1.size) (fun r e => (hr r e).1), hs.2⟩, fun s A hs => ⟨hs.1.drew, hs.2⟩⟩
    case hIx =>
      intro cc
      refine ⟨fun s A B row hs hg' hr => ⟨hs.1, hs.2.1, hs.2.2.keep ((Below.refl _ A).grown hg' ?_ (fun r e => ?_))⟩, fun s A hs => ⟨hs.1, hs.2.1, hs.2.2.keep ((Below.refl _ A).drew)⟩⟩
      · have := hs.2.2.l.lt
        omega
      · have := (hr r e).1
        omega
    case assign =>
      intro l' y W' K hK
      simp only [encE] at hK ⊢
      gi_wp2
      simpa using hK
    case body =>
      rintro l' pre y W5 hz5 hno ⟨hbe, hg6⟩ hpre
      have HP5 := veil ((unveil HP4).keep (hbe.mono (by omega)))
      have HB5 := veil ((unveil HB4).below hbe)
      have HBE5 := veil hbe
      have HG6 := veil hg6
      have hlr : w.heap.size + 4 < W4.heap.size := by omega
      have hle : W2.heap.size < W4.heap.size := by omega
      clear hbe hg6 hno hpre hz4 hz2 hz3 hz0
      by_cases hd : y.2 ≤ 60
      · have hd1 : ¬ ((y.2 : Int) > 60) := by omega
        gi_wp2
        exact ⟨KeepsFrom.refl _ _, KeepsO.refl _ _ _, KE.refl _ _, unveil HBE5, fun z hz => by
          rcases List.mem_append.1 hz with h | h
          · exact unveil HG6 z h
          · obtain rfl : z = y := by simpa using h
            exact hd⟩
      · have hd1 : (y.2 : Int) > 60 := by omega
        have HNG : Hid (¬ G60 (pre ++ [y])) := fun h => hd (h y (by simp))
        obtain ⟨⟨f0, f1, f2, f3, f4, f5, f6⟩, ⟨c0, c1, c2, c3, c4, c5, c6⟩, ⟨g0, g1, g2⟩, ⟨d0, d1, d2⟩, hlt⟩ := (unveil HP5).cells
        obtain ⟨⟨b0, b1, b2, b3, b4, b5, b6⟩, hbl, _⟩ := ex_cells (unveil HB5)
        simp only [PE.is, PE.op, PE.k, PE.v, PE.nm, PE.l, PE.line] at b0 b1 b2 b3 b4 b5 b6
        have HFIN : Hid (∀ W', W' = ((((((((((W5.setCell ⟨w.heap.size, 0, none⟩ (.int .i64 0)).setCell ⟨w.heap.size, 1, none⟩ (.int .i64 0)).setCell ⟨w.heap.size, 2, none⟩ (.int .i64 0)).setCell ⟨w.heap.size, 3, none⟩ (.int .i64 0)).setCell ⟨w.heap.size, 4, none⟩ (.string ⟨#[]⟩)).setCell ⟨w.heap.size, 5, none⟩ (.slice none 0 0)).setCell ⟨w.heap.size, 6, none⟩ (.int .i64 0)).setCell ⟨w.heap.size + 1, 0, none⟩ (.int .i64 0)).setCell ⟨w.heap.size + 1 + 1, 0, none⟩ (.int .i64 131)).setCell ⟨w.heap.size + 1 + 1 + 1, 0, none⟩ (.int .i64 x6)) → (∀ B, KeepsFrom B W5 W'.drew) ∧ PaS w W'.drew #[.int .i64 0, .int .i64 0, .int .i64 0, .int .i64 0, .string ⟨#[]⟩, .slice none 0 0, .int .i64 0] (.int .i64 0) (.int .i64 131) (.int .i64 x6)) := fun W' e => by
          obtain ⟨r1, _, _, r4⟩ := (unveil HP5).put (.int .i64 0) (.int .i64 0) (.int .i64 0) (.int .i64 0) (.string ⟨#[]⟩) (.slice none 0 0) (.int .i64 0) (.int .i64 0) (.int .i64 131) (.int .i64 x6) W' e
          exact ⟨fun B => ⟨(r4 B).size, (r4 B).same⟩, r1.keep ((Below.refl _ W').drew)⟩
        gi_wp2
        gi_region
        all_goals (
          gi_wp2
          obtain ⟨q1, q2⟩ := unveil HFIN _ rfl
          exact ⟨q1 _, ko_of (q1 _) (Nat.le_refl _), rfl, unveil HNG, q2⟩)
    case done =>
      rintro D' W6 hD' ⟨hbe, hg6⟩ hKD
      have HDP : Hid (dpP (.mk x0 x1 x2 x3 x4 x5 x6) 1 = false) := by
        have ha := all_dp t 1 (unveil HLI)
        rw [unveil HT] at ha
        rw [Hid, ← ha, List.any_eq_false]
        intro y hy
        have := hg6 y hy
        simp
        omega
      have HKK := veil hKD
      have HP6 := veil ((unveil HP4).keep (hbe.mono (by omega)))
      have HB6 := veil ((unveil HB4).below hbe)
      have HK6 := veil ((unveil HK4).below hbe)
      obtain ⟨crv, hX, _, _, _⟩ := (unveil HC4).below hbe
      obtain ⟨⟨r0, r1, r2, r3, r4, r5, r6, r7, r8, r9⟩, rl, _⟩ := hX.cells
      obtain ⟨qv, cp, rfl⟩ := row_sliceX hX.r
      have HCL : Hid (∀ W, UpS (w.heap.size + 4) W6 W → ((W.cell? ⟨W2.heap.size, 0, none⟩ = some (.int .i64 x0) ∧ W.cell? ⟨W2.heap.size, 1, none⟩ = some (.int .i64 x1) ∧ W.cell? ⟨W2.heap.size, 2, none⟩ = some (.int .i64 x2) ∧ W.cell? ⟨W2.heap.size, 3, none⟩ = some (.int .i64 x3) ∧ W.cell? ⟨W2.heap.size, 4, none⟩ = some (.string ⟨x4.toArray⟩) ∧ W.cell? ⟨W2.heap.size, 5, none⟩ = some (.slice q x5.length c) ∧ W.cell? ⟨W2.heap.size, 6, none⟩ = some (.int .i64 x6)) ∧ W.cell? ⟨w.heap.size + 4, 1, none⟩ = some (.int .i64 p') ∧ W.cell? ⟨w.heap.size + 4, 9, none⟩ = some (.slice qv cr.length cp) ∧ W2.heap.size < W.heap.size ∧ w.heap.size + 4 < W.heap.size)) := fun W hU => by
        have hb : Bk W W2.heap.size 24 (exC (.mk x0 x1 x2 x3 x4 x5 x6) q c) := hU _ _ (by omega) (unveil HB6)
        have hr : Bk W (w.heap.size + 4) 70 _ := hU _ _ (Nat.le_refl _) hX.b
        exact ⟨⟨hb.cell 0, hb.cell 1, hb.cell 2, hb.cell 3, hb.cell 4, hb.cell 5, hb.cell 6⟩, hr.cell 1, hr.cell 9, hb.lt, hr.lt⟩
      have hDN : w.heap.size + 4 < D' := by omega
      have HUP7 : Hid (UpS (w.heap.size + 4) W6 W6.drew) := fun j o hj ho => ho
      have HP7 := veil ((unveil HP6).keep (Below.refl _ W6).drew)
      have HKK7 : Hid (W6.drew.heap[D']? = some (.deferred (some []))) := unveil HKK
      have hlt2 : W2.heap.size < W6.heap.size := (unveil HB6).lt
      cases cr with
      | nil =>
        clear hbe hg6 hKD hX r0 r2 r3 r4 r5 r6 r7 r8 hz4 hz3 hz2 hz0 HP6
        simp only [List.length_nil] at HCL r9
        go_upto_region 13 with fail
        refine wp_region_noPanic (wpIn_wide.1 (wpIn_region_mix (ro := none) (n := 0) (fun W => Hid (UpS (w.heap.size + 4) W6 W))
          [(0, true), (1, true), (2, true), (3, true), (4, true), (5, false), (6, false), (7, false)]
          8 hmixP (by kernel_rfl) (by kernel_rfl) (by kernel_rfl) (by kernel_rfl) (by kernel_rfl) (by kernel_rfl) (fun _ _ _ _ h => h) HUP7 ?_))
        generalize W6.drew = W7 at *
        iterate 5 (
          refine mix_pure _ rfl _ (.inl ⟨rfl, fun W hS => (by obtain ⟨⟨b0, b1, b2, b3, b4, b5, b6⟩, r1, r9, rl, rl2⟩ := unveil HCL W (unveil hS); go_simp; rfl)⟩) (fun B hB => ?_)
          simp only [List.getElem_toArray, List.getElem_cons_zero, List.getElem_cons_succ, Act.put, List.setIfInBounds_toArray, List.set_cons_zero, List.set_cons_succ] at hB
          subst hB)
        obtain ⟨⟨f0, f1, f2, f3, f4, f5, f6⟩, ⟨c0, c1, c2, c3, c4, c5, c6⟩, ⟨g0, g1, g2⟩, ⟨d0, d1, d2⟩, hlt⟩ := (unveil HP7).cells
        refine mix_sole _ rfl (fun K hK => ?_)
        go_simp
        refine hK _ _ (veil ((((((((unveil HUP7).set w.heap.size 0 _ (by omega)).set w.heap.size 1 _ (by omega)).set w.heap.size 2 _ (by omega)).set w.heap.size 3 _ (by omega)).set w.heap.size 4 _ (by omega)).set w.heap.size 5 _ (by omega)).set w.heap.size 6 _ (by omega))) ?_
        clear hK K
        refine mix_sole _ rfl (fun K hK => ?_)
        go_simp
        refine hK _ _ (veil (((((((((unveil HUP7).set w.heap.size 0 _ (by omega)).set w.heap.size 1 _ (by omega)).set w.heap.size 2 _ (by omega)).set w.heap.size 3 _ (by omega)).set w.heap.size 4 _ (by omega)).set w.heap.size 5 _ (by omega)).set w.heap.size 6 _ (by omega)).set (w.heap.size + 1) 0 _ (by omega))) ?_
        clear hK K
        refine mix_sole _ rfl (fun K hK => ?_)
        go_simp
        refine hK _ _ (veil ((((((((((unveil HUP7).set w.heap.size 0 _ (by omega)).set w.heap.size 1 _ (by omega)).set w.heap.size 2 _ (by omega)).set w.heap.size 3 _ (by omega)).set w.heap.size 4 _ (by omega)).set w.heap.size 5 _ (by omega)).set w.heap.size 6 _ (by omega)).set (w.heap.size + 1) 0 _ (by omega)).set (w.heap.size + 1 + 1) 0 _ (by omega))) ?_
        clear hK K
        refine mix_nil ?_
        refine listIn_last rfl (fun K hK => ?_)
        go_simp
        refine hK _ _ ?_
        clear hK K
        go_wp2_with fail
        obtain ⟨z1, z2, z3, _⟩ := (unveil HP7).put (.int .i64 x0) (.int .i64 x1) (.int .i64 x2) (.int .i64 x3) (.string ⟨x4.toArray⟩) (.slice q x5.length c) (.int .i64 x6) (.int .i64 p') (.int .i64 0) (.int .i64 0) _ rfl
        have hks := z2 _ _ (by omega) (unveil HKK7)
        have hz := z1.keep ((Below.refl (w.heap.size + 4) _).grown (grownBy_putObj' _ D' (.deferred none)) (by rw [z3]; omega) (fun r e => by cases e; omega))
        have hkids := (unveil HK6).keep (K' := fun g => w.heap.size ≤ g) (fun g cs fz hK hg => by
          have hv := z2 g _ (by omega) (unveil HUP7 g _ (by omega) hg)
          have hne : g ≠ D' := fun e => by
            subst e
            rw [hks] at hv
            cases hv
          exact ⟨(World.putObj_heap_other (o := .deferred none) hne).trans hv, by omega⟩)
        refine ⟨by simp, .inl ⟨_, _, rfl, run_takeDeferred hks, ?_⟩⟩
        exact ⟨_, res_p (f := Tryz.f19) rfl rfl rfl rfl rfl hz.x rfl hz.a hz.e hz.l, f, some [.mk x0 x1 x2 x3 x4 x5 x6], .mk x0 x1 x2 x3 x4 x5 x6, p', [], .mk x0 x1 x2 x3 x4 x5 x6, p', 0, 0, q, c, unveil HG, .good _ _ (unveil HDP), rfl, hkids, hz.be⟩
      | cons c1 cr =>
        obtain ⟨g, cap, eg⟩ := ownsRow_succX hX.r
        obtain ⟨rfl, rfl⟩ : qv = some ⟨g, 0, none⟩ ∧ cp = cap := by simpa using eg
        have HRW : Hid (∀ W, UpS (w.heap.size + 4) W6 W → W.cell? ⟨g, 0, none⟩ = some (.int .i64 c1) ∧ g < W.heap.size) := fun W hU => by
          have hr := row_kept hX.r (fun g cur hg hk => hU g _ (by omega) hk)
          have h1 := hr.cells (g := g) rfl 0 (.int .i64 c1) rfl
          have h2 := hr.lt g rfl
          exact ⟨h1, h2.2⟩
        have hl0 : ((0 : Int) < ((c1 :: cr).length : Int)) := by simp <;> omega
        clear hbe hg6 hKD hX r0 r2 r3 r4 r5 r6 r7 r8 hz4 hz3 hz2 hz0 HP6
        generalize hLL : (c1 :: cr).length = LL at *
        clear hLL
        go_upto_region 12 with fail
        refine wp_region_noPanic (wpIn_wide.1 (wpIn_region_mix (ro := none) (n := 0) (fun W => Hid (UpS (w.heap.size + 4) W6 W))
          [(0, true), (1, true), (2, true), (3, true), (4, true), (5, true), (6, true), (7, false), (8, false), (9, false)]
          10 hmixP (by kernel_rfl) (by kernel_rfl) (by kernel_rfl) (by kernel_rfl) (by kernel_rfl) (by kernel_rfl) (fun _ _ _ _ h => h) HUP7 ?_))
        generalize W6.drew = W7 at *
        iterate 7 (
          refine mix_pure _ rfl _ (.inl ⟨rfl, fun W hS => (by obtain ⟨⟨b0, b1, b2, b3, b4, b5, b6⟩, r1, r9, rl, rl2⟩ := unveil HCL W (unveil hS); obtain ⟨rw1, rw2⟩ := unveil HRW W (unveil hS); go_simp; rfl)⟩) (fun B hB => ?_)
          simp only [List.getElem_toArray, List.getElem_cons_zero, List.getElem_cons_succ, Act.put, List.setIfInBounds_toArray, List.set_cons_zero, List.set_cons_succ] at hB
          subst hB)
        obtain ⟨⟨f0, f1, f2, f3, f4, f5, f6⟩, ⟨c0, c1', c2, c3, c4, c5, c6⟩, ⟨g0, g1, g2⟩, ⟨d0, d1, d2⟩, hlt⟩ := (unveil HP7).cells
        refine mix_sole _ rfl (fun K hK => ?_)
        go_simp
        refine hK _ _ (veil ((((((((unveil HUP7).set w.heap.size 0 _ (by omega)).set w.heap.size 1 _ (by omega)).set w.heap.size 2 _ (by omega)).set w.heap.size 3 _ (by omega)).set w.heap.size 4 _ (by omega)).set w.heap.size 5 _ (by omega)).set w.heap.size 6 _ (by omega))) ?_
        clear hK K
        refine mix_sole _ rfl (fun K hK => ?_)
        go_simp
        refine hK _ _ (veil (((((((((unveil HUP7).set w.heap.size 0 _ (by omega)).set w.heap.size 1 _ (by omega)).set w.heap.size 2 _ (by omega)).set w.heap.size 3 _ (by omega)).set w.heap.size 4 _ (by omega)).set w.heap.size 5 _ (by omega)).set w.heap.size 6 _ (by omega)).set (w.heap.size + 1) 0 _ (by omega))) ?_
        clear hK K
        refine mix_sole _ rfl (fun K hK => ?_)
        go_simp
        refine hK _ _ (veil ((((((((((unveil HUP7).set w.heap.size 0 _ (by omega)).set w.heap.size 1 _ (by omega)).set w.heap.size 2 _ (by omega)).set w.heap.size 3 _ (by omega)).set w.heap.size 4 _ (by omega)).set w.heap.size 5 _ (by omega)).set w.heap.size 6 _ (by omega)).set (w.heap.size + 1) 0 _ (by omega)).set (w.heap.size + 1 + 1) 0 _ (by omega))) ?_
        clear hK K
        refine mix_nil ?_
        refine listIn_last rfl (fun K hK => ?_)
        go_simp
        refine hK _ _ ?_
        clear hK K
        go_wp2_with fail
        obtain ⟨z1, z2, z3, _⟩ := (unveil HP7).put (.int .i64 0) (.int .i64 0) (.int .i64 0) (.int .i64 0) (.string ⟨#[]⟩) (.slice none 0 0) (.int .i64 0) (.int .i64 0) (.int .i64 133) (.int .i64 c1) _ rfl
        have hks := z2 _ _ (by omega) (unveil HKK7)
        have hz := z1.keep ((Below.refl (w.heap.size + 4) _).grown (grownBy_putObj' _ D' (.deferred none)) (by rw [z3]; omega) (fun r e => by cases e; omega))
        refine ⟨by simp, .inl ⟨_, _, rfl, run_takeDeferred hks, ?_⟩⟩
        exact ⟨_, res_p (f := Tryz.f19) rfl rfl rfl rfl rfl hz.x rfl hz.a hz.e hz.l, f, some [.mk x0 x1 x2 x3 x4 x5 x6], .mk x0 x1 x2 x3 x4 x5 x6, p', c1 :: cr, .mk 0 0 0 0 [] [] 0, 0, 133, c1, none, 0, unveil HG, .crowd _ _ _ _ (unveil HDP), rfl, Kids.nil rfl none, hz.be⟩
    case stop =>
      rintro D' cc pre W6 hD' hpre ⟨rfl, hng, hps⟩ hKD
      have HKK := veil hKD
      have HPS := veil hps
      have HDP : Hid (dpP (.mk x0 x1 x2 x3 x4 x5 x6) 1 = true) := by
        have ha := all_dp t 1 (unveil HLI)
        rw [unveil HT] at ha
        rw [Hid, ← ha]
        cases hany : (t.all 1).any (fun y => decide (60 < y.2)) with
        | true => rfl
        | false =>
          exact absurd (fun y hy => by
            have h2 := List.any_eq_false.1 hany y (hpre.subset hy)
            simpa using h2) hng
      have hlt6 := hps.l.lt
      have hkeep : PaS w (W6.putObj D' (.deferred none)) #[.int .i64 0, .int .i64 0, .int .i64 0, .int .i64 0, .string ⟨#[]⟩, .slice none 0 0, .int .i64 0] (.int .i64 0) (.int .i64 131) (.int .i64 x6) := hps.keep ((Below.refl _ W6).grown (grownBy_putObj' _ D' _) (by omega) (fun r e => by cases e; omega))
      clear hKD hps hpre hng
      gi_wp2
      refine ⟨by simp, .inl ⟨_, _, rfl, run_takeDeferred (unveil HKK), ?_⟩⟩
      exact ⟨_, res_p (f := Tryz.f19) rfl rfl rfl rfl rfl hkeep.x rfl hkeep.a hkeep.e hkeep.l, f, some [.mk x0 x1 x2 x3 x4 x5 x6], .mk x0 x1 x2 x3 x4 x5 x6, p', cr, .mk 0 0 0 0 [] [] 0, 0, 131, x6, none, 0, unveil HG, .deep _ _ _ (unveil HDP), rfl, Kids.nil rfl none, hkeep.be⟩
end Go.Proofs.YtmpkgjonbjpohaaGreatDoor
