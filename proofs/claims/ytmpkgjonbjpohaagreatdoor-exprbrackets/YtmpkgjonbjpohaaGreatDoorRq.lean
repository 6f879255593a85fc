/-
  Package expr: joined.
-/
import Derived.Test.YtmpkgjonbjpohaaGreatDoorRo
namespace Go.Proofs.YtmpkgjonbjpohaaGreatDoor
open Go Go.RowKit
set_option linter.unusedVariables false
set_option linter.unusedSimpArgs false

/-- The boxes of joined: word, parts, answer; then the list and the whole. -/
structure JoS (w W : World) (wc ac bc zc : Array Value) : Prop where
  x : Bk W w.heap.size 42 wc
  a : Bk W (w.heap.size + 1) 24 ac
  b : Bk W (w.heap.size + 1 + 1) 24 bc
  z : Bk W (w.heap.size + 1 + 1 + 1) 24 zc
  be : Below w.heap.size w W
theorem JoS.below {w W W' : World} {wc ac bc zc : Array Value} (h : JoS w W wc ac bc zc) (hb : Below W.heap.size W W') : JoS w W' wc ac bc zc := ⟨h.x.below hb, h.a.below hb, h.b.below hb, h.z.below hb, h.be.trans (hb.mono h.be.size)⟩
theorem JoS.new (w : World) (wc ac bc zc : Array Value) : JoS w ((((w.alloc (.cells wc 42)).alloc (.cells ac 24)).alloc (.cells bc 24)).alloc (.cells zc 24)) wc ac bc zc := by
  have h0 := Bk.new w 42 wc
  have h1 := Bk.new (w.alloc (.cells wc 42)) 24 ac
  have h2 := Bk.new ((w.alloc (.cells wc 42)).alloc (.cells ac 24)) 24 bc
  have h3 := Bk.new (((w.alloc (.cells wc 42)).alloc (.cells ac 24)).alloc (.cells bc 24)) 24 zc
  rw [World.size_alloc] at h1
  rw [World.size_alloc, World.size_alloc] at h2
  rw [World.size_alloc, World.size_alloc, World.size_alloc] at h3
  exact ⟨((h0.alloc _).alloc _).alloc _, (h1.alloc _).alloc _, h2.alloc _, h3, (((((Below.refl _ w).alloc (Nat.le_refl _) _).alloc (by simp) _).alloc (by simp; omega) _).alloc (by simp; omega) _)⟩
set_option maxRecDepth 100000 in
set_option maxHeartbeats 16000000 in
theorem joined_any (x : Wd) (a b : PE) (p q : Option Addr) (c d : Nat) (w : World) (K : Nat → Prop) (hO : Ops w) (hw : 0 < w.heap.size) (ha : Kids w K a p) (hb : Kids w K b q) :
    Calls Tryz.prog 96 #[wdV x, .agg (exC a p c), .agg (exC b q d)] w fun e w' => ∃ q' c', e = .returned (.agg (exC (joiP x a b) q' c')) ∧ Kids w' (fun g => K g ∨ w.heap.size ≤ g) (joiP x a b) q' ∧ Below w.heap.size w w' := by
  have HOP := veil (fun (s : List UInt8) (W : World) (hb : Below w.heap.size w W) => opB_any s W (hO.below hb hw) (Nat.lt_of_lt_of_le hw hb.size))
  have HKA : Hid (∀ (W : World) (g : Nat), Below w.heap.size w W → w.heap.size ≤ g → Bk W g 24 (exC a p c ++ exC b q d) → KidL W (fun g => K g ∨ w.heap.size ≤ g) [a, b] (some ⟨g, 0, none⟩)) := fun W g hb' hg h => KidL.two h (.inr hg) ((ha.below hb').mono (fun _ _ h => .inl h)) ((hb.below hb').mono (fun _ _ h => .inl h))
  have HJ1 : Hid ((x.s == [38, 38]) = true → joiP x a b = .mk 5 0 0 0 [] [a, b] x.line) := fun h => by unfold joiP; rw [if_pos h]
  have HJ2 : Hid ((x.s == [38, 38]) = false → (x.s == [124, 124]) = true → joiP x a b = .mk 6 0 0 0 [] [a, b] x.line) := fun h h2 => by unfold joiP; rw [h, if_neg (by simp), if_pos h2]
  have HJ3 : Hid ((x.s == [38, 38]) = false → (x.s == [124, 124]) = false → (x.s == [62]) = true → joiP x a b = .mk 3 17 0 0 [] [.mk 4 12 0 0 [] [a, b] x.line] x.line) := fun h h2 h3 => by unfold joiP; rw [h, h2, if_neg (by simp), if_neg (by simp), if_pos h3]
  have HJ4 : Hid ((x.s == [38, 38]) = false → (x.s == [124, 124]) = false → (x.s == [62]) = false → (x.s == [62, 61]) = true → joiP x a b = .mk 3 17 0 0 [] [.mk 4 11 0 0 [] [a, b] x.line] x.line) := fun h h2 h3 h4 => by unfold joiP; rw [h, h2, h3, if_neg (by simp), if_neg (by simp), if_neg (by simp), if_pos h4]
  have HJ5 : Hid ((x.s == [38, 38]) = false → (x.s == [124, 124]) = false → (x.s == [62]) = false → (x.s == [62, 61]) = false → joiP x a b = .mk 4 (opB x.s) 0 0 [] [a, b] x.line) := fun h h2 h3 h4 => by unfold joiP; rw [h, h2, h3, h4, if_neg (by simp), if_neg (by simp), if_neg (by simp), if_neg (by simp)]
  clear hO hw ha hb
  generalize joiP x a b = J at *
  obtain ⟨wk, s, wv, wt, wf, ln⟩ := x
  have HNO : Hid (∀ (op : Int) (g : Nat) (W : World), Calls Tryz.prog 123 #[.int .i64 op, .agg (exC (.mk 4 0 0 0 [] [a, b] ln) (some ⟨g, 0, none⟩) 2)] W fun e w' => ∃ g', e = .returned (.agg (exC (.mk 3 17 0 0 [] [.mk 4 op 0 0 [] [a, b] ln] ln) (some ⟨g', 0, none⟩) 1)) ∧ W.heap.size ≤ g' ∧ Bk w' g' 24 (exC (.mk 4 op 0 0 [] [a, b] ln) (some ⟨g, 0, none⟩) 2) ∧ Below W.heap.size W w') := fun op g W => not_any op (.mk 4 0 0 0 [] [a, b] ln) (some ⟨g, 0, none⟩) 2 W
  obtain ⟨a0, a1, a2, a3, a4, a5, a6⟩ := a
  obtain ⟨b0, b1, b2, b3, b4, b5, b6⟩ := b
  unfold exC at *
  unfold wdV wdC
  simp only [PE.is, PE.op, PE.k, PE.v, PE.nm, PE.l, PE.line] at *
  have HS0 := veil (JoS.new w #[.int .i64 wk, .string ⟨s.toArray⟩, .int .i64 wv, .int .i64 wt, .string ⟨wf.toArray⟩, .int .i64 ln] #[.int .i64 a0, .int .i64 a1, .int .i64 a2, .int .i64 a3, .string ⟨a4.toArray⟩, .slice p a5.length c, .int .i64 a6] #[.int .i64 b0, .int .i64 b1, .int .i64 b2, .int .i64 b3, .string ⟨b4.toArray⟩, .slice q b5.length d, .int .i64 b6] #[.int .i64 0, .int .i64 0, .int .i64 0, .int .i64 0, .string ⟨#[]⟩, .slice none 0 0, .int .i64 0])
  go_enter Tryz.func96, Tryz.ntmps96
  go_upto_region 1 with fail
  generalize ((((w.alloc (.cells #[.int .i64 wk, .string ⟨s.toArray⟩, .int .i64 wv, .int .i64 wt, .string ⟨wf.toArray⟩, .int .i64 ln] 42)).alloc (.cells #[.int .i64 a0, .int .i64 a1, .int .i64 a2, .int .i64 a3, .string ⟨a4.toArray⟩, .slice p a5.length c, .int .i64 a6] 24)).alloc (.cells #[.int .i64 b0, .int .i64 b1, .int .i64 b2, .int .i64 b3, .string ⟨b4.toArray⟩, .slice q b5.length d, .int .i64 b6] 24)).alloc (.cells #[.int .i64 0, .int .i64 0, .int .i64 0, .int .i64 0, .string ⟨#[]⟩, .slice none 0 0, .int .i64 0] 24)) = W0 at *
  have m5 : W0.cell? ⟨w.heap.size, 5, none⟩ = some (.int .i64 ln) := (unveil HS0).x.cell 5
  have ml := (unveil HS0).x.lt
  obtain ⟨⟨x0, x1, x2, x3, x4, x5, x6⟩, xl, _⟩ := ex_cells (unveil HS0).a
  obtain ⟨⟨y0, y1, y2, y3, y4, y5, y6⟩, yl, _⟩ := ex_cells (unveil HS0).b
  go_upto_region 2 with fail
  clear m5 ml x0 x1 x2 x3 x4 x5 x6 xl y0 y1 y2 y3 y4 y5 y6 yl
  have hb1 : Below W0.heap.size W0 ((W0.alloc (.cells #[.int .i64 a0, .int .i64 a1, .int .i64 a2, .int .i64 a3, .string ⟨a4.toArray⟩, .slice p a5.length c, .int .i64 a6, .int .i64 b0, .int .i64 b1, .int .i64 b2, .int .i64 b3, .string ⟨b4.toArray⟩, .slice q b5.length d, .int .i64 b6] 24)).alloc (.cells #[.int .i64 4, .int .i64 0, .int .i64 0, .int .i64 0, .string ⟨#[]⟩, .slice (some ⟨W0.heap.size, 0, none⟩) 2 2, .int .i64 ln] 24)) := ((Below.refl _ W0).alloc (Nat.le_refl _) _).alloc (by simp) _
  have HS1 := veil ((unveil HS0).below hb1)
  have HL1 : Hid (Bk ((W0.alloc (.cells #[.int .i64 a0, .int .i64 a1, .int .i64 a2, .int .i64 a3, .string ⟨a4.toArray⟩, .slice p a5.length c, .int .i64 a6, .int .i64 b0, .int .i64 b1, .int .i64 b2, .int .i64 b3, .string ⟨b4.toArray⟩, .slice q b5.length d, .int .i64 b6] 24)).alloc (.cells #[.int .i64 4, .int .i64 0, .int .i64 0, .int .i64 0, .string ⟨#[]⟩, .slice (some ⟨W0.heap.size, 0, none⟩) 2 2, .int .i64 ln] 24)) W0.heap.size 24 #[.int .i64 a0, .int .i64 a1, .int .i64 a2, .int .i64 a3, .string ⟨a4.toArray⟩, .slice p a5.length c, .int .i64 a6, .int .i64 b0, .int .i64 b1, .int .i64 b2, .int .i64 b3, .string ⟨b4.toArray⟩, .slice q b5.length d, .int .i64 b6]) := (Bk.new W0 _ _).alloc _
  have HE1 : Hid (Bk ((W0.alloc (.cells #[.int .i64 a0, .int .i64 a1, .int .i64 a2, .int .i64 a3, .string ⟨a4.toArray⟩, .slice p a5.length c, .int .i64 a6, .int .i64 b0, .int .i64 b1, .int .i64 b2, .int .i64 b3, .string ⟨b4.toArray⟩, .slice q b5.length d, .int .i64 b6] 24)).alloc (.cells #[.int .i64 4, .int .i64 0, .int .i64 0, .int .i64 0, .string ⟨#[]⟩, .slice (some ⟨W0.heap.size, 0, none⟩) 2 2, .int .i64 ln] 24)) (W0.heap.size + 1) 24 #[.int .i64 4, .int .i64 0, .int .i64 0, .int .i64 0, .string ⟨#[]⟩, .slice (some ⟨W0.heap.size, 0, none⟩) 2 2, .int .i64 ln]) := by
    have := Bk.new (W0.alloc (.cells #[.int .i64 a0, .int .i64 a1, .int .i64 a2, .int .i64 a3, .string ⟨a4.toArray⟩, .slice p a5.length c, .int .i64 a6, .int .i64 b0, .int .i64 b1, .int .i64 b2, .int .i64 b3, .string ⟨b4.toArray⟩, .slice q b5.length d, .int .i64 b6] 24)) 24 #[.int .i64 4, .int .i64 0, .int .i64 0, .int .i64 0, .string ⟨#[]⟩, .slice (some ⟨W0.heap.size, 0, none⟩) 2 2, .int .i64 ln]
    rw [World.size_alloc] at this
    exact this
  have hG : w.heap.size + 1 + 1 + 1 < W0.heap.size := (unveil HS0).z.lt
  clear hb1 HS0
  generalize ((W0.alloc (.cells #[.int .i64 a0, .int .i64 a1, .int .i64 a2, .int .i64 a3, .string ⟨a4.toArray⟩, .slice p a5.length c, .int .i64 a6, .int .i64 b0, .int .i64 b1, .int .i64 b2, .int .i64 b3, .string ⟨b4.toArray⟩, .slice q b5.length d, .int .i64 b6] 24)).alloc (.cells #[.int .i64 4, .int .i64 0, .int .i64 0, .int .i64 0, .string ⟨#[]⟩, .slice (some ⟨W0.heap.size, 0, none⟩) 2 2, .int .i64 ln] 24)) = W1 at *
  generalize W0.heap.size = G at *
  have hGw : w.heap.size ≤ G := by omega
  have m1 : W1.cell? ⟨w.heap.size, 1, none⟩ = some (.string ⟨s.toArray⟩) := (unveil HS1).x.cell 1
  have ml := (unveil HS1).x.lt
  obtain ⟨⟨e0, e1, e2, e3, e4, e5, e6⟩, el, ⟨i0, i1, i2, i3, i4, i5, i6⟩⟩ := ex_cells (unveil HE1)
  cases h1 : s == [38, 38]
  · cases h2 : s == [124, 124]
    · cases h3 : s == [62]
      · cases h4 : s == [62, 61]
        · have HJ := veil (unveil HJ5 h1 h2 h3 h4)
          clear HJ1 HJ2 HJ3 HJ4 HJ5 HNO
          go_upto_region 12 with (go_at_call 97; refine (unveil HOP s W1 (unveil HS1).be).mono ?_; rintro e Wq ⟨rfl, hbq⟩; have HEq := veil ((unveil HE1).below hbq); have HLq := veil ((unveil HL1).below hbq); have HZq := veil ((unveil HS1).z.below hbq); have HBq := veil ((unveil HS1).be.trans (hbq.mono (unveil HS1).be.size)); obtain ⟨⟨u0, u1, u2, u3, u4, u5, u6⟩, ul, ⟨k0, k1, k2, k3, k4, k5, k6⟩⟩ := ex_cells (unveil HEq); clear hbq)
          have HE2 : Hid (Bk (Wq.setCell ⟨G + 1, 1, none⟩ (.int .i64 (opB s))) (G + 1) 24 #[.int .i64 4, .int .i64 (opB s), .int .i64 0, .int .i64 0, .string ⟨#[]⟩, .slice (some ⟨G, 0, none⟩) 2 2, .int .i64 ln]) := (unveil HEq).set 1 _
          have HL2 := veil ((unveil HLq).other 1 (.int .i64 (opB s)) (show G ≠ G + 1 by omega))
          have HZ2 := veil ((unveil HZq).other 1 (.int .i64 (opB s)) (show w.heap.size + 1 + 1 + 1 ≠ G + 1 by omega))
          have HB2 := veil ((unveil HBq).setCell (p := ⟨G + 1, 1, none⟩) (show w.heap.size ≤ G + 1 by omega) (.int .i64 (opB s)))
          clear m1 ml e0 e1 e2 e3 e4 e5 e6 el i0 i1 i2 i3 i4 i5 i6 HS1 HE1 HL1 u0 u1 u2 u3 u4 u5 u6 ul k0 k1 k2 k3 k4 k5 k6 HEq HLq HZq HBq
          generalize (Wq.setCell ⟨G + 1, 1, none⟩ (.int .i64 (opB s))) = W2 at *
          generalize opB s = OB at *
          obtain ⟨⟨e0, e1, e2, e3, e4, e5, e6⟩, el, _⟩ := ex_cells (unveil HE2)
          obtain ⟨⟨z0, z1, z2, z3, z4, z5, z6⟩, zl, ⟨g0, g1, g2, g3, g4, g5, g6⟩⟩ := ex_cells (unveil HZ2)
          go_wp2_with fail
          obtain ⟨r1, r2, r3, r4⟩ := ex_put (unveil HZ2) (.int .i64 4) (.int .i64 OB) (.int .i64 0) (.int .i64 0) (.string ⟨#[]⟩) (.slice (some ⟨G, 0, none⟩) 2 2) (.int .i64 ln) _ rfl
          have hB3 := (unveil HB2).trans (r2 w.heap.size (by omega))
          have hJ := unveil HJ
          cases hJ
          refine bodyPost_ret (res_e1 (f := Tryz.f96) rfl rfl r1 rfl) rfl ⟨some ⟨G, 0, none⟩, 2, rfl, ?_, hB3⟩
          exact Kids.of (unveil HKA _ G hB3 hGw (r3 G _ (by omega) (unveil HL2)))
        · have HJ := veil (unveil HJ4 h1 h2 h3 h4)
          clear HJ1 HJ2 HJ3 HJ4 HJ5
          go_wp2_with (go_at_call 123; refine (unveil HNO 11 G W1).mono ?_; rintro e W2 ⟨g', rfl, hg', hbk, hb2⟩; have HL2 := veil ((unveil HL1).below hb2); have HZ2 := veil ((unveil HS1).z.below hb2); have HB2 := veil ((unveil HS1).be.trans (hb2.mono (unveil HS1).be.size)); have HBK := veil hbk; have HG2 : Hid (G < g') := Nat.lt_of_lt_of_le (unveil HL1).lt hg'; obtain ⟨⟨z0, z1, z2, z3, z4, z5, z6⟩, zl, ⟨g0, g1, g2, g3, g4, g5, g6⟩⟩ := ex_cells (unveil HZ2); clear hg' hbk hb2)
          obtain ⟨r1, r2, r3, r4⟩ := ex_put (unveil HZ2) (.int .i64 3) (.int .i64 17) (.int .i64 0) (.int .i64 0) (.string ⟨#[]⟩) (.slice (some ⟨g', 0, none⟩) 1 1) (.int .i64 ln) _ rfl
          have hB3 := (unveil HB2).trans (r2 w.heap.size (by omega))
          have hG2 := unveil HG2
          have hJ := unveil HJ
          cases hJ
          refine bodyPost_ret (res_e1 (f := Tryz.f96) rfl rfl r1 rfl) rfl ⟨some ⟨g', 0, none⟩, 1, rfl, ?_, hB3⟩
          exact Kids.of (KidL.one (x := .mk 4 11 0 0 [] [.mk a0 a1 a2 a3 a4 a5 a6, .mk b0 b1 b2 b3 b4 b5 b6] ln) (q := some ⟨G, 0, none⟩) (c := 2) (r3 g' _ (by omega) (unveil HBK)) (.inr (by omega)) (Kids.of (unveil HKA _ G hB3 hGw (r3 G _ (by omega) (unveil HL2)))))
      · have HJ := veil (unveil HJ3 h1 h2 h3)
        clear HJ1 HJ2 HJ3 HJ4 HJ5
        go_wp2_with (go_at_call 123; refine (unveil HNO 12 G W1).mono ?_; rintro e W2 ⟨g', rfl, hg', hbk, hb2⟩; have HL2 := veil ((unveil HL1).below hb2); have HZ2 := veil ((unveil HS1).z.below hb2); have HB2 := veil ((unveil HS1).be.trans (hb2.mono (unveil HS1).be.size)); have HBK := veil hbk; have HG2 : Hid (G < g') := Nat.lt_of_lt_of_le (unveil HL1).lt hg'; obtain ⟨⟨z0, z1, z2, z3, z4, z5, z6⟩, zl, ⟨g0, g1, g2, g3, g4, g5, g6⟩⟩ := ex_cells (unveil HZ2); clear hg' hbk hb2)
        obtain ⟨r1, r2, r3, r4⟩ := ex_put (unveil HZ2) (.int .i64 3) (.int .i64 17) (.int .i64 0) (.int .i64 0) (.string ⟨#[]⟩) (.slice (some ⟨g', 0, none⟩) 1 1) (.int .i64 ln) _ rfl
        have hB3 := (unveil HB2).trans (r2 w.heap.size (by omega))
        have hG2 := unveil HG2
        have hJ := unveil HJ
        cases hJ
        refine bodyPost_ret (res_e1 (f := Tryz.f96) rfl rfl r1 rfl) rfl ⟨some ⟨g', 0, none⟩, 1, rfl, ?_, hB3⟩
        exact Kids.of (KidL.one (x := .mk 4 12 0 0 [] [.mk a0 a1 a2 a3 a4 a5 a6, .mk b0 b1 b2 b3 b4 b5 b6] ln) (q := some ⟨G, 0, none⟩) (c := 2) (r3 g' _ (by omega) (unveil HBK)) (.inr (by omega)) (Kids.of (unveil HKA _ G hB3 hGw (r3 G _ (by omega) (unveil HL2)))))
    · have HJ := veil (unveil HJ2 h1 h2)
      clear HJ1 HJ2 HJ3 HJ4 HJ5 HNO
      go_upto_region 12 with fail
      have HE2 : Hid (Bk (W1.setCell ⟨G + 1, 0, none⟩ (.int .i64 6)) (G + 1) 24 #[.int .i64 6, .int .i64 0, .int .i64 0, .int .i64 0, .string ⟨#[]⟩, .slice (some ⟨G, 0, none⟩) 2 2, .int .i64 ln]) := (unveil HE1).set 0 _
      have HL2 := veil ((unveil HL1).other 0 (.int .i64 6) (show G ≠ G + 1 by omega))
      have HZ2 := veil ((unveil HS1).z.other 0 (.int .i64 6) (show w.heap.size + 1 + 1 + 1 ≠ G + 1 by omega))
      have HB2 := veil ((unveil HS1).be.setCell (p := ⟨G + 1, 0, none⟩) (show w.heap.size ≤ G + 1 by omega) (.int .i64 6))
      clear m1 ml e0 e1 e2 e3 e4 e5 e6 el i0 i1 i2 i3 i4 i5 i6 HS1 HE1 HL1
      generalize (W1.setCell ⟨G + 1, 0, none⟩ (.int .i64 6)) = W2 at *
      obtain ⟨⟨e0, e1, e2, e3, e4, e5, e6⟩, el, _⟩ := ex_cells (unveil HE2)
      obtain ⟨⟨z0, z1, z2, z3, z4, z5, z6⟩, zl, ⟨g0, g1, g2, g3, g4, g5, g6⟩⟩ := ex_cells (unveil HZ2)
      go_wp2_with fail
      obtain ⟨r1, r2, r3, r4⟩ := ex_put (unveil HZ2) (.int .i64 6) (.int .i64 0) (.int .i64 0) (.int .i64 0) (.string ⟨#[]⟩) (.slice (some ⟨G, 0, none⟩) 2 2) (.int .i64 ln) _ rfl
      have hB3 := (unveil HB2).trans (r2 w.heap.size (by omega))
      have hJ := unveil HJ
      cases hJ
      refine bodyPost_ret (res_e1 (f := Tryz.f96) rfl rfl r1 rfl) rfl ⟨some ⟨G, 0, none⟩, 2, rfl, ?_, hB3⟩
      exact Kids.of (unveil HKA _ G hB3 hGw (r3 G _ (by omega) (unveil HL2)))
  · have HJ := veil (unveil HJ1 h1)
    clear HJ1 HJ2 HJ3 HJ4 HJ5 HNO
    go_upto_region 12 with fail
    have HE2 : Hid (Bk (W1.setCell ⟨G + 1, 0, none⟩ (.int .i64 5)) (G + 1) 24 #[.int .i64 5, .int .i64 0, .int .i64 0, .int .i64 0, .string ⟨#[]⟩, .slice (some ⟨G, 0, none⟩) 2 2, .int .i64 ln]) := (unveil HE1).set 0 _
    have HL2 := veil ((unveil HL1).other 0 (.int .i64 5) (show G ≠ G + 1 by omega))
    have HZ2 := veil ((unveil HS1).z.other 0 (.int .i64 5) (show w.heap.size + 1 + 1 + 1 ≠ G + 1 by omega))
    have HB2 := veil ((unveil HS1).be.setCell (p := ⟨G + 1, 0, none⟩) (show w.heap.size ≤ G + 1 by omega) (.int .i64 5))
    clear m1 ml e0 e1 e2 e3 e4 e5 e6 el i0 i1 i2 i3 i4 i5 i6 HS1 HE1 HL1
    generalize (W1.setCell ⟨G + 1, 0, none⟩ (.int .i64 5)) = W2 at *
    obtain ⟨⟨e0, e1, e2, e3, e4, e5, e6⟩, el, _⟩ := ex_cells (unveil HE2)
    obtain ⟨⟨z0, z1, z2, z3, z4, z5, z6⟩, zl, ⟨g0, g1, g2, g3, g4, g5, g6⟩⟩ := ex_cells (unveil HZ2)
    go_wp2_with fail
    obtain ⟨r1, r2, r3, r4⟩ := ex_put (unveil HZ2) (.int .i64 5) (.int .i64 0) (.int .i64 0) (.int .i64 0) (.string ⟨#[]⟩) (.slice (some ⟨G, 0, none⟩) 2 2) (.int .i64 ln) _ rfl
    have hB3 := (unveil HB2).trans (r2 w.heap.size (by omega))
    have hJ := unveil HJ
    cases hJ
    refine bodyPost_ret (res_e1 (f := Tryz.f96) rfl rfl r1 rfl) rfl ⟨some ⟨G, 0, none⟩, 2, rfl, ?_, hB3⟩
    exact Kids.of (unveil HKA _ G hB3 hGw (r3 G _ (by omega) (unveil HL2)))
end Go.Proofs.YtmpkgjonbjpohaaGreatDoor
