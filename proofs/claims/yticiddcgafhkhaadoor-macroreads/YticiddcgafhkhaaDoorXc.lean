/-
  The reference's Parse.
-/
import Derived.Test.YticiddcgafhkhaaDoorXb
namespace Go.Proofs.YticiddcgafhkhaaDoor
open Go Go.RowKit
set_option linter.unusedVariables false
set_option linter.unusedSimpArgs false

set_option maxRecDepth 100000 in
set_option maxHeartbeats 16000000 in
theorem rParse_any (p : Option Addr) (cap : Nat) (l : List Gt) (w : World) (hsz : l.length * 56 ≤ 140737488355328) (hcap : l.length ≤ cap ∧ cap ≤ maxLen) (hl : TkG w.heap.size w (.slice p l.length cap) l)
    (hfit : ∀ nm fn ps more body, rheadP l = some (nm, fn, ps, more, body) → McFits ⟨nm, fn, ps, more, bareG body⟩ ∧ body.length ≤ l.length) :
    Calls Tryd.prog 18 #[.slice p l.length cap] w fun e w' => ParseP w (rparseM l) e w' := by
  have hR : rparseM l = match rheadP l with
    | none => none
    | some (nm, fn, ps, more, body) => if rrightM ⟨nm, fn, ps, more, bareG body⟩ then some ⟨nm, fn, ps, more, bareG body⟩ else none := rfl
  generalize rparseM l = R at *
  have HR := hide hR
  have HF := hide hfit
  clear hR hfit
  have hbe0 : Below w.heap.size w (w.alloc (.cells #[.string ⟨#[]⟩, .bool false, .slice none 0 0, .bool false, .slice none 0 0] 25)) := (Below.refl _ w).alloc (Nat.le_refl _) _
  have hm0 : MBox (w.alloc (.cells #[.string ⟨#[]⟩, .bool false, .slice none 0 0, .bool false, .slice none 0 0] 25)) w.heap.size (.string ⟨#[]⟩) false (.slice none 0 0) false (.slice none 0 0) := World.alloc_heap_new w _
  have HB := hide hbe0
  have HM := hide hm0
  have HL := hide hl
  clear hbe0 hl
  obtain ⟨hc1, hc2⟩ := hcap
  unfold maxLen at hc2
  by_cases hl0 : l.length = 0
  · obtain rfl : l = [] := List.eq_nil_of_length_eq_zero hl0
    simp only [List.length_nil] at *
    clear hm0
    go_enter Tryd.func18, Tryd.ntmps18
    go_wp2
    exact bodyPost_ret (res18P rfl (unhide HM) rfl) rfl ⟨unhide HB, .inl ⟨unhide HR, rfl⟩⟩
  · have hpos : 0 < l.length := by omega
    obtain ⟨g, o, rfl, hgw, a0⟩ := (unhide HL).at 0 hpos
    simp only [Nat.zero_mul, Nat.add_zero] at a0
    have hhp := rheadP_pos l hpos
    have HHP := hide hhp
    clear hhp hl0
    have i2 : (((l.length : Nat) : Int) == 0) = false := by rw [beq_eq_false_iff_ne]; omega
    have i2' : (0 : Int) < (l.length : Int) := by omega
    have hgM : g ≠ w.heap.size := by omega
    have a00 := (((unhide HB).cell (p := ⟨g, o, none⟩) hgw)).trans a0.1
    have a01 := (((unhide HB).cell (p := ⟨g, o + 1, none⟩) hgw)).trans a0.2.1
    clear a0
    by_cases hk : l[0].kind = 1
    · have i3 : (l[0].kind != 1) = false := by rw [hk]; rfl
      have hq : Hid (rheadP l = rheadQ l[0].s (l.drop 1)) := by rw [Hid, unhide HHP, if_pos hk]
      clear HHP hk
      have hm1 : MBox ((w.alloc (.cells #[.string ⟨#[]⟩, .bool false, .slice none 0 0, .bool false, .slice none 0 0] 25)).alloc (.cells #[.string ⟨l[0].s.toArray⟩, .bool false, .slice none 0 0, .bool false, .slice none 0 0] 25)) (w.heap.size + 1) (.string ⟨l[0].s.toArray⟩) false (.slice none 0 0) false (.slice none 0 0) := by
        have := World.alloc_heap_new (w.alloc (.cells #[.string ⟨#[]⟩, .bool false, .slice none 0 0, .bool false, .slice none 0 0] 25)) (.cells #[.string ⟨l[0].s.toArray⟩, .bool false, .slice none 0 0, .bool false, .slice none 0 0] 25)
        rw [World.size_alloc] at this
        exact this
      have hb1 := (Below.refl _ (w.alloc (.cells #[.string ⟨#[]⟩, .bool false, .slice none 0 0, .bool false, .slice none 0 0] 25))).alloc (Nat.le_refl _) (.cells #[.string ⟨l[0].s.toArray⟩, .bool false, .slice none 0 0, .bool false, .slice none 0 0] 25)
      have HZ1 := hide ((unhide HM).below hb1 (unhide HM).lt)
      have HM1 := hide hm1
      have HB1 : Hid (Below w.heap.size w ((w.alloc (.cells #[.string ⟨#[]⟩, .bool false, .slice none 0 0, .bool false, .slice none 0 0] 25)).alloc (.cells #[.string ⟨l[0].s.toArray⟩, .bool false, .slice none 0 0, .bool false, .slice none 0 0] 25))) := (unhide HB).trans (hb1.mono (by simp))
      have HL1 := hide ((unhide HL).below (unhide HB1))
      generalize l[0].s = nm at *
      generalize l[0].kind = kd at *
      clear hm1 hb1 HM HB
      have hdr := (unhide HL1).drop 1 hpos hc1
      have hlen : (l.drop 1).length = l.length - 1 := by simp
      rw [← hlen] at hdr
      have hc3 : (l.drop 1).length ≤ cap - 1 := by omega
      simp only [Nat.one_mul] at hdr
      have HLEN := hide hlen
      clear hlen hm0
      have hcase : (l.drop 1).length = 0 ∨ 0 < (l.drop 1).length := by omega
      rcases hcase with hr0 | hr0
      · have hln : l.length = 1 := by have := unhide HLEN; omega
        have hdn : l.drop 1 = [] := List.eq_nil_of_length_eq_zero hr0
        have hfull := hide (show rheadP l = some (nm, false, [], false, []) by rw [unhide hq, hdn]; rfl)
        have HRR : Hid (R = if rrightM ⟨nm, false, [], false, bareG []⟩ then some ⟨nm, false, [], false, bareG []⟩ else none) := by rw [Hid, unhide HR, unhide hfull]
        have HFT := hide (unhide HF _ _ _ _ _ (unhide hfull)).1
        clear hdr HL HL1 i2 i2' hc3 hpos
        rw [hln] at hc1 ⊢
        clear hfull hq HR HF HLEN hln hdn hr0 hsz
        go_enter Tryd.func18, Tryd.ntmps18
        by_cases hcap1 : cap = 1
        · subst hcap1
          go_upto_region 5 with fail
          generalize ((w.alloc (.cells #[.string ⟨#[]⟩, .bool false, .slice none 0 0, .bool false, .slice none 0 0] 25)).alloc (.cells #[.string ⟨nm.toArray⟩, .bool false, .slice none 0 0, .bool false, .slice none 0 0] 25)) = W at *
          have HPS : Hid (PS w W nm false [] none 0 false (some ⟨g, o, none⟩) (0) []) := ⟨unhide HZ1, unhide HM1, unhide HB1, World.ownsRow_nil _ _ _ _, ⟨_, _, rfl, fun i hi => by simp at hi⟩⟩
          clear HZ1 HM1 HB1 a00 a01
          have hps := unhide HPS
          have hsW : w.heap.size + 1 < W.heap.size := hps.m.lt
          have HPL := hide (rBareN_any (.slice (some ⟨g, o, none⟩) 0 0) [] W (by first | omega | simp) hps.tk)
          go_wp2_with fail
          refine (unhide HPL).mono ?_
          rintro e W2 ⟨v', rfl, htk2, hb2, hnew⟩
          obtain ⟨pb, cb, rfl, _⟩ := id htk2
          have hs2 := hb2.size
          have hm2 := hps.m.below hb2 hps.m.lt
          have hm1 := hps.z.below hb2 hps.z.lt
          have mf4 := hm2.frozen 4
          obtain ⟨mc0, mc1, mc2, mc3, mc4⟩ := hm2.five
          have hro2 := ownsRow_bel hps.row hb2
          have x1 := hide (hm1.setCell (b := w.heap.size + 1) (i := 4) (by omega) (.slice pb (bareG []).length cb))
          have x2 := hide (hm2.set4 (.slice pb (bareG []).length cb))
          have x4 : Below w.heap.size w (W2.setCell ⟨w.heap.size + 1, 4, none⟩ (.slice pb (bareG []).length cb)) := (hps.be.trans (hb2.mono (by omega))).setCell (p := ⟨w.heap.size + 1, 4, none⟩) (by show _ ≤ w.heap.size + 1; omega) _
          have hzz : (W2.setCell ⟨w.heap.size + 1, 4, none⟩ (.slice pb (bareG []).length cb)).heap.size = W2.heap.size := by simp
          have x5 : TkG W2.heap.size (W2.setCell ⟨w.heap.size + 1, 4, none⟩ (.slice pb (bareG []).length cb)) (.slice pb (bareG []).length cb) (bareG []) := by
            refine htk2.keepsS (S := fun b => b ≠ w.heap.size + 1) (fun b hb => Below.heap_setCell _ _ _ _ hb) (fun g o hp => ?_)
            have := hnew g o _ _ (by rw [hp])
            omega
          have x7 : StG W2.heap.size (W2.setCell ⟨w.heap.size + 1, 4, none⟩ (.slice pb (bareG []).length cb)) (.slice none 0 0) [] := by
            refine (StG.of hro2 rfl).keepsS (S := fun b => b ≠ w.heap.size + 1) (fun b hb => Below.heap_setCell _ _ _ _ hb) (fun g o hp => ?_)
            have := newS_of hro2 g o _ _ (by rw [hp])
            omega
          have x6 : McV (W2.setCell ⟨w.heap.size + 1, 4, none⟩ (.slice pb (bareG []).length cb)).heap.size (W2.setCell ⟨w.heap.size + 1, 4, none⟩ (.slice pb (bareG []).length cb)) (.agg #[.string ⟨nm.toArray⟩, .bool false, .slice none 0 0, .bool false, .slice pb (bareG []).length cb]) ⟨nm, false, [], false, bareG []⟩ :=
            ⟨_, _, rfl, by rw [hzz]; exact x7, by rw [hzz]; exact x5, ownsRow_room hro2⟩
          have HRG := hide (rRight_any _ _ _ (unhide HFT) x6)
          have HX6 := hide x6
          have HX4 := hide x4
          have HZZ := hide hzz
          have HNP := hide (newS_of hro2)
          have HNB := hide hnew
          clear hb2 htk2 hm1 HPL x5 x6 x4 x7 hzz hm2 hro2 hnew hps
          go_wp2_with fail
          refine (unhide HRG).mono ?_
          rintro e W4 ⟨rfl, hb4⟩
          have hs4 := hb4.size
          rw [unhide HZZ] at hs4
          have h1l := (unhide x1).lt
          have h2l := (unhide x2).lt
          have hm1 := (unhide x1).below hb4 h1l
          have hm2 := (unhide x2).below hb4 h2l
          have HB5 := hide ((unhide HX4).trans (hb4.mono (unhide HX4).size))
          have HX7 := hide (McV.below (unhide HX6) hb4)
          clear mc0 mc1 mc2 mc3 mc4 mf4 HX6 HX4 HRG x1 x2 hb4 HZZ h1l h2l
          have HM1 := hide hm1
          obtain ⟨m0, m1, m2, m3, m4⟩ := hm1.five
          obtain ⟨k0, k1, k2, k3, k4⟩ := hm2.five
          have n0 := hm1.frozen 0
          have n1 := hm1.frozen 1
          have n2 := hm1.frozen 2
          have n3 := hm1.frozen 3
          have n4 := hm1.frozen 4
          clear hm1 hm2
          generalize rrightM ⟨nm, false, [], false, bareG []⟩ = G at *
          cases G
          · go_wp2
            refine bodyPost_ret (res18P rfl ((unhide HM1).put _ _ _ _ _) rfl) rfl ⟨below_put5 (unhide HB5) (Nat.le_refl _) _ _ _ _ _, .inl ⟨by rw [unhide HRR]; rfl, rfl⟩⟩
          · go_wp2
            refine bodyPost_ret (res18P rfl ((unhide HM1).put _ _ _ _ _) rfl) rfl ⟨below_put5 (unhide HB5) (Nat.le_refl _) _ _ _ _ _, .inr ⟨_, _, by rw [unhide HRR]; rfl, rfl, ?_⟩⟩
            obtain ⟨pv', bv', e', s1, s2, s3⟩ := unhide HX7
            have hee : pv' = .slice none 0 0 ∧ bv' = .slice pb (bareG []).length cb := by
              simp at e'
              exact ⟨e'.1.symm, e'.2.symm⟩
            obtain ⟨rfl, rfl⟩ := hee
            have hkS : keepsS (fun b => b ≠ w.heap.size) W4 (put5 W4 w.heap.size (.string ⟨nm.toArray⟩) false (.slice none 0 0) false (.slice pb (bareG []).length cb)) := keepsS_put5 _ _ _ _ _ _ _
            refine ⟨_, _, rfl, ?_, ?_, s3⟩
            · have := s1.keepsS hkS (fun g o hp => by have := unhide HNP g o _ _ (by rw [hp]); show g ≠ _; omega)
              exact this.mono (Nat.le_of_eq (size_put5 W4 w.heap.size _ _ _ _ _).symm)
            · have := s2.keepsS hkS (fun g o hp => by have := unhide HNB g o _ _ (by rw [hp]); show g ≠ _; omega)
              exact this.mono (Nat.le_of_eq (size_put5 W4 w.heap.size _ _ _ _ _).symm)
        · go_upto_region 5 with fail
          generalize ((w.alloc (.cells #[.string ⟨#[]⟩, .bool false, .slice none 0 0, .bool false, .slice none 0 0] 25)).alloc (.cells #[.string ⟨nm.toArray⟩, .bool false, .slice none 0 0, .bool false, .slice none 0 0] 25)) = W at *
          have HPS : Hid (PS w W nm false [] none 0 false (some ⟨g, o + 6, none⟩) (cap - 1) []) := ⟨unhide HZ1, unhide HM1, unhide HB1, World.ownsRow_nil _ _ _ _, ⟨_, _, rfl, fun i hi => by simp at hi⟩⟩
          clear HZ1 HM1 HB1 a00 a01
          have hps := unhide HPS
          have hsW : w.heap.size + 1 < W.heap.size := hps.m.lt
          have HPL := hide (rBareN_any (.slice (some ⟨g, o + 6, none⟩) 0 (cap - 1)) [] W (by first | omega | simp) hps.tk)
          go_wp2_with fail
          refine (unhide HPL).mono ?_
          rintro e W2 ⟨v', rfl, htk2, hb2, hnew⟩
          obtain ⟨pb, cb, rfl, _⟩ := id htk2
          have hs2 := hb2.size
          have hm2 := hps.m.below hb2 hps.m.lt
          have hm1 := hps.z.below hb2 hps.z.lt
          have mf4 := hm2.frozen 4
          obtain ⟨mc0, mc1, mc2, mc3, mc4⟩ := hm2.five
          have hro2 := ownsRow_bel hps.row hb2
          have x1 := hide (hm1.setCell (b := w.heap.size + 1) (i := 4) (by omega) (.slice pb (bareG []).length cb))
          have x2 := hide (hm2.set4 (.slice pb (bareG []).length cb))
          have x4 : Below w.heap.size w (W2.setCell ⟨w.heap.size + 1, 4, none⟩ (.slice pb (bareG []).length cb)) := (hps.be.trans (hb2.mono (by omega))).setCell (p := ⟨w.heap.size + 1, 4, none⟩) (by show _ ≤ w.heap.size + 1; omega) _
          have hzz : (W2.setCell ⟨w.heap.size + 1, 4, none⟩ (.slice pb (bareG []).length cb)).heap.size = W2.heap.size := by simp
          have x5 : TkG W2.heap.size (W2.setCell ⟨w.heap.size + 1, 4, none⟩ (.slice pb (bareG []).length cb)) (.slice pb (bareG []).length cb) (bareG []) := by
            refine htk2.keepsS (S := fun b => b ≠ w.heap.size + 1) (fun b hb => Below.heap_setCell _ _ _ _ hb) (fun g o hp => ?_)
            have := hnew g o _ _ (by rw [hp])
            omega
          have x7 : StG W2.heap.size (W2.setCell ⟨w.heap.size + 1, 4, none⟩ (.slice pb (bareG []).length cb)) (.slice none 0 0) [] := by
            refine (StG.of hro2 rfl).keepsS (S := fun b => b ≠ w.heap.size + 1) (fun b hb => Below.heap_setCell _ _ _ _ hb) (fun g o hp => ?_)
            have := newS_of hro2 g o _ _ (by rw [hp])
            omega
          have x6 : McV (W2.setCell ⟨w.heap.size + 1, 4, none⟩ (.slice pb (bareG []).length cb)).heap.size (W2.setCell ⟨w.heap.size + 1, 4, none⟩ (.slice pb (bareG []).length cb)) (.agg #[.string ⟨nm.toArray⟩, .bool false, .slice none 0 0, .bool false, .slice pb (bareG []).length cb]) ⟨nm, false, [], false, bareG []⟩ :=
            ⟨_, _, rfl, by rw [hzz]; exact x7, by rw [hzz]; exact x5, ownsRow_room hro2⟩
          have HRG := hide (rRight_any _ _ _ (unhide HFT) x6)
          have HX6 := hide x6
          have HX4 := hide x4
          have HZZ := hide hzz
          have HNP := hide (newS_of hro2)
          have HNB := hide hnew
          clear hb2 htk2 hm1 HPL x5 x6 x4 x7 hzz hm2 hro2 hnew hps
          go_wp2_with fail
          refine (unhide HRG).mono ?_
          rintro e W4 ⟨rfl, hb4⟩
          have hs4 := hb4.size
          rw [unhide HZZ] at hs4
          have h1l := (unhide x1).lt
          have h2l := (unhide x2).lt
          have hm1 := (unhide x1).below hb4 h1l
          have hm2 := (unhide x2).below hb4 h2l
          have HB5 := hide ((unhide HX4).trans (hb4.mono (unhide HX4).size))
          have HX7 := hide (McV.below (unhide HX6) hb4)
          clear mc0 mc1 mc2 mc3 mc4 mf4 HX6 HX4 HRG x1 x2 hb4 HZZ h1l h2l
          have HM1 := hide hm1
          obtain ⟨m0, m1, m2, m3, m4⟩ := hm1.five
          obtain ⟨k0, k1, k2, k3, k4⟩ := hm2.five
          have n0 := hm1.frozen 0
          have n1 := hm1.frozen 1
          have n2 := hm1.frozen 2
          have n3 := hm1.frozen 3
          have n4 := hm1.frozen 4
          clear hm1 hm2
          generalize rrightM ⟨nm, false, [], false, bareG []⟩ = G at *
          cases G
          · go_wp2
            refine bodyPost_ret (res18P rfl ((unhide HM1).put _ _ _ _ _) rfl) rfl ⟨below_put5 (unhide HB5) (Nat.le_refl _) _ _ _ _ _, .inl ⟨by rw [unhide HRR]; rfl, rfl⟩⟩
          · go_wp2
            refine bodyPost_ret (res18P rfl ((unhide HM1).put _ _ _ _ _) rfl) rfl ⟨below_put5 (unhide HB5) (Nat.le_refl _) _ _ _ _ _, .inr ⟨_, _, by rw [unhide HRR]; rfl, rfl, ?_⟩⟩
            obtain ⟨pv', bv', e', s1, s2, s3⟩ := unhide HX7
            have hee : pv' = .slice none 0 0 ∧ bv' = .slice pb (bareG []).length cb := by
              simp at e'
              exact ⟨e'.1.symm, e'.2.symm⟩
            obtain ⟨rfl, rfl⟩ := hee
            have hkS : keepsS (fun b => b ≠ w.heap.size) W4 (put5 W4 w.heap.size (.string ⟨nm.toArray⟩) false (.slice none 0 0) false (.slice pb (bareG []).length cb)) := keepsS_put5 _ _ _ _ _ _ _
            refine ⟨_, _, rfl, ?_, ?_, s3⟩
            · have := s1.keepsS hkS (fun g o hp => by have := unhide HNP g o _ _ (by rw [hp]); show g ≠ _; omega)
              exact this.mono (Nat.le_of_eq (size_put5 W4 w.heap.size _ _ _ _ _).symm)
            · have := s2.keepsS hkS (fun g o hp => by have := unhide HNB g o _ _ (by rw [hp]); show g ≠ _; omega)
              exact this.mono (Nat.le_of_eq (size_put5 W4 w.heap.size _ _ _ _ _).symm)
      · have hcap1 : ¬ cap = 1 := by omega
        rw [if_neg hcap1] at hdr
        have hsz1 : (l.drop 1).length * 56 ≤ 140737488355328 := by have := unhide HLEN; omega
        have hc4 : cap - 1 ≤ 2 ^ 63 - 1 := by omega
        have hQ := rheadQ_pos nm (l.drop 1) hr0
        rw [← unhide hq] at hQ
        have HQ := hide hQ
        have HDR := hide hdr
        have hll : (l.drop 1).length ≤ l.length := by have := unhide HLEN; omega
        clear hQ hq hdr HL HL1
        go_enter Tryd.func18, Tryd.ntmps18
        go_upto_region 5 with fail
        rw [← unhide HLEN]
        generalize ((w.alloc (.cells #[.string ⟨#[]⟩, .bool false, .slice none 0 0, .bool false, .slice none 0 0] 25)).alloc (.cells #[.string ⟨nm.toArray⟩, .bool false, .slice none 0 0, .bool false, .slice none 0 0] 25)) = W at *
        clear HLEN
        generalize l.drop 1 = l1 at *
        generalize cap - 1 = cap1 at *
        have hsW : w.heap.size + 1 < W.heap.size := (unhide HM1).lt
        obtain ⟨g', o', hgo, _, b0⟩ := (unhide HDR).at 0 hr0
        obtain ⟨rfl, rfl⟩ : g = g' ∧ o + 6 = o' := by simpa using hgo
        simp only [Nat.zero_mul, Nat.add_zero] at b0
        have b1 := b0.2.1
        have b4 := b0.2.2.2.2.1
        have i5 : (0 : Int) < (l1.length : Int) := by omega
        have es := beq_list l1[0].s [40]
        clear b0 hgo a00 a01
        generalize l1[0] = b at *
        have hm1 := unhide HM1
        have hz1 := unhide HZ1
        obtain ⟨k0, k1, k2, k3, k4⟩ := hz1.five
        have y0 := hz1.frozen 0
        have y1 := hz1.frozen 1
        have y2 := hz1.frozen 2
        have y3 := hz1.frozen 3
        have y4 := hz1.frozen 4
        have f1 := hm1.frozen 1
        have m1 := hm1.five.2.1
        clear hm1 hz1
        by_cases hs : b.s = [40]
        · rw [decide_eq_true hs] at es
          cases hsp : b.sp
          · have HQ2 : Hid (rheadP l = (rparP (l1.drop 1)).map (fun x => (nm, true, x.1, x.2.1, (l1.drop 1).drop x.2.2))) := by rw [Hid, unhide HQ, if_pos ⟨hs, hsp⟩]
            rw [hsp] at b4
            clear hs hsp HQ
            have hm3 := (unhide HM1).set1 true
            have hz3 := (unhide HZ1).setCell (b := w.heap.size + 1) (i := 1) (by omega) (.bool true)
            have hb3 : Below w.heap.size w (W.setCell ⟨w.heap.size + 1, 1, none⟩ (.bool true)) := (unhide HB1).setCell (p := ⟨w.heap.size + 1, 1, none⟩) (by show _ ≤ w.heap.size + 1; omega) _
            have hd3 := (unhide HDR).below ((Below.refl w.heap.size W).setCell (p := ⟨w.heap.size + 1, 1, none⟩) (by show _ ≤ w.heap.size + 1; omega) (.bool true))
            have hzz : (W.setCell ⟨w.heap.size + 1, 1, none⟩ (.bool true)).heap.size = W.heap.size := by simp
            have HM3 := hide hm3
            have HZ3 := hide hz3
            have HB3 := hide hb3
            have HD3 := hide hd3
            have HZZ := hide hzz
            clear hm3 hz3 hb3 hd3 hzz HM1 HZ1 HB1 HDR
            have el : (l1.drop 1).length = l1.length - 1 := by simp
            have hszd : (l1.drop 1).length * 56 ≤ 140737488355328 := by omega
            have hpp := hide (fun (p : Option Addr) (cap : Nat) (h : TkG (w.heap.size + 1) (W.setCell ⟨w.heap.size + 1, 1, none⟩ (.bool true)) (.slice p (l1.drop 1).length cap) (l1.drop 1)) => rparams_any p cap (w.heap.size + 1) (l1.drop 1) _ _ _ _ hszd (by rw [unhide HZZ]; omega) h (unhide HM3))
            have hdr4 := (unhide HD3).drop 1 hr0 hc3
            rw [← el] at hdr4
            simp only [Nat.one_mul, Nat.add_assoc, Nat.reduceAdd] at hdr4
            have hcl := hide (unhide hpp _ _ (hdr4.mono (by omega)))
            clear hdr4 hpp
            by_cases hcap2 : cap1 = 1
            · subst hcap2
              have hl11 : l1.length = 1 := by omega
              have hn : l1.drop 1 = [] := List.eq_nil_of_length_eq_zero (by omega)
              have HRN : Hid (R = none) := by rw [Hid, unhide HR, unhide HQ2, hn]; rfl
              have hpn : rparP (l1.drop 1) = none := by rw [hn]; rfl
              rw [hpn, el, if_pos rfl, hl11] at hcl
              simp only [Nat.sub_self] at hcl
              clear hn hpn HR HQ2 el hszd HD3 i5 hsz1 hr0 hc3 hll
              rw [hl11]
              clear hl11
              go_wp2_with fail
              refine (unhide hcl).mono ?_
              rintro e W3 ⟨hb4, (⟨hR3, rfl, q3, n3, c3, more3, hm4⟩ | ⟨ps, more, k, pv, hR3, rfl, hm4, hrow4⟩)⟩
              · have hz4 := (unhide HZ3).below hb4 (by omega)
                obtain ⟨z0, z1, z2, z3, z4⟩ := hz4.five
                have n0 := hz4.frozen 0
                have n1 := hz4.frozen 1
                have n2 := hz4.frozen 2
                have n3' := hz4.frozen 3
                have n4 := hz4.frozen 4
                have HZ4 := hide hz4
                have HB4 := hide ((unhide HB3).trans (hb4.mono (by omega)))
                clear hz4 hb4 hm4 hR3
                go_wp2
                refine bodyPost_ret (res18P rfl ((unhide HZ4).put _ _ _ _ _) rfl) rfl ⟨below_put5 (unhide HB4) (Nat.le_refl _) _ _ _ _ _, .inl ⟨unhide HRN, rfl⟩⟩
              · cases hR3
            · rw [if_neg hcap2, el] at hcl
              have EL := hide el
              clear el
              go_wp2_with fail
              refine (unhide hcl).mono ?_
              rintro e W3 ⟨hb4, (⟨hR3, rfl, q3, n3, c3, more3, hm4⟩ | ⟨ps, more, k, pv, hR3, rfl, hm4, hrow4⟩)⟩
              · have HRN : Hid (R = none) := by rw [Hid, unhide HR, unhide HQ2, hR3]; rfl
                have hz4 := (unhide HZ3).below hb4 (by omega)
                obtain ⟨z0, z1, z2, z3, z4⟩ := hz4.five
                have n0 := hz4.frozen 0
                have n1 := hz4.frozen 1
                have n2 := hz4.frozen 2
                have n3' := hz4.frozen 3
                have n4 := hz4.frozen 4
                have HZ4 := hide hz4
                have HB4 := hide ((unhide HB3).trans (hb4.mono (by omega)))
                clear hz4 hb4 hm4 hR3
                go_wp2
                refine bodyPost_ret (res18P rfl ((unhide HZ4).put _ _ _ _ _) rfl) rfl ⟨below_put5 (unhide HB4) (Nat.le_refl _) _ _ _ _ _, .inl ⟨unhide HRN, rfl⟩⟩
              · have hkl := rparP_le _ _ hR3
                simp only at hkl
                rw [unhide EL] at hkl
                have hfull : Hid (rheadP l = some (nm, true, ps, more, (l1.drop 1).drop k)) := by rw [Hid, unhide HQ2, hR3]; rfl
                have HRR : Hid (R = if rrightM ⟨nm, true, ps, more, bareG ((l1.drop 1).drop k)⟩ then some ⟨nm, true, ps, more, bareG ((l1.drop 1).drop k)⟩ else none) := by rw [Hid, unhide HR, unhide hfull]
                have HFT := hide (unhide HF _ _ _ _ _ (unhide hfull)).1
                obtain ⟨q, c, rfl⟩ := ownsRow_slice hrow4
                have hle2 : l1.length - (1 + k) = ((l1.drop 1).drop k).length := by simp; omega
                have hl7 : ((l1.drop 1).drop k).length * 56 ≤ 140737488355328 := by rw [← hle2]; omega
                have hs3 := hb4.size
                rw [unhide HZZ] at hs3 hrow4
                have htk7 := ((unhide HD3).below (hb4.mono (by omega))).drop (1 + k) (by omega) hc3
                rw [hle2, ← List.drop_drop] at htk7
                have hps4 : Hid (PS w W3 nm true ps q c more (if cap1 = 1 + k then some ⟨g, o + 6, none⟩ else some ⟨g, o + 6 + (1 + k) * 6, none⟩) (cap1 - (1 + k)) ((l1.drop 1).drop k)) :=
                  ⟨(unhide HZ3).below hb4 (by omega), hm4, (unhide HB3).trans (hb4.mono (by omega)), ownsRow_base hrow4 (by omega), htk7.mono (by omega)⟩
                have j1 : IntKind.i64.wrap (1 + (k : Int)) = 1 + (k : Int) := by rw [IntKind.wrap_i64]; omega
                have j2 : (1 + (k : Int)).toNat = 1 + k := by omega
                have j3 : (0 : Int) ≤ 1 + (k : Int) := by omega
                have j4 : 1 + (k : Int) ≤ (l1.length : Int) := by omega
                have j5 : ¬ (k : Int) < 0 := by omega
                have HLE := hide hle2
                clear hle2 htk7 hb4 hm4 hrow4 hR3 hfull HQ2 HR HF HZ3 HB3 HM3 HD3
                go_upto_region 13 with fail
                rw [unhide HLE]
                clear HLE EL
                generalize (if cap1 = 1 + k then some (⟨g, o + 6, none⟩ : Addr) else some ⟨g, o + 6 + (1 + k) * 6, none⟩) = p7 at *
                generalize cap1 - (1 + k) = c7 at *
                generalize (l1.drop 1).drop k = l7 at *
                have HPS := hps4
                clear hps4 j1 j2 j3 j4 j5 hkl
                have hps := unhide HPS
                have hsW : w.heap.size + 1 < W3.heap.size := hps.m.lt
                have HPL := hide (rBareN_any (.slice p7 l7.length c7) l7 W3 (by first | omega | simp) hps.tk)
                go_wp2_with fail
                refine (unhide HPL).mono ?_
                rintro e W2 ⟨v', rfl, htk2, hb2, hnew⟩
                obtain ⟨pb, cb, rfl, _⟩ := id htk2
                have hs2 := hb2.size
                have hm2 := hps.m.below hb2 hps.m.lt
                have hm1 := hps.z.below hb2 hps.z.lt
                have mf4 := hm2.frozen 4
                obtain ⟨mc0, mc1, mc2, mc3, mc4⟩ := hm2.five
                have hro2 := ownsRow_bel hps.row hb2
                have x1 := hide (hm1.setCell (b := w.heap.size + 1) (i := 4) (by omega) (.slice pb (bareG l7).length cb))
                have x2 := hide (hm2.set4 (.slice pb (bareG l7).length cb))
                have x4 : Below w.heap.size w (W2.setCell ⟨w.heap.size + 1, 4, none⟩ (.slice pb (bareG l7).length cb)) := (hps.be.trans (hb2.mono (by omega))).setCell (p := ⟨w.heap.size + 1, 4, none⟩) (by show _ ≤ w.heap.size + 1; omega) _
                have hzz : (W2.setCell ⟨w.heap.size + 1, 4, none⟩ (.slice pb (bareG l7).length cb)).heap.size = W2.heap.size := by simp
                have x5 : TkG W2.heap.size (W2.setCell ⟨w.heap.size + 1, 4, none⟩ (.slice pb (bareG l7).length cb)) (.slice pb (bareG l7).length cb) (bareG l7) := by
                  refine htk2.keepsS (S := fun b => b ≠ w.heap.size + 1) (fun b hb => Below.heap_setCell _ _ _ _ hb) (fun g o hp => ?_)
                  have := hnew g o _ _ (by rw [hp])
                  omega
                have x7 : StG W2.heap.size (W2.setCell ⟨w.heap.size + 1, 4, none⟩ (.slice pb (bareG l7).length cb)) (.slice q ps.length c) ps := by
                  refine (StG.of hro2 rfl).keepsS (S := fun b => b ≠ w.heap.size + 1) (fun b hb => Below.heap_setCell _ _ _ _ hb) (fun g o hp => ?_)
                  have := newS_of hro2 g o _ _ (by rw [hp])
                  omega
                have x6 : McV (W2.setCell ⟨w.heap.size + 1, 4, none⟩ (.slice pb (bareG l7).length cb)).heap.size (W2.setCell ⟨w.heap.size + 1, 4, none⟩ (.slice pb (bareG l7).length cb)) (.agg #[.string ⟨nm.toArray⟩, .bool true, .slice q ps.length c, .bool more, .slice pb (bareG l7).length cb]) ⟨nm, true, ps, more, bareG l7⟩ :=
                  ⟨_, _, rfl, by rw [hzz]; exact x7, by rw [hzz]; exact x5, ownsRow_room hro2⟩
                have HRG := hide (rRight_any _ _ _ (unhide HFT) x6)
                have HX6 := hide x6
                have HX4 := hide x4
                have HZZ := hide hzz
                have HNP := hide (newS_of hro2)
                have HNB := hide hnew
                clear hb2 htk2 hm1 HPL x5 x6 x4 x7 hzz hm2 hro2 hnew hps
                go_wp2_with fail
                refine (unhide HRG).mono ?_
                rintro e W4 ⟨rfl, hb4⟩
                have hs4 := hb4.size
                rw [unhide HZZ] at hs4
                have h1l := (unhide x1).lt
                have h2l := (unhide x2).lt
                have hm1 := (unhide x1).below hb4 h1l
                have hm2 := (unhide x2).below hb4 h2l
                have HB5 := hide ((unhide HX4).trans (hb4.mono (unhide HX4).size))
                have HX7 := hide (McV.below (unhide HX6) hb4)
                clear mc0 mc1 mc2 mc3 mc4 mf4 HX6 HX4 HRG x1 x2 hb4 HZZ h1l h2l
                have HM1 := hide hm1
                obtain ⟨m0, m1, m2, m3, m4⟩ := hm1.five
                obtain ⟨k0, k1, k2, k3, k4⟩ := hm2.five
                have n0 := hm1.frozen 0
                have n1 := hm1.frozen 1
                have n2 := hm1.frozen 2
                have n3 := hm1.frozen 3
                have n4 := hm1.frozen 4
                clear hm1 hm2
                generalize rrightM ⟨nm, true, ps, more, bareG l7⟩ = G at *
                cases G
                · go_wp2
                  refine bodyPost_ret (res18P rfl ((unhide HM1).put _ _ _ _ _) rfl) rfl ⟨below_put5 (unhide HB5) (Nat.le_refl _) _ _ _ _ _, .inl ⟨by rw [unhide HRR]; rfl, rfl⟩⟩
                · go_wp2
                  refine bodyPost_ret (res18P rfl ((unhide HM1).put _ _ _ _ _) rfl) rfl ⟨below_put5 (unhide HB5) (Nat.le_refl _) _ _ _ _ _, .inr ⟨_, _, by rw [unhide HRR]; rfl, rfl, ?_⟩⟩
                  obtain ⟨pv', bv', e', s1, s2, s3⟩ := unhide HX7
                  have hee : pv' = .slice q ps.length c ∧ bv' = .slice pb (bareG l7).length cb := by
                    simp at e'
                    exact ⟨e'.1.symm, e'.2.symm⟩
                  obtain ⟨rfl, rfl⟩ := hee
                  have hkS : keepsS (fun b => b ≠ w.heap.size) W4 (put5 W4 w.heap.size (.string ⟨nm.toArray⟩) true (.slice q ps.length c) more (.slice pb (bareG l7).length cb)) := keepsS_put5 _ _ _ _ _ _ _
                  refine ⟨_, _, rfl, ?_, ?_, s3⟩
                  · have := s1.keepsS hkS (fun g o hp => by have := unhide HNP g o _ _ (by rw [hp]); show g ≠ _; omega)
                    exact this.mono (Nat.le_of_eq (size_put5 W4 w.heap.size _ _ _ _ _).symm)
                  · have := s2.keepsS hkS (fun g o hp => by have := unhide HNB g o _ _ (by rw [hp]); show g ≠ _; omega)
                    exact this.mono (Nat.le_of_eq (size_put5 W4 w.heap.size _ _ _ _ _).symm)
          · have hfull : Hid (rheadP l = some (nm, false, [], false, l1)) := by rw [Hid, unhide HQ, if_neg (by rw [hsp]; simp), if_neg (by rw [hsp]; simp)]
            have HRR : Hid (R = if rrightM ⟨nm, false, [], false, bareG l1⟩ then some ⟨nm, false, [], false, bareG l1⟩ else none) := by rw [Hid, unhide HR, unhide hfull]
            have HFT := hide (unhide HF _ _ _ _ _ (unhide hfull)).1
            have HPS : Hid (PS w W nm false [] none 0 false (some ⟨g, o + 6, none⟩) cap1 l1) := ⟨unhide HZ1, unhide HM1, unhide HB1, World.ownsRow_nil _ _ _ _, (unhide HDR).mono (unhide HB1).size⟩
            rw [hsp] at b4
            clear hs hsp HQ HR HF hfull HZ1 HM1 HB1 HDR
            have hps := unhide HPS
            have hsW : w.heap.size + 1 < W.heap.size := hps.m.lt
            have HPL := hide (rBareN_any (.slice (some ⟨g, o + 6, none⟩) l1.length cap1) l1 W (by first | omega | simp) hps.tk)
            go_wp2_with fail
            refine (unhide HPL).mono ?_
            rintro e W2 ⟨v', rfl, htk2, hb2, hnew⟩
            obtain ⟨pb, cb, rfl, _⟩ := id htk2
            have hs2 := hb2.size
            have hm2 := hps.m.below hb2 hps.m.lt
            have hm1 := hps.z.below hb2 hps.z.lt
            have mf4 := hm2.frozen 4
            obtain ⟨mc0, mc1, mc2, mc3, mc4⟩ := hm2.five
            have hro2 := ownsRow_bel hps.row hb2
            have x1 := hide (hm1.setCell (b := w.heap.size + 1) (i := 4) (by omega) (.slice pb (bareG l1).length cb))
            have x2 := hide (hm2.set4 (.slice pb (bareG l1).length cb))
            have x4 : Below w.heap.size w (W2.setCell ⟨w.heap.size + 1, 4, none⟩ (.slice pb (bareG l1).length cb)) := (hps.be.trans (hb2.mono (by omega))).setCell (p := ⟨w.heap.size + 1, 4, none⟩) (by show _ ≤ w.heap.size + 1; omega) _
            have hzz : (W2.setCell ⟨w.heap.size + 1, 4, none⟩ (.slice pb (bareG l1).length cb)).heap.size = W2.heap.size := by simp
            have x5 : TkG W2.heap.size (W2.setCell ⟨w.heap.size + 1, 4, none⟩ (.slice pb (bareG l1).length cb)) (.slice pb (bareG l1).length cb) (bareG l1) := by
              refine htk2.keepsS (S := fun b => b ≠ w.heap.size + 1) (fun b hb => Below.heap_setCell _ _ _ _ hb) (fun g o hp => ?_)
              have := hnew g o _ _ (by rw [hp])
              omega
            have x7 : StG W2.heap.size (W2.setCell ⟨w.heap.size + 1, 4, none⟩ (.slice pb (bareG l1).length cb)) (.slice none 0 0) [] := by
              refine (StG.of hro2 rfl).keepsS (S := fun b => b ≠ w.heap.size + 1) (fun b hb => Below.heap_setCell _ _ _ _ hb) (fun g o hp => ?_)
              have := newS_of hro2 g o _ _ (by rw [hp])
              omega
            have x6 : McV (W2.setCell ⟨w.heap.size + 1, 4, none⟩ (.slice pb (bareG l1).length cb)).heap.size (W2.setCell ⟨w.heap.size + 1, 4, none⟩ (.slice pb (bareG l1).length cb)) (.agg #[.string ⟨nm.toArray⟩, .bool false, .slice none 0 0, .bool false, .slice pb (bareG l1).length cb]) ⟨nm, false, [], false, bareG l1⟩ :=
              ⟨_, _, rfl, by rw [hzz]; exact x7, by rw [hzz]; exact x5, ownsRow_room hro2⟩
            have HRG := hide (rRight_any _ _ _ (unhide HFT) x6)
            have HX6 := hide x6
            have HX4 := hide x4
            have HZZ := hide hzz
            have HNP := hide (newS_of hro2)
            have HNB := hide hnew
            clear hb2 htk2 hm1 HPL x5 x6 x4 x7 hzz hm2 hro2 hnew hps
            go_wp2_with fail
            refine (unhide HRG).mono ?_
            rintro e W4 ⟨rfl, hb4⟩
            have hs4 := hb4.size
            rw [unhide HZZ] at hs4
            have h1l := (unhide x1).lt
            have h2l := (unhide x2).lt
            have hm1 := (unhide x1).below hb4 h1l
            have hm2 := (unhide x2).below hb4 h2l
            have HB5 := hide ((unhide HX4).trans (hb4.mono (unhide HX4).size))
            have HX7 := hide (McV.below (unhide HX6) hb4)
            clear mc0 mc1 mc2 mc3 mc4 mf4 HX6 HX4 HRG x1 x2 hb4 HZZ h1l h2l
            have HM1 := hide hm1
            obtain ⟨m0, m1, m2, m3, m4⟩ := hm1.five
            obtain ⟨k0, k1, k2, k3, k4⟩ := hm2.five
            have n0 := hm1.frozen 0
            have n1 := hm1.frozen 1
            have n2 := hm1.frozen 2
            have n3 := hm1.frozen 3
            have n4 := hm1.frozen 4
            clear hm1 hm2
            generalize rrightM ⟨nm, false, [], false, bareG l1⟩ = G at *
            cases G
            · go_wp2
              refine bodyPost_ret (res18P rfl ((unhide HM1).put _ _ _ _ _) rfl) rfl ⟨below_put5 (unhide HB5) (Nat.le_refl _) _ _ _ _ _, .inl ⟨by rw [unhide HRR]; rfl, rfl⟩⟩
            · go_wp2
              refine bodyPost_ret (res18P rfl ((unhide HM1).put _ _ _ _ _) rfl) rfl ⟨below_put5 (unhide HB5) (Nat.le_refl _) _ _ _ _ _, .inr ⟨_, _, by rw [unhide HRR]; rfl, rfl, ?_⟩⟩
              obtain ⟨pv', bv', e', s1, s2, s3⟩ := unhide HX7
              have hee : pv' = .slice none 0 0 ∧ bv' = .slice pb (bareG l1).length cb := by
                simp at e'
                exact ⟨e'.1.symm, e'.2.symm⟩
              obtain ⟨rfl, rfl⟩ := hee
              have hkS : keepsS (fun b => b ≠ w.heap.size) W4 (put5 W4 w.heap.size (.string ⟨nm.toArray⟩) false (.slice none 0 0) false (.slice pb (bareG l1).length cb)) := keepsS_put5 _ _ _ _ _ _ _
              refine ⟨_, _, rfl, ?_, ?_, s3⟩
              · have := s1.keepsS hkS (fun g o hp => by have := unhide HNP g o _ _ (by rw [hp]); show g ≠ _; omega)
                exact this.mono (Nat.le_of_eq (size_put5 W4 w.heap.size _ _ _ _ _).symm)
              · have := s2.keepsS hkS (fun g o hp => by have := unhide HNB g o _ _ (by rw [hp]); show g ≠ _; omega)
                exact this.mono (Nat.le_of_eq (size_put5 W4 w.heap.size _ _ _ _ _).symm)
        · rw [decide_eq_false hs] at es
          cases hsp : b.sp
          · have HRN : Hid (R = none) := by rw [Hid, unhide HR, unhide HQ, if_neg (by simp [hs]), if_pos hsp]
            rw [hsp] at b4
            clear hs hsp HQ
            go_wp2
            refine bodyPost_ret (res18P rfl ((unhide HZ1).put _ _ _ _ _) rfl) rfl ⟨below_put5 (unhide HB1) (Nat.le_refl _) _ _ _ _ _, .inl ⟨unhide HRN, rfl⟩⟩
          · have hfull : Hid (rheadP l = some (nm, false, [], false, l1)) := by rw [Hid, unhide HQ, if_neg (by rw [hsp]; simp), if_neg (by rw [hsp]; simp)]
            have HRR : Hid (R = if rrightM ⟨nm, false, [], false, bareG l1⟩ then some ⟨nm, false, [], false, bareG l1⟩ else none) := by rw [Hid, unhide HR, unhide hfull]
            have HFT := hide (unhide HF _ _ _ _ _ (unhide hfull)).1
            have HPS : Hid (PS w W nm false [] none 0 false (some ⟨g, o + 6, none⟩) cap1 l1) := ⟨unhide HZ1, unhide HM1, unhide HB1, World.ownsRow_nil _ _ _ _, (unhide HDR).mono (unhide HB1).size⟩
            rw [hsp] at b4
            clear hs hsp HQ HR HF hfull HZ1 HM1 HB1 HDR
            have hps := unhide HPS
            have hsW : w.heap.size + 1 < W.heap.size := hps.m.lt
            have HPL := hide (rBareN_any (.slice (some ⟨g, o + 6, none⟩) l1.length cap1) l1 W (by first | omega | simp) hps.tk)
            go_wp2_with fail
            refine (unhide HPL).mono ?_
            rintro e W2 ⟨v', rfl, htk2, hb2, hnew⟩
            obtain ⟨pb, cb, rfl, _⟩ := id htk2
            have hs2 := hb2.size
            have hm2 := hps.m.below hb2 hps.m.lt
            have hm1 := hps.z.below hb2 hps.z.lt
            have mf4 := hm2.frozen 4
            obtain ⟨mc0, mc1, mc2, mc3, mc4⟩ := hm2.five
            have hro2 := ownsRow_bel hps.row hb2
            have x1 := hide (hm1.setCell (b := w.heap.size + 1) (i := 4) (by omega) (.slice pb (bareG l1).length cb))
            have x2 := hide (hm2.set4 (.slice pb (bareG l1).length cb))
            have x4 : Below w.heap.size w (W2.setCell ⟨w.heap.size + 1, 4, none⟩ (.slice pb (bareG l1).length cb)) := (hps.be.trans (hb2.mono (by omega))).setCell (p := ⟨w.heap.size + 1, 4, none⟩) (by show _ ≤ w.heap.size + 1; omega) _
            have hzz : (W2.setCell ⟨w.heap.size + 1, 4, none⟩ (.slice pb (bareG l1).length cb)).heap.size = W2.heap.size := by simp
            have x5 : TkG W2.heap.size (W2.setCell ⟨w.heap.size + 1, 4, none⟩ (.slice pb (bareG l1).length cb)) (.slice pb (bareG l1).length cb) (bareG l1) := by
              refine htk2.keepsS (S := fun b => b ≠ w.heap.size + 1) (fun b hb => Below.heap_setCell _ _ _ _ hb) (fun g o hp => ?_)
              have := hnew g o _ _ (by rw [hp])
              omega
            have x7 : StG W2.heap.size (W2.setCell ⟨w.heap.size + 1, 4, none⟩ (.slice pb (bareG l1).length cb)) (.slice none 0 0) [] := by
              refine (StG.of hro2 rfl).keepsS (S := fun b => b ≠ w.heap.size + 1) (fun b hb => Below.heap_setCell _ _ _ _ hb) (fun g o hp => ?_)
              have := newS_of hro2 g o _ _ (by rw [hp])
              omega
            have x6 : McV (W2.setCell ⟨w.heap.size + 1, 4, none⟩ (.slice pb (bareG l1).length cb)).heap.size (W2.setCell ⟨w.heap.size + 1, 4, none⟩ (.slice pb (bareG l1).length cb)) (.agg #[.string ⟨nm.toArray⟩, .bool false, .slice none 0 0, .bool false, .slice pb (bareG l1).length cb]) ⟨nm, false, [], false, bareG l1⟩ :=
              ⟨_, _, rfl, by rw [hzz]; exact x7, by rw [hzz]; exact x5, ownsRow_room hro2⟩
            have HRG := hide (rRight_any _ _ _ (unhide HFT) x6)
            have HX6 := hide x6
            have HX4 := hide x4
            have HZZ := hide hzz
            have HNP := hide (newS_of hro2)
            have HNB := hide hnew
            clear hb2 htk2 hm1 HPL x5 x6 x4 x7 hzz hm2 hro2 hnew hps
            go_wp2_with fail
            refine (unhide HRG).mono ?_
            rintro e W4 ⟨rfl, hb4⟩
            have hs4 := hb4.size
            rw [unhide HZZ] at hs4
            have h1l := (unhide x1).lt
            have h2l := (unhide x2).lt
            have hm1 := (unhide x1).below hb4 h1l
            have hm2 := (unhide x2).below hb4 h2l
            have HB5 := hide ((unhide HX4).trans (hb4.mono (unhide HX4).size))
            have HX7 := hide (McV.below (unhide HX6) hb4)
            clear mc0 mc1 mc2 mc3 mc4 mf4 HX6 HX4 HRG x1 x2 hb4 HZZ h1l h2l
            have HM1 := hide hm1
            obtain ⟨m0, m1, m2, m3, m4⟩ := hm1.five
            obtain ⟨k0, k1, k2, k3, k4⟩ := hm2.five
            have n0 := hm1.frozen 0
            have n1 := hm1.frozen 1
            have n2 := hm1.frozen 2
            have n3 := hm1.frozen 3
            have n4 := hm1.frozen 4
            clear hm1 hm2
            generalize rrightM ⟨nm, false, [], false, bareG l1⟩ = G at *
            cases G
            · go_wp2
              refine bodyPost_ret (res18P rfl ((unhide HM1).put _ _ _ _ _) rfl) rfl ⟨below_put5 (unhide HB5) (Nat.le_refl _) _ _ _ _ _, .inl ⟨by rw [unhide HRR]; rfl, rfl⟩⟩
            · go_wp2
              refine bodyPost_ret (res18P rfl ((unhide HM1).put _ _ _ _ _) rfl) rfl ⟨below_put5 (unhide HB5) (Nat.le_refl _) _ _ _ _ _, .inr ⟨_, _, by rw [unhide HRR]; rfl, rfl, ?_⟩⟩
              obtain ⟨pv', bv', e', s1, s2, s3⟩ := unhide HX7
              have hee : pv' = .slice none 0 0 ∧ bv' = .slice pb (bareG l1).length cb := by
                simp at e'
                exact ⟨e'.1.symm, e'.2.symm⟩
              obtain ⟨rfl, rfl⟩ := hee
              have hkS : keepsS (fun b => b ≠ w.heap.size) W4 (put5 W4 w.heap.size (.string ⟨nm.toArray⟩) false (.slice none 0 0) false (.slice pb (bareG l1).length cb)) := keepsS_put5 _ _ _ _ _ _ _
              refine ⟨_, _, rfl, ?_, ?_, s3⟩
              · have := s1.keepsS hkS (fun g o hp => by have := unhide HNP g o _ _ (by rw [hp]); show g ≠ _; omega)
                exact this.mono (Nat.le_of_eq (size_put5 W4 w.heap.size _ _ _ _ _).symm)
              · have := s2.keepsS hkS (fun g o hp => by have := unhide HNB g o _ _ (by rw [hp]); show g ≠ _; omega)
                exact this.mono (Nat.le_of_eq (size_put5 W4 w.heap.size _ _ _ _ _).symm)
    · have i3 : (l[0].kind != 1) = true := by rw [bne_iff_ne]; exact hk
      have HRR : Hid (R = none) := by rw [Hid, unhide HR, unhide HHP, if_neg hk]
      clear hk
      clear hm0
      generalize l[0].kind = kd at *
      go_enter Tryd.func18, Tryd.ntmps18
      go_wp2
      exact bodyPost_ret (res18P rfl (unhide HM) rfl) rfl ⟨unhide HB, .inl ⟨unhide HRR, rfl⟩⟩
end Go.Proofs.YticiddcgafhkhaaDoor
