/-
  Package image: Make walked.
-/
import Derived.Test.YtkiebejidpebdaaOs
namespace Go.Proofs.Ytkiebejidpebdaa
open Go Go.RowKit Go.Shelf
set_option linter.unusedVariables false
set_option linter.unusedSimpArgs false

theorem mpA_made (w : World) : MpA (w.alloc (.map #[] 0)) w.heap.size 0 (fun _ => none) := ⟨.map [], World.ownsMap_made w _ _ _, LmD.nil⟩
theorem foll (t : ShT) {w wr : World} {gw gi bm nn cap : Nat} {M : Nat → Option (List (ShT × Int × Int))} {bs : List Int} {L : List Int → Option Int} {p : Option Addr} {path : List Int} (h : MkS w wr gw gi bm nn M t bs L) (hc : ((chkM t).2 == 0) = true) (hin : t.In w.heap.size w) (hp : PaG w.heap.size wr p path) (hpl : path.length ≤ maxLen) :
    Calls Try.prog 55 #[.pointer (some ⟨gw, 0, none⟩), .slice p path.length cap] wr (FoP w.heap.size M wr (x0M t) path) := by
  have := follow_any w.heap.size M wr gw 0 [x0M t] (x0M t) p cap path h.ni h.at' rfl h.be.size h.mx (hin.below h.be) (GdN.whole hc) hp hpl
  simpa using this
theorem foll_yes (t : ShT) {w wr : World} {gw gi bm nn cap : Nat} {M : Nat → Option (List (ShT × Int × Int))} {bs : List Int} {L : List Int → Option Int} {p : Option Addr} {path : List Int} (h : MkS w wr gw gi bm nn M t bs L) (hc : ((chkM t).2 == 0) = true) (hin : t.In w.heap.size w) (hp : PaG w.heap.size wr p path) (hpl : path.length ≤ maxLen) (ho : okP t path = true) :
    Calls Try.prog 55 #[.pointer (some ⟨gw, 0, none⟩), .slice p path.length cap] wr fun e w' => ∃ M' qv cv Q, e = .returned (.tuple #[.slice qv (List.length Q) cv, .agg (spC3 (spP t path)), .bool true]) ∧ MkS w w' gw gi bm nn M' t bs L ∧ NG w.heap.size wr w' ∧ w'.ownsRow wr.heap.size 121 3 (.slice qv (List.length Q) cv) (List.length Q) (stCs Q) ∧ StL M' Q (folM (x0M t) 0 path).1 :=
  (foll t h hc hin hp hpl).mono (by
    intro e w' hf
    obtain ⟨M', v, h1, h2, ⟨_, ⟨Q, h3, h4⟩, h5⟩ | ⟨h3, _⟩⟩ := h.gone hf
    · obtain ⟨qv, cv, rfl⟩ := row_slice h3
      exact ⟨M', qv, cv, Q, h5, h1, h2, h3, h4⟩
    · rw [ho] at h3; cases h3)
theorem foll_no (t : ShT) {w wr : World} {gw gi bm nn cap : Nat} {M : Nat → Option (List (ShT × Int × Int))} {bs : List Int} {L : List Int → Option Int} {p : Option Addr} {path : List Int} (h : MkS w wr gw gi bm nn M t bs L) (hc : ((chkM t).2 == 0) = true) (hin : t.In w.heap.size w) (hp : PaG w.heap.size wr p path) (hpl : path.length ≤ maxLen) (ho : okP t path = false) :
    Calls Try.prog 55 #[.pointer (some ⟨gw, 0, none⟩), .slice p path.length cap] wr fun e w' => ∃ v a b c, e = .returned (.tuple #[v, .agg #[.int .i64 a, .int .i64 b, .int .i64 c], .bool false]) ∧ Below w.heap.size w w' :=
  (foll t h hc hin hp hpl).mono (by
    intro e w' hf
    obtain ⟨M', v, h1, h2, ⟨h3, _⟩ | ⟨_, a, b, c, h5⟩⟩ := h.gone hf
    · rw [ho] at h3; cases h3
    · exact ⟨v, a, b, c, h5, h1.be⟩)
set_option maxRecDepth 100000 in
set_option maxHeartbeats 20000000 in
theorem Make_any (t : ShT) (q : Option Addr) (cap : Nat) (l : List SetT) (w : World) (hin : t.In w.heap.size w) (hs : SeG w.heap.size w q l) (hl : l.length ≤ 1000) :
    Calls Try.prog 32 #[t.v, .slice q l.length cap] w fun e w' => e = .returned (.tuple #[.string (mkM t l).1, .int .i64 (mkM t l).2.1, .int .i64 (mkM t l).2.2]) ∧ Below w.heap.size w w' := by
  have HB0 : Hid (∀ W, ((chkM t).2 == 0) = false → Below w.heap.size w W → Calls Try.prog 53 #[t.v] W fun e w' => e = .returned (.tuple #[.pointer none, .int .i64 (chkM t).2]) ∧ Below W.heap.size W w') := fun W hc h => begin_no t W ((hin.below h).mono h.size) hc
  have HB1 : Hid (∀ W, ((chkM t).2 == 0) = true → Below w.heap.size w W → Calls Try.prog 53 #[t.v] W fun e w' => ∃ g, W.heap.size ≤ g ∧ e = .returned (.tuple #[.pointer (some ⟨g, 0, none⟩), .int .i64 0]) ∧ Bk w' g 117 (ndC t 0 (8 * (chkM t).1.1) (.slice none 0 0)) ∧ Below W.heap.size W w') := fun W hc h => begin_yes t W ((hin.below h).mono h.size) hc
  have HT0 := veil (And.intro (TyB.new w t) ((Below.refl _ w).alloc (Nat.le_refl _) (.cells t.cs 25)))
  have HIN := veil hin
  have HSE := veil hs
  clear hin hs
  have hze := chk_size t
  have HMK : Hid (mkM t l = if (chkM t).2 == 0 then mkE (mkR t (List.replicate (chkM t).1.1.toNat 0) (fun _ => none) 0 l) else (⟨#[]⟩, (chkM t).2, 0)) := rfl
  generalize mkM t l = MK at *
  have hmm := @run_makeMap Try.prog
  unfold ShT.v ShT.cs at *
  go_enter Try.func32, Try.ntmps32
  go_upto_region 1 with fail
  generalize (w.alloc (.cells #[.int .i64 t.sh, .int .i64 t.k, .int .i64 t.n, .slice t.op t.of.length t.oc, .slice t.fp t.fs.length t.fc, .bool t.pk, .int .i64 t.al] 25)) = W0 at HT0 ⊢
  obtain ⟨y0, y1, y2, y3, y4, y5, y6⟩ := (unveil HT0).1.seven
  cases hc : (chkM t).2 == 0
  · have hc' : ((chkM t).2 != 0) = true := by simp only [bne, hc]; rfl
    rw [Hid, hc] at HMK
    simp only [Bool.false_eq_true, if_false] at HMK
    have HMK' := veil HMK
    clear HMK
    go_wp2_with (go_at_call 53; refine (unveil HB0 _ hc (unveil HT0).2).mono ?_; rintro e W1 ⟨rfl, hb1⟩; have HB9 := veil ((unveil HT0).2.trans (hb1.mono (unveil HT0).2.size)); clear hb1)
    refine bodyPost_ret (results_tmp3 rfl _ _ _) rfl ?_
    exact ⟨by rw [unveil HMK']; rfl, unveil HB9⟩
  · rw [Hid, hc] at HMK
    simp only [if_true] at HMK
    have HMK' := veil HMK
    clear HMK
    obtain ⟨n, hn⟩ : ∃ n : Nat, (chkM t).1.1 = n := ⟨(chkM t).1.1.toNat, by omega⟩
    have hn2 : n ≤ 65536 := by omega
    rw [hn, Int.toNat_natCast] at HMK'
    go_upto_region 4 with (go_at_call 53; refine (unveil HB1 _ hc (unveil HT0).2).mono ?_; rintro e W1 ⟨g, hg1, rfl, hk1, hb1⟩; have HK1 := veil hk1; have HB2 := veil ((unveil HT0).2.trans (hb1.mono (unveil HT0).2.size)); have HGN : Hid (w.heap.size ≤ g) := Nat.le_trans (unveil HT0).2.size hg1; clear hb1 hk1 hg1 y0 y1 y2 y3 y4 y5 y6)
    have HSZ : Hid (Calls Try.prog 54 #[.pointer (some ⟨g, 0, none⟩)] W1 fun e w' => e = .returned (.int .i64 (n : Int)) ∧ w' = W1) := (size_c g 0 (8 * (chkM t).1.1) W1 ((unveil HK1).cell 8) (by omega) (by omega)).mono (by
      rintro e w' ⟨rfl, rfl⟩
      exact ⟨by congr 2; omega, rfl⟩)
    go_upto_region 5 with (first
      | (go_at_call 54; refine (unveil HSZ).mono ?_; rintro e w' ⟨rfl, hw'⟩; obtain rfl := hw'.symm)
      | (at_make; obtain ⟨i0, hi, hz0, hz1, hz2⟩ := info_parts infoU8; refine wpList_make_full _ rfl _ _ 62 rfl W1.heap.size 5 i0 _ 1 Try.underlying62 hi hz0 hz1 .i64 .i64 _ _ n rfl rfl rfl rfl (by rw [hz2]; omega) (by unfold maxLen; omega) (Nat.le_refl _) ?_; intro W4 hown4 hgrow4; have hk4 := bk_made hown4; have hB4 := (Below.refl _ W1).grown hgrow4 (Nat.le_refl _) (fun r e => by cases e); have HK4 := veil hk4; have HB4 := veil hB4; clear hi hz0 hz1 hz2 i0 hown4 hgrow4 hk4 hB4))
    have HMS : Hid (MkS w (W4.alloc (.map #[] 0)) g W1.heap.size W4.heap.size 0 (oneM g (x0M t)) t (List.replicate n 0) (fun _ => none)) := by
      have hb5 : Below W4.heap.size W4 (W4.alloc (.map #[] 0)) := (Below.refl _ W4).alloc (Nat.le_refl _) _
      have hg5 : Bk (W4.alloc (.map #[] 0)) g 117 (ndC t 0 (8 * (chkM t).1.1) (.slice none 0 0)) := ((unveil HK1).below (unveil HB4)).below hb5
      have hs1 := (unveil HB2).size
      have hs4 := (unveil HB4).size
      exact ⟨NI.one (unveil HGN) hg5, oneM_at _ _, fun h hh => by unfold oneM; rw [if_neg (by have := hg5.lt; omega)], (unveil HK4).below hb5, mpA_made W4, ((unveil HB2).trans ((unveil HB4).mono hs1)).trans (hb5.mono (by omega)), hs1, by omega⟩
    go_upto_region 6 with fail
    generalize (W4.alloc (.map #[] 0)) = W5 at *
    generalize W1.heap.size = GI at *
    generalize W4.heap.size = BM at *
    clear HSZ HK1 HB2 HK4 HB4 hmm
    go_wp2_with fail
    go_loopw [30] (fun i wr => ∃ (k nn : Nat) (M1 : Nat → Option (List (ShT × Int × Int))) (bs : List Int) (L : List Int → Option Int), i = .int .i64 k ∧ k ≤ l.length ∧ nn ≤ 6 * k ∧ Hid (MkS w wr g GI BM nn M1 t bs L) ∧ Hid (bs.length = n) ∧ Hid (OkB bs) ∧ Hid (mkR t (List.replicate n 0) (fun _ => none) 0 l = mkR t bs L k (l.drop k)))
      (fun i wr => l.length - (intOf i).toNat)
    case atStart => exact ⟨0, 0, _, _, _, rfl, Nat.zero_le _, Nat.le_refl _, HMS, by simp [Hid], fun x hx => by rw [List.eq_of_mem_replicate hx]; omega, by rw [Hid, List.drop_zero]⟩
    case round =>
      obtain ⟨k, nn, M1, bs, L, rfl, hk, hnn, hS, hbl, hok, hR⟩ := hrel
      by_cases hkl : k < l.length
      · have hdr : l.drop k = l[k] :: l.drop (k + 1) := List.drop_eq_getElem_cons hkl
        have hR' := unveil hR
        rw [hdr, mkR] at hR'
        obtain ⟨gq, oq, rfl, hgq, s0, s1, hpa, hpl⟩ := ((unveil HSE).below (unveil hS).be) k hkl
        have hgq2 : gq < wr.heap.size := Nat.lt_of_lt_of_le hgq (unveil hS).be.size
        clear hdr
        generalize l[k] = st at *
        obtain ⟨p, cp, path, v⟩ := st
        simp only at s0 s1 hpa hpl hR'
        have HPA := veil hpa
        have HPL := veil hpl
        have HRR := veil hR'
        have hki : (k : Int) < (l.length : Int) := by omega
        clear hR' hpa hpl
        go_upto_region 9 with fail
        have HS1 : Hid (MkS w (wr.alloc (.cells #[.slice p path.length cp, .int .i64 v] 64)) g GI BM nn M1 t bs L) := (unveil hS).below ((Below.refl _ wr).alloc (Nat.le_refl _) _)
        have HPA1 : Hid (PaG w.heap.size (wr.alloc (.cells #[.slice p path.length cp, .int .i64 v] 64)) p path) := (unveil HPA).below (((Below.refl _ wr).alloc (Nat.le_refl _) _).mono (unveil hS).be.size)
        have hsb := Bk.new wr 64 #[.slice p path.length cp, .int .i64 v]
        clear s0 s1 hgq2 HPA
        generalize (wr.alloc (.cells #[.slice p path.length cp, .int .i64 v] 64)) = W6 at *
        generalize wr.heap.size = SB at *
        have d0 := hsb.cell 0
        have dl := hsb.lt
        simp only [List.getElem?_toArray, List.getElem?_cons_zero] at d0
        cases ho : okP t path
        · have HFO := veil (foll_no t (cap := cp) (unveil HS1) hc (unveil HIN) (unveil HPA1) (unveil HPL) ho)
          have HNO : Hid (MK = (⟨#[]⟩, 110, (k : Int))) := by
            rw [Hid, unveil HMK', unveil HRR, ho]
            rfl
          clear HRR
          go_wp2_with (go_at_call 55; refine (unveil HFO).mono ?_; rintro e W7 ⟨v7, a, b, c, rfl, hbe7⟩; have HBE7 := veil hbe7; clear hbe7)
          refine bodyPost_ret (results_tmp3 rfl _ _ _) rfl ?_
          exact ⟨by rw [unveil HNO]; rfl, (unveil HBE7).alloc (unveil HBE7).size _⟩
        · have HFO := veil (foll_yes t (cap := cp) (unveil HS1) hc (unveil HIN) (unveil HPA1) (unveil HPL) ho)
          obtain ⟨f1, f2, f3, f4⟩ := sp_fits hc ho
          obtain ⟨bb, hbb⟩ : ∃ bb : Nat, (spP t path).1 = bb := ⟨(spP t path).1.toNat, by omega⟩
          obtain ⟨kk, hkk⟩ : ∃ kk : Nat, (spP t path).2.1 = kk := ⟨(spP t path).2.1.toNat, by omega⟩
          have hfit : bb + kk ≤ 8 * n := by omega
          have hkk64 : kk ≤ 64 := by omega
          have HSK := veil (fol_ok hc path n hn.symm)
          rw [Hid, ho, hbb, hkk, Int.toNat_natCast, Int.toNat_natCast] at HRR
          simp only [if_true] at HRR
          have HRR' := veil HRR
          unfold spC3 at HFO
          rw [hbb, hkk] at HFO
          clear HRR f1 f2 f3 f4 hbb hkk
          generalize (spP t path).2.2 = kd at *
          have HST : Hid (∀ M7 W7 qv cv Q, MkS w W7 g GI BM nn M7 t bs L → NG w.heap.size W6 W7 → W7.ownsRow W6.heap.size 121 3 (.slice qv (List.length Q) cv) (List.length Q) (stCs Q) → StL M7 Q (folM (x0M t) 0 path).1 → ∀ W8, W8 = W7.alloc (.cells #[.int .i64 (bb : Int), .int .i64 (kk : Int), .int .i64 kd] 42) →
              Bk W8 SB 64 #[.slice p path.length cp, .int .i64 v] ∧ Bk W8 W7.heap.size 42 #[.int .i64 (bb : Int), .int .i64 (kk : Int), .int .i64 kd] ∧ Hid (Calls Try.prog 56 #[.slice (some ⟨GI, 0, none⟩) n n, .map (some BM), .slice qv (List.length Q) cv] W8 fun e w' => (∃ r, e = .returned r) ∧
                MkS w w' g GI BM (nn + 6) M7 t (turM bs L [] (folM (x0M t) 0 path).1).1 (turM bs L [] (folM (x0M t) 0 path).1).2 ∧ Bk w' SB 64 #[.slice p path.length cp, .int .i64 v] ∧ Bk w' W7.heap.size 42 #[.int .i64 (bb : Int), .int .i64 (kk : Int), .int .i64 kd])) := fun M7 W7 qv cv Q h1 h2 h3 h4 W8 e => by
            subst e
            have hb8 : Below W7.heap.size W7 (W7.alloc (.cells #[.int .i64 (bb : Int), .int .i64 (kk : Int), .int .i64 kd] 42)) := (Below.refl _ W7).alloc (Nat.le_refl _) _
            have g1 := (h2.bk hsb (by decide)).below hb8
            have g2 := Bk.new W7 42 #[.int .i64 (bb : Int), .int .i64 (kk : Int), .int .i64 kd]
            have hS8 := h1.below hb8
            refine ⟨g1, g2, ?_⟩
            have hT := turn_any w.heap.size M7 _ GI BM nn W6.heap.size cv qv bs L Q (folM (x0M t) 0 path).1 hS8.ni (ownsRow_belowS h3 hb8) h4 hS8.i hS8.m (by rw [unveil hbl]; exact unveil HSK) (by rw [unveil hbl]; exact hn2) (by omega)
            rw [unveil hbl] at hT
            refine hT.mono ?_
            rintro e w' ⟨hr, hi, hm, ht⟩
            have ne1 : ∀ {j : Nat} {T : TypeId} {cs : Array Value}, Bk (W7.alloc (.cells #[.int .i64 (bb : Int), .int .i64 (kk : Int), .int .i64 kd] 42)) j T cs → T ≠ 5 → j ≠ GI := fun {j T cs} hj hTn e => by
              subst e
              have hi8 := hS8.i
              unfold Bk at hj hi8
              rw [hj] at hi8
              simp at hi8
              exact hTn hi8.2
            exact ⟨hr, hS8.turn ht hi (hm.mono (by have := (unveil HSK).1; omega)), ht.bk g1 (ne1 g1 (by decide)) (hS8.m.not g1), ht.bk g2 (ne1 g2 (by decide)) (hS8.m.not g2)⟩
          clear HPA1 HPL HS1 hsb
          go_upto_region 10 with (go_at_call 55; refine (unveil HFO).mono ?_; rintro e W7 ⟨M7, qv, cv, Q, rfl, h1, h2, h3, h4⟩; obtain ⟨b1, b2, hct⟩ := unveil HST M7 W7 qv cv Q h1 h2 h3 h4 _ rfl; have HCT := veil hct; clear h1 h2 h3 h4 hct)
          generalize (W7.alloc (.cells #[.int .i64 (bb : Int), .int .i64 (kk : Int), .int .i64 kd] 42)) = W8 at *
          generalize W7.heap.size = SP at *
          have d0' := b1.cell 0
          have dl' := b1.lt
          simp only [List.getElem?_toArray, List.getElem?_cons_zero] at d0'
          clear d0 dl b1 b2 HFO HST
          go_upto_region 13 with (go_at_call 56; refine (unveil HCT).mono ?_; rintro e W9 ⟨⟨r9, rfl⟩, hS9, b3, b4⟩; have HS9 := veil hS9; clear hS9)
          have hwl : Hid ((turM bs L [] (folM (x0M t) 0 path).1).1.length = n) := by rw [Hid, turM_len, unveil hbl]
          have hwo : Hid (OkB (turM bs L [] (folM (x0M t) 0 path).1).1) := turM_ok _ _ _ _ (unveil hok)
          generalize (turM bs L [] (folM (x0M t) 0 path).1).1 = BT at *
          generalize (turM bs L [] (folM (x0M t) 0 path).1).2 = LT at *
          have HWR := veil (write_any BT GI bb kk kd v W9 (unveil HS9).i (by omega) hkk64 (by rw [unveil hwl]; exact hfit) (by rw [unveil hwl]; omega))
          rw [unveil hwl] at HWR
          unfold spB at HWR
          have q0 := b3.cell 1
          have q1 := b3.lt
          have e0 := b4.cell 0
          have e1 := b4.cell 1
          have e2 := b4.cell 2
          have el := b4.lt
          simp only [List.getElem?_toArray, List.getElem?_cons_zero, List.getElem?_cons_succ] at q0 e0 e1 e2
          clear b3 b4 d0' dl' HCT
          have HEN : Hid (∀ W, Bk W GI 5 (byC (wrF BT v (bitL bb kk)).1) → W9.grownBy W (some GI) → Hid (MkS w W g GI BM (nn + 6) M7 t (wrF BT v (bitL bb kk)).1 LT)) := fun W h1 h2 => (unveil HS9).write h2 h1
          go_wp2_with (go_at_call 57; refine (unveil HWR).mono ?_; rintro e W10 ⟨⟨r10, rfl⟩, hk10, hg10⟩; have HS10 := unveil HEN W10 hk10 hg10; clear hk10 hg10)
          go_roundw
          case rel => exact ⟨k + 1, nn + 6, M7, _, LT, by go_num, by omega, by omega, HS10, by rw [Hid, wrF_len, unveil hwl], wrF_ok (unveil hwo) _ _, HRR'⟩
          case measure => simp [intOf]; omega
      · have hnk : ¬ (k : Int) < (l.length : Int) := by omega
        have hkl2 : k = l.length := by omega
        have HOUT : Hid (MK = (toB bs, 0, 0)) := by
          rw [Hid, unveil HMK', unveil hR, hkl2, List.drop_length, mkR]
          rfl
        have hcv := conv_back wr GI bs (unveil hok) (unveil hS).i
        rw [unveil hbl] at hcv
        have HBF : Hid (Below w.heap.size w wr) := (unveil hS).be
        go_wp2_with fail
        refine bodyPost_ret (results_tmp3 rfl _ _ _) rfl ?_
        exact ⟨by rw [unveil HOUT]; rfl, unveil HBF⟩
end Go.Proofs.Ytkiebejidpebdaa
