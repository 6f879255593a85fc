/-
  burinref11.Make walked.
-/
import Derived.Test.YtkiebejidpebdaaSh
import Derived.Test.YtkiebejidpebdaaTy
import Derived.Test.YtkiebejidpebdaaNc
namespace Go.Proofs.Ytkiebejidpebdaa
open Go Go.RowKit Go.Shelf
set_option linter.unusedVariables false
set_option linter.unusedSimpArgs false

theorem row_kept {W W' : World} {base n size : Nat} {e : TypeId} {v : Value} {xs : List Value} {row : Option Nat} (h : W.ownsRow base e size v n xs) (hg : W.grownBy W' row) (hr : ∀ r, row = some r → r < base) : W'.ownsRow base e size v n xs := by
  obtain ⟨h1, h2⟩ := h
  refine ⟨h1, ?_⟩
  rcases h2 with h2 | ⟨g, cap, cur, rfl, hb, hk, hc, hm, hs, hx⟩
  · exact .inl h2
  · exact .inr ⟨g, cap, cur, rfl, hb, (hg.block g (Array.getElem?_eq_some_iff.1 hk).1 (fun e => by have := hr g e.symm; omega)).trans hk, hc, hm, hs, hx⟩
theorem bk_kept {W W' : World} {b g : Nat} {T : TypeId} {cs : Array Value} (h : Bk W b T cs) (hg : W.grownBy W' (some g)) (hn : b ≠ g) : Bk W' b T cs := (hg.block b h.lt (fun e => hn (by cases e; rfl))).trans h
theorem uni_ok (n : Nat) : ∀ (S : List ((ShT × Int × Int) × Int × Int)) (deep : Int), (∀ x ∈ S, 0 ≤ x.2.1 ∧ 0 < x.1.2.2 ∧ x.2.1 + x.1.2.2 ≤ 8 * n) → ∀ u ∈ uniM deep S, 0 ≤ u.1 ∧ 0 ≤ u.2.1 ∧ u.1 + u.2.1 ≤ n
  | [], _, _, u, hu => by cases hu
  | (x, fr, s) :: r, deep, h, u, hu => by
    obtain ⟨h1, h2, h3⟩ := h (x, fr, s) (List.mem_cons_self ..)
    simp only at h1 h2 h3
    rw [uniM] at hu
    rcases List.mem_append.1 hu with hu | hu
    · split at hu
      · obtain rfl := List.mem_singleton.1 hu
        simp only
        omega
      · cases hu
    · exact uni_ok n r (deep + 1) (fun y hy => h y (List.mem_cons_of_mem _ hy)) u hu
theorem thrB_len (bs : List Int) (met : List StU) (u : StU) : (thrB bs met u).length = bs.length := turS_len _ _ _ _ _
theorem thrB_ok {bs : List Int} (h : OkB bs) (met : List StU) (u : StU) : OkB (thrB bs met u) := turS_ok h _ _ _ _
theorem thrL_len (met : List StU) (u : StU) : (thrL met u).length ≤ met.length + 1 := by
  unfold thrL
  rw [List.length_append]
  have := List.length_filter_le (fun m => !decide (kyU m = kyU u)) met
  simp only [List.length_cons, List.length_nil]
  omega
/-- What the document's Make holds. -/
structure RmkS (w W : World) (t : ShT) (gi : Nat) (bs : List Int) (q : Option Addr) (c : Nat) (met : List StU) : Prop where
  t : TyB W w.heap.size t
  b : ByB W gi bs
  r : W.ownsRow (gi + 1) 103 4 (.slice q met.length c) met.length (usCs met)
  be : Below w.heap.size w W
  gw : w.heap.size < gi
theorem RmkS.below {w W W' : World} {t : ShT} {gi : Nat} {bs : List Int} {q : Option Addr} {c : Nat} {met : List StU} (h : RmkS w W t gi bs q c met) (hb : Below W.heap.size W W') : RmkS w W' t gi bs q c met :=
  ⟨h.t.below hb, h.b.below hb, ownsRow_belowS h.r hb, h.be.trans (hb.mono h.be.size), h.gw⟩
theorem RmkS.turn {w W W' : World} {t : ShT} {gi : Nat} {bs bs' : List Int} {q : Option Addr} {c : Nat} {met : List StU} (h : RmkS w W t gi bs q c met) (hg : W.grownBy W' (some gi)) (hb : ByB W' gi bs') : RmkS w W' t gi bs' q c met :=
  ⟨bk_kept h.t hg (by have := h.gw; omega), hb, row_kept h.r hg (fun r e => by cases e; omega), h.be.grown hg h.be.size (fun r e => by cases e; have := h.gw; omega), h.gw⟩
theorem RmkS.thr {w W W' : World} {t : ShT} {gi : Nat} {bs bs' : List Int} {q q' : Option Addr} {n' c c' : Nat} {met met' : List StU} (h : RmkS w W t gi bs q c met) (hg : W.grownBy W' (some gi)) (hb : ByB W' gi bs') (hr : W'.ownsRow (W.heap.size + 1) 103 4 (.slice q' n' c') met'.length (usCs met')) : n' = met'.length ∧ RmkS w W' t gi bs' q' c' met' := by
  obtain ⟨rfl, _, _⟩ := row_src hr
  have hgl := h.b.lt
  exact ⟨rfl, bk_kept h.t hg (by have := h.gw; omega), hb, ownsRow_baseS hr (by omega), h.be.grown hg h.be.size (fun r e => by cases e; have := h.gw; omega), h.gw⟩
set_option maxRecDepth 100000 in
set_option maxHeartbeats 40000000 in
theorem RMake_any (t : ShT) (q : Option Addr) (cap : Nat) (l : List SetT) (w : World) (hin : t.In w.heap.size w) (hle : t.Len) (hs : SeG w.heap.size w q l) (hl : l.length ≤ 1000) (hsl : ∀ s ∈ l, s.path.length ≤ s.cap) :
    Calls Try.prog 33 #[t.v, .slice q l.length cap] w fun e w' => e = .returned (.tuple #[.string (mkM t l).1, .int .i64 (mkM t l).2.1, .int .i64 (mkM t l).2.2]) ∧ Below w.heap.size w w' := by
  have HOF : Hid (∀ W, Below w.heap.size w W → Calls Try.prog 19 #[t.v] W (OfP W (chkM t).1.1 (chkM t).1.2 (chkM t).2 (ofL t))) := fun W h => Of_any t W ((hin.below h).mono h.size) hle
  have HWK : Hid (((chkM t).2 == 0) = true → ∀ (p : Option Addr) (cp : Nat) (path : List Int) W, Below w.heap.size w W → PaG w.heap.size W p path → path.length ≤ maxLen → path.length ≤ cp → Calls Try.prog 52 #[t.v, .int .i64 0, .int .i64 0, .slice p path.length cp] W (fun e w' => ∃ a b c q n cp U, e = .returned (.tuple #[.agg #[.int .i64 a, .int .i64 b, .int .i64 c], .slice q n cp, .bool (okP t path)]) ∧ w'.ownsRow W.heap.size 103 4 (.slice q n cp) (List.length U) (usCs U) ∧ Below W.heap.size W w' ∧
      (okP t path = true → (a, b, c) = spP t path ∧ U = uniM 0 (folM (x0M t) 0 path).1) ∧ U.length ≤ 20)) := fun hc p cp path W h hp hpl hcp => by
    have hz := chk_size t
    refine (rwalk_any path 6 (x0M t) 0 0 p cp W (Nat.le_refl _) (RiN.whole hc) ((hin.below h).mono h.size) hle (hp.mono h.size) hcp hpl (by omega) (by show 0 + 8 * (chkM t).1.1 ≤ 524288; omega) (by omega) (by omega)).mono ?_
    rintro e w' ⟨a, b, c, q, n, cp, U, he, hr, hb, hh, hul⟩
    exact ⟨a, b, c, q, n, cp, U, he, hr, hb, hh, by omega⟩
  have HT0 := veil (And.intro (TyB.new w t) ((Below.refl _ w).alloc (Nat.le_refl _) (.cells t.cs 25)))
  have HSE := veil hs
  have HSL := veil hsl
  clear hin hs hle hsl
  have hze := chk_size t
  have HMK : Hid (mkM t l = if (chkM t).2 == 0 then mkE (rfR t (List.replicate (chkM t).1.1.toNat 0) (fun _ => none) 0 l) else (⟨#[]⟩, (chkM t).2, 0)) := by
    unfold Hid mkM
    cases hc : (chkM t).2 == 0
    · rfl
    · rw [if_pos rfl, if_pos rfl, mk_rf hc]
  generalize mkM t l = MK at *
  unfold ShT.v ShT.cs at *
  unfold OfP bxC at HOF
  go_enter Try.func33, Try.ntmps33
  go_upto_region 1 with fail
  generalize (w.alloc (.cells #[.int .i64 t.sh, .int .i64 t.k, .int .i64 t.n, .slice t.op t.of.length t.oc, .slice t.fp t.fs.length t.fc, .bool t.pk, .int .i64 t.al] 25)) = W0 at HT0 ⊢
  obtain ⟨y0, y1, y2, y3, y4, y5, y6⟩ := (unveil HT0).1.seven
  generalize (chkM t).1.2 = A at *
  generalize ofL t = OL at *
  go_upto_region 2 with (go_at_call 19; refine (unveil HOF _ (unveil HT0).2).mono ?_; rintro e W1 ⟨q1, n1, c1, rfl, hb1, _⟩; have HS1 := veil (And.intro (((unveil HT0).1.below hb1).alloc (.cells #[.int .i64 (chkM t).1.1, .int .i64 A, .bool false, .slice q1 n1 c1] 32)) (And.intro (((unveil HT0).2.trans (hb1.mono (unveil HT0).2.size)).alloc (Nat.le_trans (unveil HT0).2.size hb1.size) (.cells #[.int .i64 (chkM t).1.1, .int .i64 A, .bool false, .slice q1 n1 c1] 32)) (Bk.new W1 32 #[.int .i64 (chkM t).1.1, .int .i64 A, .bool false, .slice q1 n1 c1]))); clear hb1)
  clear y0 y1 y2 y3 y4 y5 y6
  generalize (W1.alloc (.cells #[.int .i64 (chkM t).1.1, .int .i64 A, .bool false, .slice q1 n1 c1] 32)) = W2 at *
  generalize W1.heap.size = BB at *
  cases hc : (chkM t).2 == 0
  · have hc' : ((chkM t).2 != 0) = true := by simp only [bne, hc]; rfl
    rw [Hid, hc] at HMK
    simp only [Bool.false_eq_true, if_false] at HMK
    have HMK' := veil HMK
    clear HMK
    go_wp2_with fail
    refine bodyPost_ret (results_tmp3 rfl _ _ _) rfl ?_
    exact ⟨by rw [unveil HMK']; rfl, (unveil HS1).2.1⟩
  · have hc' : ((chkM t).2 != 0) = false := by simp only [bne, hc]; rfl
    rw [Hid, hc] at HMK
    simp only [if_true] at HMK
    have HMK' := veil HMK
    have HWK2 := veil (unveil HWK hc)
    clear HMK HWK HOF
    obtain ⟨n, hn⟩ : ∃ n : Nat, (chkM t).1.1 = n := ⟨(chkM t).1.1.toNat, by omega⟩
    have hn2 : n ≤ 65536 := by omega
    rw [hn, Int.toNat_natCast] at HMK'
    rw [hn] at HS1
    have b0 : W2.cell? ⟨BB, 0, none⟩ = some (.int .i64 (n : Int)) := (unveil HS1).2.2.cell 0
    have bl := (unveil HS1).2.2.lt
    go_upto_region 5 with (at_make; obtain ⟨i0, hi, hz0, hz1, hz2⟩ := info_parts infoU8; refine wpList_make_full _ rfl _ _ 62 rfl W2.heap.size 5 i0 _ 1 Try.underlying62 hi hz0 hz1 .i64 .i64 _ _ n rfl rfl rfl rfl (by rw [hz2]; omega) (by unfold maxLen; omega) (Nat.le_refl _) ?_; intro W4 hown4 hgrow4; have hk4 := bk_made hown4; have hB4 := (Below.refl _ W2).grown hgrow4 (Nat.le_refl _) (fun r e => by cases e); have HK4 := veil hk4; have HB4 := veil hB4; clear hi hz0 hz1 hz2 i0 hown4 hgrow4 hk4 hB4)
    have HMS : Hid (RmkS w W4 t W2.heap.size (List.replicate n 0) none 0 []) := ⟨(unveil HS1).1.below (unveil HB4), ByB.of (unveil HK4), World.ownsRow_nil _ _ _ _, (unveil HS1).2.1.trans ((unveil HB4).mono (unveil HS1).2.1.size), (unveil HS1).1.lt⟩
    generalize W2.heap.size = GI at *
    clear b0 bl HS1 HK4 HB4
    go_upto_region 7 with fail
    go_loopg [10, 11] l.length (fun gk mv iv wr => ∃ (k : Nat) (met : List StU) (q' : Option Addr) (c' : Nat) (bs : List Int), gk = l.length - k ∧ mv = .slice q' met.length c' ∧ iv = .int .i64 k ∧ k ≤ l.length ∧ met.length ≤ 20 * k ∧ Hid (RmkS w wr t GI bs q' c' met) ∧ Hid (bs.length = n) ∧ Hid (OkB bs) ∧ Hid (rfR t (List.replicate n 0) (fun _ => none) 0 l = rfR t bs (lkp met) k (l.drop k)))
    case atStart => exact ⟨0, [], none, 0, List.replicate n 0, rfl, rfl, rfl, Nat.zero_le _, Nat.le_refl _, HMS, by simp [Hid], fun x hx => by rw [List.eq_of_mem_replicate hx]; omega, by rw [Hid, List.drop_zero]; rfl⟩
    case round =>
      rename World => wr
      obtain ⟨k, met, qm, cm, bs, rfl, rfl, rfl, hk, hml, hS, hbl, hok, hR⟩ := hrel
      by_cases hkl : k < l.length
      · have hdr : l.drop k = l[k] :: l.drop (k + 1) := List.drop_eq_getElem_cons hkl
        have hR' := unveil hR
        rw [hdr, rfR] at hR'
        have HSE2 := veil (fun W (hb : Below w.heap.size w W) => ((unveil HSE).below hb) k hkl)
        have hcap2 := unveil HSL l[k] (List.getElem_mem hkl)
        obtain ⟨gq, oq, rfl, hgq, _, _, _, hpl⟩ := unveil HSE2 wr (unveil hS).be
        clear hdr
        generalize l[k] = st at *
        obtain ⟨p, cp, path, v⟩ := st
        simp only at hpl hR' hcap2
        have HSC : Hid (∀ W, Below w.heap.size w W → W.cell? ⟨gq, oq + k * 2, none⟩ = some (.slice p path.length cp) ∧ W.cell? ⟨gq, oq + k * 2 + 1, none⟩ = some (.int .i64 v) ∧ gq < W.heap.size ∧ PaG w.heap.size W p path) := fun W hb => by
          obtain ⟨g', o', e, hg', s0, s1, hpa, _⟩ := unveil HSE2 W hb
          simp only [Option.some.injEq, Addr.mk.injEq, and_true] at e
          obtain ⟨rfl, rfl⟩ := e
          exact ⟨s0, s1, Nat.lt_of_lt_of_le hg' hb.size, hpa⟩
        have HRR := veil hR'
        have hki : (k : Int) < (l.length : Int) := by omega
        clear hR' HSE2 hgq
        have HBD : Hid (Below wr.heap.size wr wr.drew) := (Below.refl _ wr).drew
        have HCX : Hid (∀ W, Hid (Below wr.heap.size wr W) → (W.cell? ⟨w.heap.size, 0, none⟩ = some (.int .i64 t.sh) ∧ W.cell? ⟨w.heap.size, 1, none⟩ = some (.int .i64 t.k) ∧ W.cell? ⟨w.heap.size, 2, none⟩ = some (.int .i64 t.n) ∧ W.cell? ⟨w.heap.size, 3, none⟩ = some (.slice t.op t.of.length t.oc) ∧ W.cell? ⟨w.heap.size, 4, none⟩ = some (.slice t.fp t.fs.length t.fc) ∧ W.cell? ⟨w.heap.size, 5, none⟩ = some (.bool t.pk) ∧ W.cell? ⟨w.heap.size, 6, none⟩ = some (.int .i64 t.al)) ∧ W.cell? ⟨gq, oq + k * 2, none⟩ = some (.slice p path.length cp) ∧ gq < W.heap.size ∧ w.heap.size < W.heap.size) := fun W hb => by
          have h1 := ((unveil hS).below (unveil hb))
          obtain ⟨s0, s1, s2, s3⟩ := unveil HSC W h1.be
          exact ⟨h1.t.seven, s0, s2, h1.t.lt⟩
        go_upto_region 9 with fail
        go_cut [12, 13, 14] from 33 to 43 (fun sp sv ov wx => ∃ SB a b c q9 cp9 U, sp = .pointer (some ⟨SB, 0, none⟩) ∧ sv = .slice q9 (List.length U) cp9 ∧ ov = .bool (okP t path) ∧ wr.heap.size ≤ SB ∧ Hid (Bk wx SB 42 #[.int .i64 a, .int .i64 b, .int .i64 c]) ∧ Hid (wx.ownsRow wr.heap.size 103 4 (.slice q9 (List.length U) cp9) (List.length U) (usCs U)) ∧ Hid (Below wr.heap.size wr wx) ∧ Hid (okP t path = true → (a, b, c) = spP t path ∧ U = uniM 0 (folM (x0M t) 0 path).1) ∧ (List.length U ≤ 20))
        case first =>
          have HWW : Hid (∀ W, Below wr.heap.size wr W → Calls Try.prog 52 #[.agg #[.int .i64 t.sh, .int .i64 t.k, .int .i64 t.n, .slice t.op t.of.length t.oc, .slice t.fp t.fs.length t.fc, .bool t.pk, .int .i64 t.al], .int .i64 0, .int .i64 0, .slice p path.length cp] W (fun e w' => ∃ a b c q n cp U, e = .returned (.tuple #[.agg #[.int .i64 a, .int .i64 b, .int .i64 c], .slice q n cp, .bool (okP t path)]) ∧ w'.ownsRow W.heap.size 103 4 (.slice q n cp) (List.length U) (usCs U) ∧ Below W.heap.size W w' ∧
              (okP t path = true → (a, b, c) = spP t path ∧ U = uniM 0 (folM (x0M t) 0 path).1) ∧ U.length ≤ 20)) := fun W hb => by
            have h1 := (unveil hS).below hb
            exact unveil HWK2 p cp path W h1.be (unveil HSC W h1.be).2.2.2 hpl hcap2
          clear HWK2 HSC HRR hR HMK'
          generalize okP t path = OK at *
          generalize spP t path = SPP at *
          generalize uniM 0 (folM (x0M t) 0 path).1 = UN at *
          refine wp_region_noPanic (wpIn_wide.1 (wpIn_region_sch (ro := none) (n := 0) (fun w' => Hid (Below wr.heap.size wr w'))
            (.pure 0 (.pure 1 (.pure 2 (.pure 3 (.pure 4 (.pure 5 (.both 6 11
              (.pure 7 (.pure 8 (.pure 9 (.pure 10 (.sole 11 (.sole 12 (.pure 13 .done)))))))
              (.sole 6 (.pure 7 (.pure 8 (.pure 9 (.pure 10 (.sole 12 (.pure 13 .done))))))))))))))
            14 hmixN (by kernel_rfl) (by kernel_rfl) (by kernel_rfl) (by kernel_rfl) (by kernel_rfl) (by kernel_rfl) (fun _ _ _ _ h => h) (veil (unveil HBD)) ?_))
          iterate 5 (
            refine sch_pure _ rfl _ (.inl ⟨rfl, fun W hS => (by obtain ⟨⟨u1, u2, u3, u4, u5, u6, u7⟩, ux, ul, uw⟩ := unveil HCX W hS; go_simp; rfl)⟩) (fun B hB => ?_)
            simp only [List.getElem_toArray, List.getElem_cons_zero, List.getElem_cons_succ, Act.put, List.setIfInBounds_toArray, List.set_cons_zero, List.set_cons_succ] at hB
            subst hB)
          refine sch_pure _ rfl (.slice p path.length cp) (.inl ⟨rfl, fun W hS => (by obtain ⟨⟨u1, u2, u3, u4, u5, u6, u7⟩, ux, ul, uw⟩ := unveil HCX W hS; go_simp)⟩) (fun B hB => ?_)
          simp only [List.getElem_toArray, List.getElem_cons_zero, List.getElem_cons_succ, Act.put, List.setIfInBounds_toArray, List.set_cons_zero, List.set_cons_succ] at hB
          subst hB
          refine sch_both ?_ ?_
          · refine sch_sole _ rfl (fun K hK => ?_)
            go_simp
            refine ⟨trivial, rfl, (callsIn_wide.2 (unveil HWW _ (unveil HBD))).mono ?_⟩
            rintro e W9 ⟨a1, a2, a3, q9, n9, cp9, U, rfl, hr9, hb9, hh, hul⟩
            obtain ⟨rfl, _, _⟩ := row_src hr9
            have HB9 := veil ((unveil HBD).trans (hb9.mono (unveil HBD).size))
            have HR9 := veil (And.intro hr9 hh)
            have hbs := hb9.size
            have hbd := (unveil HBD).size
            refine hK _ _ HB9 ?_
            clear hK K hr9 hb9 hh
            iterate 4 (
              refine sch_pure _ rfl _ (.inl ⟨rfl, fun W hS => (by go_simp; rfl)⟩) (fun B hB => ?_)
              simp only [List.getElem_toArray, List.getElem_cons_zero, List.getElem_cons_succ, Act.put, List.setIfInBounds_toArray, List.set_cons_zero, List.set_cons_succ] at hB
              subst hB)
            refine sch_sole _ rfl (fun K hK => ?_)
            go_simp
            refine hK _ _ (veil ((unveil HB9).alloc (unveil HB9).size _)) ?_
            clear hK K
            have HN18 : Hid (Bk (W9.alloc (.cells #[.int .i64 0, .int .i64 0, .int .i64 0] 42)) W9.heap.size 42 #[.int .i64 0, .int .i64 0, .int .i64 0]) := Bk.new W9 _ _
            have n0 := (unveil HN18).cell 0
            have n1 := (unveil HN18).cell 1
            have n2 := (unveil HN18).cell 2
            have m0 := (unveil HN18).frozen 0
            have m1 := (unveil HN18).frozen 1
            have m2 := (unveil HN18).frozen 2
            have nl := (unveil HN18).lt
            refine sch_sole _ rfl (fun K hK => ?_)
            go_simp
            have hbz : Below W9.heap.size W9 (W9.alloc (.cells #[.int .i64 a1, .int .i64 a2, .int .i64 a3] 42)) := (Below.refl _ W9).alloc (Nat.le_refl _) _
            have HBZ := veil ((unveil HB9).trans (hbz.mono (unveil HB9).size))
            have HUZ := veil (ownsRow_belowS (unveil HR9).1 hbz)
            have HNZ : Hid (Bk (W9.alloc (.cells #[.int .i64 a1, .int .i64 a2, .int .i64 a3] 42)) W9.heap.size 42 #[.int .i64 a1, .int .i64 a2, .int .i64 a3]) := Bk.new W9 _ _
            refine hK _ _ HBZ ?_
            clear hK K n0 n1 n2 m0 m1 m2 nl hbz HN18
            refine sch_pure _ rfl _ (.inl ⟨rfl, fun W hS => (by go_simp; rfl)⟩) (fun B hB => ?_)
            simp only [List.getElem_toArray, List.getElem_cons_zero, List.getElem_cons_succ, Act.put, List.setIfInBounds_toArray, List.set_cons_zero, List.set_cons_succ] at hB
            subst hB
            refine sch_done ?_
            refine listIn_last rfl (fun K hK => ?_)
            go_simp
            refine hK _ _ ?_
            clear hK K
            go_wp2_with fail
            go_meet
            case rel => exact ⟨_, a1, a2, a3, q9, cp9, U, rfl, rfl, rfl, by omega, HNZ, ownsRow_baseS (unveil HUZ) hbd, HBZ, (unveil HR9).2, hul⟩
          · refine sch_sole _ rfl (fun K hK => ?_)
            go_simp
            refine hK _ _ (veil ((unveil HBD).alloc (unveil HBD).size _)) ?_
            clear hK K
            have HN18 : Hid (Bk (wr.drew.alloc (.cells #[.int .i64 0, .int .i64 0, .int .i64 0] 42)) wr.drew.heap.size 42 #[.int .i64 0, .int .i64 0, .int .i64 0]) := Bk.new wr.drew _ _
            have hbn : Below wr.drew.heap.size wr.drew (wr.drew.alloc (.cells #[.int .i64 0, .int .i64 0, .int .i64 0] 42)) := (Below.refl _ _).alloc (Nat.le_refl _) _
            refine sch_sole _ rfl (fun K hK => ?_)
            go_simp
            refine ⟨trivial, rfl, (callsIn_wide.2 (unveil HWW _ ((unveil HBD).trans (hbn.mono (unveil HBD).size)))).mono ?_⟩
            rintro e W9 ⟨a1, a2, a3, q9, n9, cp9, U, rfl, hr9, hb9, hh, hul⟩
            obtain ⟨rfl, _, _⟩ := row_src hr9
            have HB9 := veil (((unveil HBD).trans (hbn.mono (unveil HBD).size)).trans (hb9.mono (Nat.le_trans (unveil HBD).size hbn.size)))
            have HN19 := veil ((unveil HN18).below hb9)
            have HR9 := veil (And.intro hr9 hh)
            have hbs := hbn.size
            have hbd := (unveil HBD).size
            refine hK _ _ HB9 ?_
            clear hK K hr9 hb9 hh hbn
            iterate 4 (
              refine sch_pure _ rfl _ (.inl ⟨rfl, fun W hS => (by go_simp; rfl)⟩) (fun B hB => ?_)
              simp only [List.getElem_toArray, List.getElem_cons_zero, List.getElem_cons_succ, Act.put, List.setIfInBounds_toArray, List.set_cons_zero, List.set_cons_succ] at hB
              subst hB)
            have n0 : W9.cell? ⟨wr.heap.size, 0, none⟩ = some (.int .i64 0) := (unveil HN19).cell 0
            have n1 : W9.cell? ⟨wr.heap.size, 1, none⟩ = some (.int .i64 0) := (unveil HN19).cell 1
            have n2 : W9.cell? ⟨wr.heap.size, 2, none⟩ = some (.int .i64 0) := (unveil HN19).cell 2
            have m0 : W9.frozen? ⟨wr.heap.size, 0, none⟩ = false := (unveil HN19).frozen 0
            have m1 : W9.frozen? ⟨wr.heap.size, 1, none⟩ = false := (unveil HN19).frozen 1
            have m2 : W9.frozen? ⟨wr.heap.size, 2, none⟩ = false := (unveil HN19).frozen 2
            have nl : wr.heap.size < W9.heap.size := (unveil HN19).lt
            refine sch_sole _ rfl (fun K hK => ?_)
            go_simp
            have z1 : Bk (W9.setCell ⟨wr.heap.size, 0, none⟩ (.int .i64 a1)) wr.heap.size 42 #[.int .i64 a1, .int .i64 0, .int .i64 0] := (unveil HN19).set 0 _
            have z2 : Bk ((W9.setCell ⟨wr.heap.size, 0, none⟩ (.int .i64 a1)).setCell ⟨wr.heap.size, 1, none⟩ (.int .i64 a2)) wr.heap.size 42 #[.int .i64 a1, .int .i64 a2, .int .i64 0] := z1.set 1 _
            have HNZ : Hid (Bk (((W9.setCell ⟨wr.heap.size, 0, none⟩ (.int .i64 a1)).setCell ⟨wr.heap.size, 1, none⟩ (.int .i64 a2)).setCell ⟨wr.heap.size, 2, none⟩ (.int .i64 a3)) wr.heap.size 42 #[.int .i64 a1, .int .i64 a2, .int .i64 a3]) := z2.set 2 _
            have HBZ : Hid (Below wr.heap.size wr (((W9.setCell ⟨wr.heap.size, 0, none⟩ (.int .i64 a1)).setCell ⟨wr.heap.size, 1, none⟩ (.int .i64 a2)).setCell ⟨wr.heap.size, 2, none⟩ (.int .i64 a3))) := (((unveil HB9).setCell (p := ⟨wr.heap.size, 0, none⟩) (Nat.le_refl _) _).setCell (p := ⟨wr.heap.size, 1, none⟩) (Nat.le_refl _) _).setCell (p := ⟨wr.heap.size, 2, none⟩) (Nat.le_refl _) _
            have HUZ : Hid (World.ownsRow (((W9.setCell ⟨wr.heap.size, 0, none⟩ (.int .i64 a1)).setCell ⟨wr.heap.size, 1, none⟩ (.int .i64 a2)).setCell ⟨wr.heap.size, 2, none⟩ (.int .i64 a3)) _ 103 4 (.slice q9 U.length cp9) U.length (usCs U)) := veil (ownsRow_setS (ownsRow_setS (ownsRow_setS (unveil HR9).1 (unveil HN19) (by decide) _) z1 (by decide) _) z2 (by decide) (.int .i64 a3))
            refine hK _ _ HBZ ?_
            clear hK K n0 n1 n2 m0 m1 m2 nl HN18 HN19 HB9 z1 z2
            generalize (((W9.setCell ⟨wr.heap.size, 0, none⟩ (.int .i64 a1)).setCell ⟨wr.heap.size, 1, none⟩ (.int .i64 a2)).setCell ⟨wr.heap.size, 2, none⟩ (.int .i64 a3)) = WZ at *
            refine sch_pure _ rfl _ (.inl ⟨rfl, fun W hS => (by go_simp; rfl)⟩) (fun B hB => ?_)
            simp only [List.getElem_toArray, List.getElem_cons_zero, List.getElem_cons_succ, Act.put, List.setIfInBounds_toArray, List.set_cons_zero, List.set_cons_succ] at hB
            subst hB
            refine sch_done ?_
            refine listIn_last rfl (fun K hK => ?_)
            go_simp
            refine hK _ _ ?_
            clear hK K
            go_wp2_with fail
            go_meet
            case rel => exact ⟨_, a1, a2, a3, q9, cp9, U, rfl, rfl, rfl, Nat.le_refl _, HNZ, ownsRow_baseS (unveil HUZ) (Nat.le_trans hbd hbs), HBZ, (unveil HR9).2, hul⟩
        case rest =>
        obtain ⟨SB, a, b, c, q9, cp9, U, rfl, rfl, rfl, hSB, HSB, HUR, HBX, HOX, hul⟩ := hcut
        have HSX := veil ((unveil hS).below (unveil HBX))
        have hGIwr := (unveil hS).b.lt
        have hneSB : SB ≠ GI := by omega
        clear HCX HBD HBX HWK2 hcap2 hpl hS
        cases ho : okP t path
        · have HNO : Hid (MK = (⟨#[]⟩, 110, (k : Int))) := by
            rw [Hid, unveil HMK', unveil HRR, ho]
            rfl
          clear HRR HMK' HOX hR
          go_wp2_with fail
          refine bodyPost_ret (results_tmp3 rfl _ _ _) rfl ?_
          exact ⟨by rw [unveil HNO]; rfl, (unveil HSX).be⟩
        · obtain ⟨hsp, hu⟩ := unveil HOX ho
          obtain ⟨f1, f2, f3, f4⟩ := sp_fits hc ho
          obtain ⟨bb, hbb⟩ : ∃ bb : Nat, (spP t path).1 = bb := ⟨(spP t path).1.toNat, by omega⟩
          obtain ⟨kk, hkk⟩ : ∃ kk : Nat, (spP t path).2.1 = kk := ⟨(spP t path).2.1.toNat, by omega⟩
          have hfit : bb + kk ≤ 8 * n := by omega
          have hkk64 : kk ≤ 64 := by omega
          have ha : a = (bb : Int) := by rw [← hbb, ← hsp]
          have hb : b = (kk : Int) := by rw [← hkk, ← hsp]
          subst ha hb
          have HUB : Hid (∀ u ∈ U, 0 ≤ u.1 ∧ 0 ≤ u.2.1 ∧ u.1 + u.2.1 ≤ n) := by
            rw [Hid, hu]
            refine uni_ok n _ 0 (fun x hx => ?_)
            obtain ⟨_, _, g1, g2, g3, _⟩ := (fol_ok hc path n hn.symm).2 x hx
            exact ⟨g1, g2, g3⟩
          have HRF : Hid (rfR t (List.replicate n 0) (fun _ => none) 0 l = rfR t (wrF (U.foldl thrA (bs, met)).1 v (bitL bb kk)).1 (lkp (U.foldl thrA (bs, met)).2) (k + 1) (l.drop (k + 1))) := by
            rw [Hid, unveil HRR, if_pos ho, ref_uni, ← hu]
            unfold wr1
            simp only
            rw [hbb, hkk, Int.toNat_natCast, Int.toNat_natCast]
          have HTH : Hid (∀ (W : World) (bs' : List Int) (met' : List StU) (q' : Option Addr) (c' : Nat) (u : StU), RmkS w W t GI bs' q' c' met' → bs'.length = n → met'.length ≤ 100000 → u ∈ U → Calls Try.prog 58 #[.slice (some ⟨GI, 0, none⟩) n n, .slice q' met'.length c', .agg #[.int .i64 u.1, .int .i64 u.2.1, .int .i64 u.2.2.1, .int .i64 u.2.2.2]] W fun e w' => ∃ q2 c2, e = .returned (.slice q2 (thrL met' u).length c2) ∧ RmkS w w' t GI (thrB bs' met' u) q2 c2 (thrL met' u) ∧ W.grownBy w' (some GI)) := fun W bs' met' q' c' u hs hb hm hu => by
            obtain ⟨u0, u1, u2⟩ := unveil HUB u hu
            have h := thr_any bs' met' u GI n q' c' W (GI + 1) hs.b (by omega) hs.r hm u0 u1 (by rw [hb]; exact u2)
            rw [hb] at h
            refine h.mono ?_
            rintro e w' ⟨q2, n2, c2, rfl, h1, h2, h3⟩
            obtain ⟨rfl, h4⟩ := hs.thr h3 h1 h2
            exact ⟨q2, c2, rfl, h4, h3⟩
          clear HRR HOX hsp hu f1 f2 f3 f4 hbb hkk hR HUB
          go_upto_region 13 with fail
          go_loopg [10, 15] U.length (fun gk mv jv wz => ∃ (j : Nat) (met' : List StU) (q' : Option Addr) (c' : Nat) (bs' : List Int), gk = U.length - j ∧ mv = .slice q' met'.length c' ∧ jv = .int .i64 j ∧ j ≤ U.length ∧ Hid ((U.take j).foldl thrA (bs, met) = (bs', met')) ∧ met'.length ≤ met.length + j ∧ Hid (RmkS w wz t GI bs' q' c' met') ∧ Hid (bs'.length = n) ∧ Hid (OkB bs') ∧ Hid (Bk wz SB 42 #[.int .i64 (bb : Int), .int .i64 (kk : Int), .int .i64 c]) ∧ Hid (wz.ownsRow wr.heap.size 103 4 (.slice q9 U.length cp9) U.length (usCs U)))
          case atStart => exact ⟨0, met, qm, cm, bs, rfl, rfl, rfl, Nat.zero_le _, rfl, by omega, HSX, hbl, hok, HSB, HUR⟩
          case round =>
            rename World => wz
            obtain ⟨j, met', q', c', bs', rfl, rfl, rfl, hj, hfz, hml2, hSz, hbz, hoz, HBz, HUz⟩ := hrel
            by_cases hju : j < U.length
            · obtain ⟨mg, hmq, hmg, _, d0, d1, d2, d3⟩ := step_at (unveil HUz) hju
              have HTJ := veil (unveil HTH wz bs' met' q' c' U[j] (unveil hSz) (unveil hbz) (by omega) (List.getElem_mem hju))
              have HFO : Hid ((U.take (j + 1)).foldl thrA (bs, met) = (thrB bs' met' U[j], thrL met' U[j])) := by
                rw [Hid, List.take_succ_eq_append_getElem hju, List.foldl_append, unveil hfz]
                rfl
              have h1 := thrL_len met' U[j]
              have HBL : Hid ((thrB bs' met' U[j]).length = n) := (thrB_len bs' met' U[j]).trans (unveil hbz)
              have HOL := veil (thrB_ok (unveil hoz) met' U[j])
              generalize U[j] = u at *
              obtain ⟨u1, u2, u3, u4⟩ := u
              simp only at d0 d1 d2 d3 HTJ
              have hji : (j : Int) < (U.length : Int) := by omega
              have hjl : j ≤ 20 := by omega
              generalize thrL met' (u1, u2, u3, u4) = ML at *
              generalize thrB bs' met' (u1, u2, u3, u4) = BL at *
              have HGW := veil hGIwr
              subst hmq
              clear HTH hfz
              go_wp2_with (go_at_call 58; refine (unveil HTJ).mono ?_; rintro e W5 ⟨q2, c2, rfl, hs5, hg5⟩; have HS5 := veil hs5; have HG5 := veil hg5; clear hs5 hg5)
              go_roundg (U.length - (j + 1))
              case measure => omega
              case rel => exact ⟨j + 1, ML, q2, c2, BL, rfl, rfl, by go_num, by omega, HFO, by omega, HS5, HBL, HOL, bk_kept (unveil HBz) (unveil HG5) hneSB, row_kept (unveil HUz) (unveil HG5) (fun r e => by cases e; exact unveil HGW)⟩
            · have hnj : ¬ (j : Int) < (U.length : Int) := by omega
              obtain rfl : j = U.length := by omega
              have HFZ := unveil hfz
              rw [List.take_length] at HFZ
              have hRN := unveil HRF
              rw [HFZ] at hRN
              have HRN := veil hRN
              have HDW : Hid (Below wz.heap.size wz wz.drew) := (Below.refl _ wz).drew
              have HWR : Hid (Calls Try.prog 59 #[.slice (some ⟨GI, 0, none⟩) n n, .agg #[.int .i64 (bb : Int), .int .i64 (kk : Int), .int .i64 c], .int .i64 v] wz.drew fun e w' => (∃ r, e = .returned r) ∧ ByB w' GI (wrF bs' v (bitL bb kk)).1 ∧ wz.drew.grownBy w' (some GI)) := by
                have h := rwrite_any bs' (unveil hoz) GI n bb kk c v wz.drew ((unveil hSz).b.below (unveil HDW)) (by rw [unveil hbz]; exact hn2) hkk64 (by rw [unveil hbz]; exact hfit)
                rw [unveil hbz] at h
                exact h
              have HWL : Hid ((wrF bs' v (bitL bb kk)).1.length = n) := (wrF_len _ _ _).trans (unveil hbz)
              have HWO := veil (wrF_ok (unveil hoz) v (bitL bb kk))
              generalize (wrF bs' v (bitL bb kk)).1 = BN at *
              have HCZ : Hid (∀ W, Hid (Below wz.heap.size wz W) → (W.cell? ⟨SB, 0, none⟩ = some (.int .i64 (bb : Int)) ∧ W.cell? ⟨SB, 1, none⟩ = some (.int .i64 (kk : Int)) ∧ W.cell? ⟨SB, 2, none⟩ = some (.int .i64 c)) ∧ W.cell? ⟨gq, oq + k * 2 + 1, none⟩ = some (.int .i64 v) ∧ gq < W.heap.size ∧ SB < W.heap.size) := fun W hb => by
                have h1 := (unveil HBz).below (unveil hb)
                obtain ⟨s0, s1, s2, _⟩ := unveil HSC W ((unveil hSz).be.trans ((unveil hb).mono (unveil hSz).be.size))
                exact ⟨⟨h1.cell 0, h1.cell 1, h1.cell 2⟩, s1, s2, h1.lt⟩
              clear hfz HFZ hRN HRF HTH
              go_upto_region 16 with fail
              refine wp_region_noPanic (wpIn_wide.1 (wpIn_region_sch (ro := none) (n := 0) (fun w' => Hid (Below wz.heap.size wz w'))
                (.pure 0 (.pure 1 (.pure 2 (.pure 3 (.pure 4 (.pure 5 (.pure 6 .done)))))))
                7 hmixN (by kernel_rfl) (by kernel_rfl) (by kernel_rfl) (by kernel_rfl) (by kernel_rfl) (by kernel_rfl) (fun _ _ _ _ h => h) (veil (unveil HDW)) ?_))
              iterate 6 (
                refine sch_pure _ rfl _ (.inl ⟨rfl, fun W hS => (by obtain ⟨⟨u1, u2, u3⟩, ux, ul, uw⟩ := unveil HCZ W hS; go_simp; rfl)⟩) (fun B hB => ?_)
                simp only [List.getElem_toArray, List.getElem_cons_zero, List.getElem_cons_succ, Act.put, List.setIfInBounds_toArray, List.set_cons_zero, List.set_cons_succ] at hB
                subst hB)
              refine sch_pure _ rfl (.int .i64 v) (.inl ⟨rfl, fun W hS => (by obtain ⟨⟨u1, u2, u3⟩, ux, ul, uw⟩ := unveil HCZ W hS; go_simp)⟩) (fun B hB => ?_)
              simp only [List.getElem_toArray, List.getElem_cons_zero, List.getElem_cons_succ, Act.put, List.setIfInBounds_toArray, List.set_cons_zero, List.set_cons_succ] at hB
              subst hB
              refine sch_done ?_
              refine listIn_last rfl (fun K hK => ?_)
              go_simp
              refine ⟨trivial, rfl, (callsIn_wide.2 (unveil HWR)).mono ?_⟩
              rintro e W7 ⟨⟨r, rfl⟩, hk7, hg7⟩
              have HS7 := veil (((unveil hSz).below (unveil HDW)).turn hg7 hk7)
              refine hK _ _ ?_
              clear hK K hk7 hg7 HWR
              go_wp2_with fail
              go_roundg (l.length - (k + 1))
              case measure => omega
              case rel => exact ⟨k + 1, met', q', c', BN, rfl, rfl, by go_num, by omega, by omega, HS7, HWL, HWO, HRN⟩
      · have hnl : ¬ (k : Int) < (l.length : Int) := by omega
        have hkk : k = l.length := by omega
        have HFI : Hid (MK = (toB bs, 0, 0)) := by
          rw [Hid, unveil HMK', unveil hR, hkk, List.drop_length, rfR]
          rfl
        have hcv := ByB.back (unveil hok) (unveil hS).b n
        rw [unveil hbl] at hcv
        clear HMK' hR HWK2
        go_wp2_with fail
        refine bodyPost_ret (results_tmp3 rfl _ _ _) rfl ?_
        exact ⟨by rw [unveil HFI]; rfl, (unveil hS).be⟩
end Go.Proofs.Ytkiebejidpebdaa
