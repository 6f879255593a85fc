/-
  burinlaw11.ImageBack walked.
-/
import Derived.Test.YtgomlfaekfabpaaTe
namespace Go.Proofs.Ytgomlfaekfabpaa
open Go Go.RowKit Go.Shelf
set_option linter.unusedVariables false
set_option linter.unusedSimpArgs false

set_option maxRecDepth 100000 in
set_option maxHeartbeats 20000000 in
theorem imageBack_walk (t : ShT) (T : ByteArray) (p : Option Addr) (cap : Nat) (path : List Int) (p2 : Option Addr) (cap2 : Nat) (path2 : List Int) (v : Int) (w : World) (hin : t.In w.heap.size w) (hp : PaG w.heap.size w p path) (hpl : path.length ≤ maxLen) (hp2 : PaG w.heap.size w p2 path2) (hpl2 : path2.length ≤ maxLen) :
    Calls Try.prog 13 #[t.v, .string T, .slice p path.length cap, .slice p2 path2.length cap2, .int .i64 v] w fun e w' => e = .returned (.bool true) ∧ Below w.heap.size w w' := by
  have HSH := veil shown11_any
  have HPT : Hid (∀ W, Below w.heap.size w W → Calls Try.prog 36 #[t.v, .string T, .slice p path.length cap, .int .i64 v] W fun e w' => e = .returned (.tuple #[.string (ptM t T path v).1, .int .i64 (ptM t T path v).2]) ∧ Below W.heap.size W w') := fun W h => Put_any t T p cap path v W ((hin.below h).mono h.size) ((hp.below h).mono h.size) hpl
  have HS1 : Hid (∀ W, Below w.heap.size w W → Calls Try.prog 30 #[t.v, .slice p path.length cap] W fun e w' => e = .returned (.tuple #[.agg (spC3 (fnM t path).1), .int .i64 (fnM t path).2.2]) ∧ Below W.heap.size W w') := fun W h => Spot11_any t p cap path W ((hin.below h).mono h.size) ((hp.below h).mono h.size) hpl
  have HS2 : Hid (∀ W, Below w.heap.size w W → Calls Try.prog 30 #[t.v, .slice p2 path2.length cap2] W fun e w' => e = .returned (.tuple #[.agg (spC3 (fnM t path2).1), .int .i64 (fnM t path2).2.2]) ∧ Below W.heap.size W w') := fun W h => Spot11_any t p2 cap2 path2 W ((hin.below h).mono h.size) ((hp2.below h).mono h.size) hpl2
  have HG1 : Hid (∀ X W, Below w.heap.size w W → Calls Try.prog 34 #[t.v, .string X, .slice p path.length cap] W fun e w' => e = .returned (.tuple #[.int .i64 (gtM t X path).1, .int .i64 (gtM t X path).2]) ∧ Below W.heap.size W w') := fun X W h => Get_any t X p cap path W ((hin.below h).mono h.size) ((hp.below h).mono h.size) hpl
  have HG2 : Hid (∀ X W, Below w.heap.size w W → Calls Try.prog 34 #[t.v, .string X, .slice p2 path2.length cap2] W fun e w' => e = .returned (.tuple #[.int .i64 (gtM t X path2).1, .int .i64 (gtM t X path2).2]) ∧ Below W.heap.size W w') := fun X W h => Get_any t X p2 cap2 path2 W ((hin.below h).mono h.size) ((hp2.below h).mono h.size) hpl2
  have HT0 := veil (And.intro (TyB.new w t) ((Below.refl _ w).alloc (Nat.le_refl _) (.cells t.cs 25)))
  clear hin hp hp2
  cases h1 : (ptM t T path v).2 == 0
  · have hx := pt_no h1
    rw [hx] at HPT
    have h1' : ((ptM t T path v).2 != 0) = true := by simp only [bne, h1]; rfl
    generalize (ptM t T path v).2 = ep at *
    clear HG1 HG2 HS2 hx
    generalize fnM t path = FN at *
    obtain ⟨⟨a, b, c⟩, z, er⟩ := FN
    unfold ShT.v ShT.cs spC3 at *
    simp only at *
    go_enter Try.func13, Try.ntmps13
    go_upto_region 1 with fail
    generalize (w.alloc (.cells #[.int .i64 t.sh, .int .i64 t.k, .int .i64 t.n, .slice t.op t.of.length t.oc, .slice t.fp t.fs.length t.fc, .bool t.pk, .int .i64 t.al] 25)) = W0 at HT0 ⊢
    go_upto_region 2 with (go_at_call 29; refine (unveil HSH _).mono ?_; rintro e W1 ⟨rfl, hb1⟩; have HT1 := veil (And.intro ((unveil HT0).1.below hb1) ((unveil HT0).2.trans (hb1.mono (unveil HT0).2.size))); clear hb1)
    obtain ⟨y0, y1, y2, y3, y4, y5, y6⟩ := (unveil HT1).1.seven
    go_upto_region 3 with (go_at_call 36; refine (unveil HPT _ (unveil HT1).2).mono ?_; rintro e W2 ⟨rfl, hb2⟩; have HT2 := veil (And.intro ((unveil HT1).1.below hb2) ((unveil HT1).2.trans (hb2.mono (unveil HT1).2.size))); clear hb2)
    clear y0 y1 y2 y3 y4 y5 y6
    obtain ⟨y0, y1, y2, y3, y4, y5, y6⟩ := (unveil HT2).1.seven
    go_wp2_with (go_at_call 30; refine (unveil HS1 _ (unveil HT2).2).mono ?_; rintro e W3 ⟨rfl, hb3⟩; have HB3 := veil ((unveil HT2).2.trans (hb3.mono (unveil HT2).2.size)); clear hb3)
    go_ret
    exact ⟨by first | rfl | simp, (unveil HB3).alloc (unveil HB3).size _⟩
  · obtain ⟨bb, kk, kd, HO⟩ := pt_yes h1
    have hout := HO.out
    have hfn := fn_of HO.chk HO.ok
    rw [HO.sp] at hfn
    have hxs := HO.size
    obtain ⟨X, hX⟩ : ∃ X, (ptM t T path v).1 = X := ⟨_, rfl⟩
    have hgx := gt_of (T := X) HO.chk HO.ok (by rw [← hX, hxs]; exact HO.sz)
    rw [HO.sp] at hgx
    simp only [Int.toNat_natCast] at hgx
    have hpush : IntKind.u64.wrap (IntKind.u64.wrap (rdM X bb kk kd) * 2 ^ (64 - kk)) = IntKind.u64.wrap (IntKind.u64.wrap v * 2 ^ (64 - kk)) := by
      refine push_eq HO.n1 ?_
      rw [← hX, hout]
      exact put_read (ofB_ok T) v bb kk kd HO.n0 HO.n1 (by rw [ofB_len]; exact HO.fit)
    have HDS : Hid (((fnM t path2).2.2 == 0) = true → ¬ ((fnM t path2).1.1 < (bb : Int) + kk ∧ (bb : Int) < (fnM t path2).1.1 + (fnM t path2).1.2.1) → ∃ r, gtM t T path2 = (r, 0) ∧ gtM t X path2 = (r, 0)) := fun h2 hd => by
      obtain ⟨_, o2, e1, _⟩ := fn_ok h2
      rw [e1] at hd
      obtain ⟨f1, f2, f3, f4⟩ := sp_fits HO.chk o2
      refine ⟨rdM T (spP t path2).1.toNat (spP t path2).2.1.toNat (spP t path2).2.2, gt_of HO.chk o2 HO.sz, ?_⟩
      rw [gt_of (T := X) HO.chk o2 (by rw [← hX, hxs]; exact HO.sz)]
      have hh := put_other (ofB_ok T) v bb kk (by rw [ofB_len]; exact HO.fit) (spP t path2).1.toNat (spP t path2).2.1.toNat (spP t path2).2.2 (by omega) (by omega) (by omega)
      rw [toB_of] at hh
      have hX' : X = toB (wrF (ofB T) v (bitL bb kk)).1 := by rw [← hX, hout]
      rw [hX', hh]
    have HAB : Hid (((fnM t path2).2.2 == 0) = true → 0 ≤ (fnM t path2).1.1 ∧ 0 < (fnM t path2).1.2.1 ∧ (fnM t path2).1.1 + (fnM t path2).1.2.1 ≤ 524288) := fun h2 => by
      obtain ⟨_, o2, e1, _⟩ := fn_ok h2
      rw [e1]
      obtain ⟨f1, f2, f3, f4⟩ := sp_fits HO.chk o2
      have := chk_size t
      omega
    have hep : (ptM t T path v).2 = 0 := by rw [hout]
    have hsp64 : ((64 : Int) - kk).toNat = 64 - kk := by omega
    have hk0 := HO.n0
    have hk1 := HO.n1
    have hbz := HO.fit
    have hTf := HO.few
    rw [hX] at hxs
    rw [hep, hX] at HPT
    rw [hfn] at HS1
    have HPU := veil hpush
    have hXT : ((X.size : Int) != (T.size : Int)) = false := by simp [hxs]
    clear HO hout hfn hX hep h1 hpush
    have HGX : Hid (∀ W, Below w.heap.size w W → Calls Try.prog 34 #[t.v, .string X, .slice p path.length cap] W fun e w' => e = .returned (.tuple #[.int .i64 (rdM X bb kk kd), .int .i64 0]) ∧ Below W.heap.size W w') := fun W h => by
      have := unveil HG1 X W h
      rw [hgx] at this
      exact this
    clear HG1 hgx
    generalize rdM X bb kk kd = GT at *
    have HFN : Hid (∀ W, Below w.heap.size w W → Calls Try.prog 30 #[t.v, .slice p2 path2.length cap2] W fun e w' => e = .returned (.tuple #[.agg #[.int .i64 (fnM t path2).1.1, .int .i64 (fnM t path2).1.2.1, .int .i64 (fnM t path2).1.2.2], .int .i64 (fnM t path2).2.2]) ∧ Below W.heap.size W w') := HS2
    clear HS2
    generalize fnM t path2 = FN at *
    obtain ⟨⟨a, b, c⟩, z, er⟩ := FN
    unfold ShT.v ShT.cs spC3 at *
    simp only at *
    go_enter Try.func13, Try.ntmps13
    go_upto_region 1 with fail
    generalize (w.alloc (.cells #[.int .i64 t.sh, .int .i64 t.k, .int .i64 t.n, .slice t.op t.of.length t.oc, .slice t.fp t.fs.length t.fc, .bool t.pk, .int .i64 t.al] 25)) = W0 at HT0 ⊢
    go_upto_region 2 with (go_at_call 29; refine (unveil HSH _).mono ?_; rintro e W1 ⟨rfl, hb1⟩; have HT1 := veil (And.intro ((unveil HT0).1.below hb1) ((unveil HT0).2.trans (hb1.mono (unveil HT0).2.size))); clear hb1)
    obtain ⟨y0, y1, y2, y3, y4, y5, y6⟩ := (unveil HT1).1.seven
    go_upto_region 3 with (go_at_call 36; refine (unveil HPT _ (unveil HT1).2).mono ?_; rintro e W2 ⟨rfl, hb2⟩; have HT2 := veil (And.intro ((unveil HT1).1.below hb2) ((unveil HT1).2.trans (hb2.mono (unveil HT1).2.size))); clear hb2)
    clear y0 y1 y2 y3 y4 y5 y6
    obtain ⟨y0, y1, y2, y3, y4, y5, y6⟩ := (unveil HT2).1.seven
    go_upto_region 6 with (go_at_call 30; refine (unveil HS1 _ (unveil HT2).2).mono ?_; rintro e W3 ⟨rfl, hb3⟩; have HS3 : Hid (IlS w (W3.alloc (.cells #[.int .i64 (bb : Int), .int .i64 (kk : Int), .int .i64 kd] 42)) t bb kk kd W3.heap.size) := ⟨((unveil HT2).1.below hb3).alloc _, Bk.new _ _ _, ((unveil HT2).2.trans (hb3.mono (unveil HT2).2.size)).alloc (Nat.le_trans (unveil HT2).2.size hb3.size) _⟩; clear hb3)
    clear y0 y1 y2 y3 y4 y5 y6
    generalize (W3.alloc (.cells #[.int .i64 (bb : Int), .int .i64 (kk : Int), .int .i64 kd] 42)) = W4 at *
    generalize W3.heap.size = SB at *
    obtain ⟨y0, y1, y2, y3, y4, y5, y6⟩ := (unveil HS3).t.seven
    go_upto_region 7 with (go_at_call 34; refine (unveil HGX _ (unveil HS3).be).mono ?_; rintro e W5 ⟨rfl, hb5⟩; have HS5 := veil ((unveil HS3).below hb5); clear hb5)
    clear y0 y1 y2 y3 y4 y5 y6
    have e1 := (unveil HS5).s.cell 1
    simp only [List.getElem?_toArray, List.getElem?_cons_zero, List.getElem?_cons_succ] at e1
    go_upto_region 8 with fail
    have hn0 : (0 : Int) ≤ 64 - kk := by omega
    have hn1 : (64 : Int) - kk ≤ 64 := by omega
    have hpn : (IntKind.u64.wrap (IntKind.u64.wrap GT * 2 ^ (64 - kk)) != IntKind.u64.wrap (IntKind.u64.wrap v * 2 ^ (64 - kk))) = false := by rw [unveil HPU]; simp
    go_quiet (fail)
    have HS6 : Hid (IlS w (W5.drewN nq) t bb kk kd SB) := (unveil HS5).below (below_drewS (Below.refl _ W5) nq)
    generalize (W5.drewN nq) = W6 at *
    clear e1 hpn HS5
    obtain ⟨y0, y1, y2, y3, y4, y5, y6⟩ := (unveil HS6).t.seven
    go_upto_region 11 with (go_at_call 30; refine (unveil HFN _ (unveil HS6).be).mono ?_; rintro e W7 ⟨rfl, hb7⟩; have HS8 : Hid (IlS w (W7.alloc (.cells #[.int .i64 a, .int .i64 b, .int .i64 c] 42)) t bb kk kd SB ∧ Bk (W7.alloc (.cells #[.int .i64 a, .int .i64 b, .int .i64 c] 42)) W7.heap.size 42 #[.int .i64 a, .int .i64 b, .int .i64 c]) := ⟨((unveil HS6).below hb7).below ((Below.refl _ W7).alloc (Nat.le_refl _) _), Bk.new _ _ _⟩; clear hb7)
    clear y0 y1 y2 y3 y4 y5 y6
    generalize (W7.alloc (.cells #[.int .i64 a, .int .i64 b, .int .i64 c] 42)) = W8 at *
    generalize W7.heap.size = SQ at *
    have HB8 : Hid (Below w.heap.size w W8) := (unveil HS8).1.be
    cases h3 : er == 0
    · have h3' : (er != 0) = true := by simp only [bne, h3]; rfl
      go_wp2_with fail
      go_ret
      exact ⟨rfl, unveil HB8⟩
    · have h3' : (er != 0) = false := by simp only [bne, h3]; rfl
      obtain ⟨ab0, ab1, ab2⟩ := unveil HAB h3
      have HD3 := veil (unveil HDS h3)
      clear HDS HAB
      have u0 := (unveil HS8).1.s.cell 0
      have u1 := (unveil HS8).1.s.cell 1
      have q0 := (unveil HS8).2.cell 0
      have q1 := (unveil HS8).2.cell 1
      have ul := (unveil HS8).1.s.lt
      have ql := (unveil HS8).2.lt
      simp only [List.getElem?_toArray, List.getElem?_cons_zero, List.getElem?_cons_succ] at u0 u1 q0 q1
      have hbk : (bb : Int) + kk ≤ 524288 := by omega
      by_cases c1 : a < (bb : Int) + kk
      · by_cases c2 : (bb : Int) < a + b
        · go_wp2_with fail
          go_ret
          exact ⟨rfl, unveil HB8⟩
        · obtain ⟨r, g1, g2⟩ := unveil HD3 (fun h => c2 h.2)
          have HGT1 := veil (fun W h => unveil HG2 T W h)
          have HGT2 := veil (fun W h => unveil HG2 X W h)
          rw [g1] at HGT1
          rw [g2] at HGT2
          obtain ⟨y0, y1, y2, y3, y4, y5, y6⟩ := (unveil HS8).1.t.seven
          go_upto_region 14 with (go_at_call 34; refine (unveil HGT1 _ (unveil HB8)).mono ?_; rintro e W9 ⟨rfl, hb9⟩; have HS9 := veil ((unveil HS8).1.below hb9); clear hb9)
          clear y0 y1 y2 y3 y4 y5 y6 u0 u1 q0 q1
          obtain ⟨y0, y1, y2, y3, y4, y5, y6⟩ := (unveil HS9).t.seven
          go_wp2_with (go_at_call 34; refine (unveil HGT2 _ (unveil HS9).be).mono ?_; rintro e W10 ⟨rfl, hb10⟩; have HB10 := veil ((unveil HS9).be.trans (hb10.mono (unveil HS9).be.size)); clear hb10)
          go_ret
          exact ⟨by first | rfl | simp, unveil HB10⟩
      · obtain ⟨r, g1, g2⟩ := unveil HD3 (fun h => c1 h.1)
        have HGT1 := veil (fun W h => unveil HG2 T W h)
        have HGT2 := veil (fun W h => unveil HG2 X W h)
        rw [g1] at HGT1
        rw [g2] at HGT2
        obtain ⟨y0, y1, y2, y3, y4, y5, y6⟩ := (unveil HS8).1.t.seven
        go_upto_region 14 with (go_at_call 34; refine (unveil HGT1 _ (unveil HB8)).mono ?_; rintro e W9 ⟨rfl, hb9⟩; have HS9 := veil ((unveil HS8).1.below hb9); clear hb9)
        clear y0 y1 y2 y3 y4 y5 y6 u0 u1 q0 q1
        obtain ⟨y0, y1, y2, y3, y4, y5, y6⟩ := (unveil HS9).t.seven
        go_wp2_with (go_at_call 34; refine (unveil HGT2 _ (unveil HS9).be).mono ?_; rintro e W10 ⟨rfl, hb10⟩; have HB10 := veil ((unveil HS9).be.trans (hb10.mono (unveil HS9).be.size)); clear hb10)
        go_ret
        exact ⟨by first | rfl | simp, unveil HB10⟩
end Go.Proofs.Ytgomlfaekfabpaa
