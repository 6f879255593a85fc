/-
  burinref11.Put; burinlaw11.ImageGets walked.
-/
import Derived.Test.YtkiebejidpebdaaSe
namespace Go.Proofs.Ytkiebejidpebdaa
open Go Go.RowKit Go.Shelf
set_option linter.unusedVariables false
set_option linter.unusedSimpArgs false

set_option maxRecDepth 100000 in
set_option maxHeartbeats 20000000 in
theorem RPut_any (t : ShT) (T : ByteArray) (p : Option Addr) (cap : Nat) (path : List Int) (v : Int) (w : World) (hin : t.In w.heap.size w) (hle : t.Len) (hp : PaG w.heap.size w p path) (hpl : path.length ≤ maxLen) (hcap : path.length ≤ cap) :
    Calls Try.prog 37 #[t.v, .string T, .slice p path.length cap, .int .i64 v] w fun e w' => e = .returned (.tuple #[.string (ptM t T path v).1, .int .i64 (ptM t T path v).2]) ∧ Below w.heap.size w w' := by
  have HRS : Hid (∀ W, Below w.heap.size w W → Calls Try.prog 31 #[t.v, .slice p path.length cap] W fun e w' => e = .returned (.tuple #[.agg (spC3 (fnM t path).1), .int .i64 (fnM t path).2.2]) ∧ Below W.heap.size W w') := fun W h => RSpot_any t p cap path W ((hin.below h).mono h.size) hle ((hp.below h).mono h.size) hpl hcap
  have HOF : Hid (∀ W, Below w.heap.size w W → Calls Try.prog 19 #[t.v] W (OfP W (chkM t).1.1 (chkM t).1.2 (chkM t).2 (ofL t))) := fun W h => Of_any t W ((hin.below h).mono h.size) hle
  have HT0 := veil (And.intro (TyB.new w t) ((Below.refl _ w).alloc (Nat.le_refl _) (.cells t.cs 25)))
  have HNO : Hid (((fnM t path).2.2 == 0) = false → ptM t T path v = (⟨#[]⟩, (fnM t path).2.2)) := fun h => by
    obtain ⟨h1, h2⟩ := gp_no (T := T) h
    unfold ptM
    rw [h1, h2]
    rfl
  have HAR : Hid (((fnM t path).2.2 == 0) = true → ¬ (T.size : Int) = (chkM t).1.1 → ptM t T path v = (⟨#[]⟩, 2)) := fun h hn => by
    obtain ⟨h1, h2⟩ := gp_arg h hn
    unfold ptM
    rw [h1, h2]
    rfl
  have HYE : Hid (((fnM t path).2.2 == 0) = true → (T.size : Int) = (chkM t).1.1 → ∃ (b k : Nat) (c : Int), (fnM t path).1 = ((b : Int), (k : Int), c) ∧ 1 ≤ k ∧ k ≤ 64 ∧ b + k ≤ 8 * T.size ∧ T.size ≤ 65536 ∧ ptM t T path v = (toB (wrF (ofB T) v (bitL b k)).1, 0)) := fun h hn => by
    obtain ⟨h1, _, b, k, h2, h3, h4, h5, h6, h7, h8⟩ := gp_fit h hn
    refine ⟨b, k, _, h2, h5, h6, h7, h8, ?_⟩
    unfold ptM
    rw [if_pos h1, h3, h4]
  clear hin hp hle
  generalize ptM t T path v = GT at *
  generalize fnM t path = FN at *
  generalize ofL t = OL at *
  generalize (chkM t).1.1 = Z at *
  generalize (chkM t).1.2 = A at *
  generalize (chkM t).2 = ER at *
  obtain ⟨⟨a, b, c⟩, z, er⟩ := FN
  unfold ShT.v ShT.cs spC3 at *
  unfold OfP bxC at HOF
  simp only at *
  go_enter Try.func37, Try.ntmps37
  go_upto_region 1 with fail
  generalize (w.alloc (.cells #[.int .i64 t.sh, .int .i64 t.k, .int .i64 t.n, .slice t.op t.of.length t.oc, .slice t.fp t.fs.length t.fc, .bool t.pk, .int .i64 t.al] 25)) = W0 at HT0 ⊢
  obtain ⟨y0, y1, y2, y3, y4, y5, y6⟩ := (unveil HT0).1.seven
  go_upto_region 2 with (go_at_call 31; refine (unveil HRS _ (unveil HT0).2).mono ?_; rintro e W2 ⟨rfl, hb2⟩; have HS2 : Hid (GpS w (W2.alloc (.cells #[.int .i64 a, .int .i64 b, .int .i64 c] 42)) t a b c W2.heap.size) := ⟨((unveil HT0).1.below hb2).alloc _, Bk.new _ _ _, ((unveil HT0).2.trans (hb2.mono (unveil HT0).2.size)).alloc (Nat.le_trans (unveil HT0).2.size hb2.size) _⟩; clear hb2)
  clear y0 y1 y2 y3 y4 y5 y6
  generalize (W2.alloc (.cells #[.int .i64 a, .int .i64 b, .int .i64 c] 42)) = W3 at *
  generalize W2.heap.size = SB at *
  cases h1 : er == 0
  · have h1' : (er != 0) = true := by simp only [bne, h1]; rfl
    have HG := veil (unveil HNO h1)
    clear HNO HAR HYE
    go_wp2_with fail
    refine bodyPost_ret (results_tmp2 rfl _ _ _) rfl ?_
    exact ⟨by rw [unveil HG]; rfl, (unveil HS2).be⟩
  · have h1' : (er != 0) = false := by simp only [bne, h1]; rfl
    obtain ⟨y0, y1, y2, y3, y4, y5, y6⟩ := (unveil HS2).t.seven
    go_upto_region 5 with (go_at_call 19; refine (unveil HOF _ (unveil HS2).be).mono ?_; rintro e W4 ⟨q4, n4, c4, rfl, hb4, _⟩; have hs4 := (unveil HS2).below hb4; have HS5 := veil (And.intro (hs4.below ((Below.refl _ W4).alloc (Nat.le_refl _) (.cells #[.int .i64 Z, .int .i64 A, .bool false, .slice q4 n4 c4] 32))) (Bk.new W4 32 #[.int .i64 Z, .int .i64 A, .bool false, .slice q4 n4 c4])); clear hb4 hs4)
    clear y0 y1 y2 y3 y4 y5 y6
    generalize (W4.alloc (.cells #[.int .i64 Z, .int .i64 A, .bool false, .slice q4 n4 c4] 32)) = W5 at *
    generalize W4.heap.size = BB at *
    have b0 : W5.cell? ⟨BB, 0, none⟩ = some (.int .i64 Z) := (unveil HS5).2.cell 0
    have bl := (unveil HS5).2.lt
    by_cases hn : (T.size : Int) = Z
    · obtain ⟨bb, kk, cc, he, hk0, hk1, hfit, hT, hgt⟩ := unveil HYE h1 hn
      obtain ⟨rfl, rfl, rfl⟩ : a = (bb : Int) ∧ b = (kk : Int) ∧ c = cc := by simpa using he
      have HG := veil hgt
      clear HNO HAR HYE he hgt
      have hn' : ((T.size : Int) != Z) = false := by simpa using hn
      have hcv := conv_in W5 T
      have hbw := Go.Joins.below_bytesWorld W5.heap.size W5 5 T (Nat.le_refl _)
      have HS6 := veil ((unveil HS5).1.below hbw)
      have HBY := veil (ByB.new W5 5 T)
      generalize (Lib.bytesWorld W5 5 T) = W6 at *
      generalize grownCap W5 T.size 0 5 = CP at *
      have hlen : (ofB T).length = T.size := ofB_len T
      have HWR : Hid (Calls Try.prog 59 #[.slice (some ⟨W5.heap.size, 0, none⟩) T.size CP, .agg #[.int .i64 bb, .int .i64 kk, .int .i64 c], .int .i64 v] W6 fun e w' => (∃ r, e = .returned r) ∧ ByB w' W5.heap.size (wrF (ofB T) v (bitL bb kk)).1 ∧ W6.grownBy w' (some W5.heap.size)) := by
        have h := rwrite_any (ofB T) (ofB_ok T) W5.heap.size CP bb kk c v W6 (unveil HBY) (by rw [hlen]; exact hT) hk1 (by rw [hlen]; exact hfit)
        rw [hlen] at h
        exact h
      have HWO := veil (wrF_ok (ofB_ok T) v (bitL bb kk))
      have HWL := veil ((wrF_len (ofB T) v (bitL bb kk)).trans hlen)
      have hW5 : w.heap.size ≤ W5.heap.size := (unveil HS5).1.be.size
      clear hlen
      generalize (wrF (ofB T) v (bitL bb kk)).1 = RS at *
      have e0 := (unveil HS6).s.cell 0
      have e1 := (unveil HS6).s.cell 1
      have e2 := (unveil HS6).s.cell 2
      have el := (unveil HS6).s.lt
      simp only [List.getElem?_toArray, List.getElem?_cons_zero, List.getElem?_cons_succ] at e0 e1 e2
      clear hbw
      have HFIN : Hid (∀ W7, ByB W7 W5.heap.size RS → W6.grownBy W7 (some W5.heap.size) → (∀ W8, W8 = W7 → (convert 62 9 (.slice (some ⟨W5.heap.size, 0, none⟩) T.size CP)).run Try.prog W8 = .ok (.string (toB RS)) W8) ∧ Hid (Below w.heap.size w W7)) := fun W7 hk7 hg7 => by
        refine ⟨fun W8 e => ?_, (unveil HS6).be.grown hg7 (unveil HS6).be.size (fun r e => by cases e; exact hW5)⟩
        subst e
        have := ByB.back (unveil HWO) hk7 CP
        rw [unveil HWL] at this
        exact this
      go_upto_region 9 with (go_at_call 59; refine (unveil HWR).mono ?_; rintro e W7 ⟨⟨r, rfl⟩, hk7, hg7⟩; obtain ⟨hcv7, HB7⟩ := unveil HFIN W7 hk7 hg7; have hcv8 := hcv7 W7 rfl; clear hk7 hg7 hcv7)
      clear e0 e1 e2
      go_wp2_with fail
      refine bodyPost_ret (results_tmp2 rfl _ _ _) rfl ?_
      exact ⟨by rw [unveil HG]; rfl, unveil HB7⟩
    · have HG := veil (unveil HAR h1 hn)
      clear HNO HAR HYE
      have hn' : ((T.size : Int) != Z) = true := by simpa using hn
      go_wp2_with fail
      refine bodyPost_ret (results_tmp2 rfl _ _ _) rfl ?_
      exact ⟨by rw [unveil HG]; rfl, (unveil HS5).1.be⟩
set_option maxRecDepth 100000 in
set_option maxHeartbeats 20000000 in
theorem imageGets_walk (t : ShT) (T : ByteArray) (p : Option Addr) (cap : Nat) (path : List Int) (v : Int) (w : World) (hin : t.In w.heap.size w) (hle : t.Len) (hp : PaG w.heap.size w p path) (hpl : path.length ≤ maxLen) (hcap : path.length ≤ cap) :
    Calls Try.prog 12 #[t.v, .string T, .slice p path.length cap, .int .i64 v] w fun e w' => e = .returned (.bool true) ∧ Below w.heap.size w w' := by
  have HSH := veil shown11_any
  have HGE : Hid (∀ W, Below w.heap.size w W → Calls Try.prog 34 #[t.v, .string T, .slice p path.length cap] W fun e w' => e = .returned (.tuple #[.int .i64 (gtM t T path).1, .int .i64 (gtM t T path).2]) ∧ Below W.heap.size W w') := fun W h => Get_any t T p cap path W ((hin.below h).mono h.size) ((hp.below h).mono h.size) hpl
  have HRG : Hid (∀ W, Below w.heap.size w W → Calls Try.prog 35 #[t.v, .string T, .slice p path.length cap] W fun e w' => e = .returned (.tuple #[.int .i64 (gtM t T path).1, .int .i64 (gtM t T path).2]) ∧ Below W.heap.size W w') := fun W h => RGet_any t T p cap path W ((hin.below h).mono h.size) hle ((hp.below h).mono h.size) hpl hcap
  have HPU : Hid (∀ W, Below w.heap.size w W → Calls Try.prog 36 #[t.v, .string T, .slice p path.length cap, .int .i64 v] W fun e w' => e = .returned (.tuple #[.string (ptM t T path v).1, .int .i64 (ptM t T path v).2]) ∧ Below W.heap.size W w') := fun W h => Put_any t T p cap path v W ((hin.below h).mono h.size) ((hp.below h).mono h.size) hpl
  have HRP : Hid (∀ W, Below w.heap.size w W → Calls Try.prog 37 #[t.v, .string T, .slice p path.length cap, .int .i64 v] W fun e w' => e = .returned (.tuple #[.string (ptM t T path v).1, .int .i64 (ptM t T path v).2]) ∧ Below W.heap.size W w') := fun W h => RPut_any t T p cap path v W ((hin.below h).mono h.size) hle ((hp.below h).mono h.size) hpl hcap
  have HT0 := veil (And.intro (TyB.new w t) ((Below.refl _ w).alloc (Nat.le_refl _) (.cells t.cs 25)))
  clear hin hp hle
  generalize gtM t T path = GT at *
  generalize ptM t T path v = PT at *
  obtain ⟨ga, ge⟩ := GT
  obtain ⟨pa, pe⟩ := PT
  unfold ShT.v ShT.cs at *
  simp only at *
  go_enter Try.func12, Try.ntmps12
  go_upto_region 1 with fail
  generalize (w.alloc (.cells #[.int .i64 t.sh, .int .i64 t.k, .int .i64 t.n, .slice t.op t.of.length t.oc, .slice t.fp t.fs.length t.fc, .bool t.pk, .int .i64 t.al] 25)) = W0 at HT0 ⊢
  go_upto_region 2 with (go_at_call 29; refine (unveil HSH _).mono ?_; rintro e W1 ⟨rfl, hb1⟩; have HT1 := veil (And.intro ((unveil HT0).1.below hb1) ((unveil HT0).2.trans (hb1.mono (unveil HT0).2.size))); clear hb1)
  obtain ⟨y0, y1, y2, y3, y4, y5, y6⟩ := (unveil HT1).1.seven
  go_upto_region 3 with (go_at_call 34; refine (unveil HGE _ (unveil HT1).2).mono ?_; rintro e W2 ⟨rfl, hb1⟩; have HT2 := veil (And.intro ((unveil HT1).1.below hb1) ((unveil HT1).2.trans (hb1.mono (unveil HT1).2.size))); clear hb1)
  clear y0 y1 y2 y3 y4 y5 y6
  obtain ⟨y0, y1, y2, y3, y4, y5, y6⟩ := (unveil HT2).1.seven
  go_upto_region 4 with (go_at_call 35; refine (unveil HRG _ (unveil HT2).2).mono ?_; rintro e W3 ⟨rfl, hb1⟩; have HT3 := veil (And.intro ((unveil HT2).1.below hb1) ((unveil HT2).2.trans (hb1.mono (unveil HT2).2.size))); clear hb1)
  clear y0 y1 y2 y3 y4 y5 y6
  obtain ⟨y0, y1, y2, y3, y4, y5, y6⟩ := (unveil HT3).1.seven
  go_upto_region 5 with (go_at_call 36; refine (unveil HPU _ (unveil HT3).2).mono ?_; rintro e W4 ⟨rfl, hb1⟩; have HT4 := veil (And.intro ((unveil HT3).1.below hb1) ((unveil HT3).2.trans (hb1.mono (unveil HT3).2.size))); clear hb1)
  clear y0 y1 y2 y3 y4 y5 y6
  obtain ⟨y0, y1, y2, y3, y4, y5, y6⟩ := (unveil HT4).1.seven
  go_upto_region 6 with (go_at_call 37; refine (unveil HRP _ (unveil HT4).2).mono ?_; rintro e W5 ⟨rfl, hb1⟩; have HT5 := veil ((unveil HT4).2.trans (hb1.mono (unveil HT4).2.size)); clear hb1)
  clear y0 y1 y2 y3 y4 y5 y6
  go_wp2_with fail
  go_ret
  exact ⟨rfl, unveil HT5⟩
end Go.Proofs.Ytkiebejidpebdaa
