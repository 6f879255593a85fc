/-
  burinref11.Spot; burinlaw11.ImageSpots walked.
-/
import Derived.Test.YtkiebejidpebdaaTy
import Derived.Test.YtkiebejidpebdaaTb
namespace Go.Proofs.Ytkiebejidpebdaa
open Go Go.RowKit Go.Shelf
set_option linter.unusedVariables false
set_option linter.unusedSimpArgs false

set_option maxRecDepth 100000 in
set_option maxHeartbeats 20000000 in
theorem RSpot_any (t : ShT) (p : Option Addr) (cap : Nat) (path : List Int) (w : World) (hin : t.In w.heap.size w) (hle : t.Len) (hp : PaG w.heap.size w p path) (hpl : path.length ≤ maxLen) (hcap : path.length ≤ cap) :
    Calls Try.prog 31 #[t.v, .slice p path.length cap] w fun e w' => e = .returned (.tuple #[.agg (spC3 (fnM t path).1), .int .i64 (fnM t path).2.2]) ∧ Below w.heap.size w w' := by
  have HOF : Hid (∀ W, Below w.heap.size w W → Calls Try.prog 19 #[t.v] W (OfP W (chkM t).1.1 (chkM t).1.2 (chkM t).2 (ofL t))) := fun W h => Of_any t W ((hin.below h).mono h.size) hle
  have HWK : Hid (((chkM t).2 == 0) = true → ∀ W, Below w.heap.size w W → Calls Try.prog 52 #[t.v, .int .i64 0, .int .i64 0, .slice p path.length cap] W (fun e w' => ∃ a b c q n cp, e = .returned (.tuple #[.agg #[.int .i64 a, .int .i64 b, .int .i64 c], .slice q n cp, .bool (okP t path)]) ∧ Below W.heap.size W w' ∧ (okP t path = true → (a, b, c) = spP t path))) := fun hc W h => by
    have hz := chk_size t
    refine (rwalk_any path 6 (x0M t) 0 0 p cap W (Nat.le_refl _) (RiN.whole hc) ((hin.below h).mono h.size) hle ((hp.below h).mono h.size) hcap hpl (by omega) (by show 0 + 8 * (chkM t).1.1 ≤ 524288; omega) (by omega) (by omega)).mono ?_
    rintro e w' ⟨a, b, c, q, n, cp, U, he, _, hb, hh, _⟩
    exact ⟨a, b, c, q, n, cp, he, hb, fun ho => (hh ho).1⟩
  have HT0 := veil (FdS.new w t)
  have HFN : Hid (fnM t path = if (chkM t).2 == 0 then (if okP t path then (spP t path, (chkM t).1.1, 0) else ((0, 0, 0), 0, 110)) else ((0, 0, 0), 0, (chkM t).2)) := rfl
  clear hin hp hle
  generalize fnM t path = FN at *
  generalize okP t path = OK at *
  generalize spP t path = SP at *
  generalize ofL t = OL at *
  generalize (chkM t).1.1 = Z at *
  generalize (chkM t).1.2 = A at *
  generalize (chkM t).2 = ER at *
  obtain ⟨s0, s1, s2⟩ := SP
  unfold ShT.v ShT.cs spC3 at *
  unfold OfP bxC at HOF
  go_enter Try.func31, Try.ntmps31
  go_upto_region 1 with fail
  generalize ((w.alloc (.cells #[.int .i64 t.sh, .int .i64 t.k, .int .i64 t.n, .slice t.op t.of.length t.oc, .slice t.fp t.fs.length t.fc, .bool t.pk, .int .i64 t.al] 25)).alloc (.cells #[.int .i64 0, .int .i64 0, .int .i64 0] 42)) = W0 at HT0 ⊢
  obtain ⟨y0, y1, y2, y3, y4, y5, y6⟩ := (unveil HT0).t.seven
  go_upto_region 2 with (go_at_call 19; refine (unveil HOF _ (unveil HT0).be).mono ?_; rintro e W1 ⟨q1, n1, c1, rfl, hb1, _⟩; have HS := veil (((unveil HT0).below hb1).below ((Below.refl _ W1).alloc (Nat.le_refl _) (.cells #[.int .i64 Z, .int .i64 A, .bool false, .slice q1 n1 c1] 32))); clear hb1)
  clear y0 y1 y2 y3 y4 y5 y6
  generalize (W1.alloc (.cells #[.int .i64 Z, .int .i64 A, .bool false, .slice q1 n1 c1] 32)) = W2 at *
  obtain ⟨y0, y1, y2, y3, y4, y5, y6⟩ := (unveil HS).t.seven
  cases h1 : ER == 0
  · have h1' : (ER != 0) = true := by simp only [bne, h1]; rfl
    rw [Hid, h1] at HFN
    simp only [Bool.false_eq_true, if_false] at HFN
    have HFN' := veil HFN
    clear HFN
    obtain ⟨⟨z0, z1, z2⟩, ⟨f0, f1, f2⟩, zl⟩ := (unveil HS).cells
    go_wp2_with fail
    obtain ⟨q1, q2⟩ := (unveil HS).fin (.int .i64 0) (.int .i64 0) (.int .i64 0) _ rfl
    exact bodyPost_ret (res_st (f := Try.f31) (i := 5) rfl rfl q1 rfl) rfl ⟨by rw [unveil HFN']; rfl, q2⟩
  · have h1' : (ER != 0) = false := by simp only [bne, h1]; rfl
    have HWK2 := veil (unveil HWK h1)
    rw [Hid, h1] at HFN
    simp only [if_true] at HFN
    have HFN2 := veil HFN
    clear HFN HWK
    go_upto_region 5 with (go_at_call 52; refine (unveil HWK2 _ (unveil HS).be).mono ?_; rintro e W3 ⟨a, b, c, q, n, cp, rfl, hb3, ho⟩; have HO := veil ho; have hs := ((unveil HS).below hb3).two (.int .i64 a) (.int .i64 b) (.int .i64 c); have HS3 := veil hs; clear hb3 hs ho)
    clear y0 y1 y2 y3 y4 y5 y6
    obtain ⟨⟨z0, z1, z2⟩, ⟨f0, f1, f2⟩, zl⟩ := (unveil HS3).1.cells
    have e0 := (unveil HS3).2.cell 0
    have e1 := (unveil HS3).2.cell 1
    have e2 := (unveil HS3).2.cell 2
    have el := (unveil HS3).2.lt
    simp only [List.getElem?_toArray, List.getElem?_cons_zero, List.getElem?_cons_succ] at e0 e1 e2
    generalize (W3.alloc (.cells #[.int .i64 a, .int .i64 b, .int .i64 c] 42)) = W4 at *
    generalize W3.heap.size = SB at *
    cases OK
    · rw [Hid] at HFN2
      simp only [Bool.false_eq_true, if_false] at HFN2
      have HFN' := veil HFN2
      clear HFN2 HO
      go_wp2_with fail
      obtain ⟨q1, q2⟩ := (unveil HS3).1.fin (.int .i64 0) (.int .i64 0) (.int .i64 0) _ rfl
      exact bodyPost_ret (res_st (f := Try.f31) (i := 5) rfl rfl q1 rfl) rfl ⟨by rw [unveil HFN']; rfl, q2⟩
    · rw [Hid] at HFN2
      simp only [if_true] at HFN2
      have HFN' := veil HFN2
      have HE := veil (unveil HO rfl)
      clear HFN2 HO
      go_wp2_with fail
      obtain ⟨q1, q2⟩ := (unveil HS3).1.fin (.int .i64 a) (.int .i64 b) (.int .i64 c) _ rfl
      exact bodyPost_ret (res_st (f := Try.f31) (i := 5) rfl rfl q1 rfl) rfl ⟨by rw [unveil HFN', ← unveil HE]; rfl, q2⟩
set_option maxRecDepth 100000 in
set_option maxHeartbeats 20000000 in
theorem imageSpots_walk (t : ShT) (p : Option Addr) (cap : Nat) (path : List Int) (w : World) (hin : t.In w.heap.size w) (hle : t.Len) (hp : PaG w.heap.size w p path) (hpl : path.length ≤ maxLen) (hcap : path.length ≤ cap) :
    Calls Try.prog 10 #[t.v, .slice p path.length cap] w fun e w' => e = .returned (.bool true) ∧ Below w.heap.size w w' := by
  have HSH := veil shown11_any
  have HSP : Hid (∀ W, Below w.heap.size w W → Calls Try.prog 30 #[t.v, .slice p path.length cap] W fun e w' => e = .returned (.tuple #[.agg (spC3 (fnM t path).1), .int .i64 (fnM t path).2.2]) ∧ Below W.heap.size W w') := fun W h => Spot11_any t p cap path W ((hin.below h).mono h.size) ((hp.below h).mono h.size) hpl
  have HRS : Hid (∀ W, Below w.heap.size w W → Calls Try.prog 31 #[t.v, .slice p path.length cap] W fun e w' => e = .returned (.tuple #[.agg (spC3 (fnM t path).1), .int .i64 (fnM t path).2.2]) ∧ Below W.heap.size W w') := fun W h => RSpot_any t p cap path W ((hin.below h).mono h.size) hle ((hp.below h).mono h.size) hpl hcap
  have HT0 := veil (And.intro (TyB.new w t) ((Below.refl _ w).alloc (Nat.le_refl _) (.cells t.cs 25)))
  clear hin hp hle
  generalize fnM t path = FN at *
  obtain ⟨⟨a, b, c⟩, z, er⟩ := FN
  unfold ShT.v ShT.cs spC3 at *
  simp only at *
  go_enter Try.func10, Try.ntmps10
  go_upto_region 1 with fail
  generalize (w.alloc (.cells #[.int .i64 t.sh, .int .i64 t.k, .int .i64 t.n, .slice t.op t.of.length t.oc, .slice t.fp t.fs.length t.fc, .bool t.pk, .int .i64 t.al] 25)) = W0 at HT0 ⊢
  go_upto_region 2 with (go_at_call 29; refine (unveil HSH _).mono ?_; rintro e W1 ⟨rfl, hb1⟩; have HT1 := veil (And.intro ((unveil HT0).1.below hb1) ((unveil HT0).2.trans (hb1.mono (unveil HT0).2.size))); clear hb1)
  obtain ⟨y0, y1, y2, y3, y4, y5, y6⟩ := (unveil HT1).1.seven
  go_upto_region 3 with (go_at_call 30; refine (unveil HSP _ (unveil HT1).2).mono ?_; rintro e W2 ⟨rfl, hb2⟩; have HS2 : Hid (IlS w (W2.alloc (.cells #[.int .i64 a, .int .i64 b, .int .i64 c] 42)) t a b c W2.heap.size) := ⟨((unveil HT1).1.below hb2).alloc _, Bk.new _ _ _, ((unveil HT1).2.trans (hb2.mono (unveil HT1).2.size)).alloc (Nat.le_trans (unveil HT1).2.size hb2.size) _⟩; clear hb2)
  clear y0 y1 y2 y3 y4 y5 y6
  generalize (W2.alloc (.cells #[.int .i64 a, .int .i64 b, .int .i64 c] 42)) = W3 at *
  generalize W2.heap.size = SB at *
  obtain ⟨y0, y1, y2, y3, y4, y5, y6⟩ := (unveil HS2).t.seven
  go_upto_region 4 with (go_at_call 31; refine (unveil HRS _ (unveil HS2).be).mono ?_; rintro e W4 ⟨rfl, hb4⟩; have hs4 := (unveil HS2).below hb4; have HS4 := veil (And.intro (hs4.below ((Below.refl _ W4).alloc (Nat.le_refl _) (.cells #[.int .i64 a, .int .i64 b, .int .i64 c] 42))) (Bk.new W4 42 #[.int .i64 a, .int .i64 b, .int .i64 c])); clear hb4 hs4)
  clear y0 y1 y2 y3 y4 y5 y6
  generalize (W4.alloc (.cells #[.int .i64 a, .int .i64 b, .int .i64 c] 42)) = W5 at *
  generalize W4.heap.size = SC at *
  have a0 := (unveil HS4).1.s.cell 0
  have a1 := (unveil HS4).1.s.cell 1
  have a2 := (unveil HS4).1.s.cell 2
  have al := (unveil HS4).1.s.lt
  have e0 := (unveil HS4).2.cell 0
  have e1 := (unveil HS4).2.cell 1
  have e2 := (unveil HS4).2.cell 2
  have el := (unveil HS4).2.lt
  simp only [List.getElem?_toArray, List.getElem?_cons_zero, List.getElem?_cons_succ] at a0 a1 a2 e0 e1 e2
  have heq := fun W => spot_eql a b c a b c W
  rw [show decide (a = a ∧ b = b ∧ c = c) = true from by simp] at heq
  go_wp2_with fail
  go_ret
  exact ⟨rfl, (unveil HS4).1.be⟩
end Go.Proofs.Ytkiebejidpebdaa
