/-
  burinref11.Get, Put; burinlaw11.ImageGets walked.
-/
import Derived.Test.YtkiebejidpebdaaTz
import Derived.Test.YtkiebejidpebdaaSc
import Derived.Test.YtkiebejidpebdaaZ10
import Derived.Lib.SmallJoins
namespace Go.Proofs.Ytkiebejidpebdaa
open Go Go.RowKit Go.Shelf
set_option linter.unusedVariables false
set_option linter.unusedSimpArgs false

theorem conv_in (W : World) (T : ByteArray) : (convert 9 62 (.string T)).run Try.prog W = .ok (.slice (some ⟨W.heap.size, 0, none⟩) T.size (grownCap W T.size 0 5)) (Lib.bytesWorld W 5 T) :=
  Lib.run_convert_string_bytes W 9 62 5 T Try.underlying9 Try.underlying62 Try.underlying5
/-- The boxes of Get and Put: the type's, the spot's. -/
structure GpS (w W : World) (t : ShT) (a b c : Int) (SB : Nat) : Prop where
  t : TyB W w.heap.size t
  s : Bk W SB 42 #[.int .i64 a, .int .i64 b, .int .i64 c]
  be : Below w.heap.size w W
theorem GpS.below {w W W' : World} {t : ShT} {a b c : Int} {SB : Nat} (h : GpS w W t a b c SB) (hb : Below W.heap.size W W') : GpS w W' t a b c SB := ⟨h.t.below hb, h.s.below hb, h.be.trans (hb.mono h.be.size)⟩
/-- Where the spot is found, all fits. -/
theorem gp_fit {t : ShT} {T : ByteArray} {path : List Int} (he : ((fnM t path).2.2 == 0) = true) (hn : (T.size : Int) = (chkM t).1.1) :
    ((fiM t T.size path).2 == 0) = true ∧ (fiM t T.size path).2 = 0 ∧ ∃ (b k : Nat), (fnM t path).1 = ((b : Int), (k : Int), (spP t path).2.2) ∧ (spP t path).1.toNat = b ∧ (spP t path).2.1.toNat = k ∧ 0 < k ∧ k ≤ 64 ∧ b + k ≤ 8 * T.size ∧ T.size ≤ 65536 := by
  obtain ⟨hc, ho, h1, h2⟩ := fn_ok he
  have hfi := fi_of hc ho hn
  obtain ⟨_, _, _, _, hs, b, k, hb, hk, h3, h4, h5⟩ := fi_ok (n := T.size) (path := path) (t := t) (by rw [hfi]; rfl)
  refine ⟨by rw [hfi]; rfl, by rw [hfi], b, k, ?_, by rw [hb]; rfl, by rw [hk]; rfl, h3, h4, h5, hs⟩
  rw [h1, ← hb, ← hk]
theorem gp_no {t : ShT} {T : ByteArray} {path : List Int} (he : ((fnM t path).2.2 == 0) = false) : ((fiM t T.size path).2 == 0) = false ∧ (fiM t T.size path).2 = (fnM t path).2.2 := by
  unfold fiM
  rw [he]
  simp only [Bool.false_and, Bool.false_eq_true, if_false]
  exact ⟨he, by first | rfl | trivial⟩
theorem gp_arg {t : ShT} {T : ByteArray} {path : List Int} (he : ((fnM t path).2.2 == 0) = true) (hn : ¬ (T.size : Int) = (chkM t).1.1) : ((fiM t T.size path).2 == 0) = false ∧ (fiM t T.size path).2 = 2 := by
  obtain ⟨hc, ho, h1, h2⟩ := fn_ok he
  unfold fiM
  have : ((T.size : Int) != (fnM t path).2.1) = true := by rw [h2]; simpa using hn
  rw [he, this]
  exact ⟨rfl, rfl⟩
set_option maxRecDepth 100000 in
set_option maxHeartbeats 20000000 in
theorem RGet_any (t : ShT) (T : ByteArray) (p : Option Addr) (cap : Nat) (path : List Int) (w : World) (hin : t.In w.heap.size w) (hle : t.Len) (hp : PaG w.heap.size w p path) (hpl : path.length ≤ maxLen) (hcap : path.length ≤ cap) :
    Calls Try.prog 35 #[t.v, .string T, .slice p path.length cap] w fun e w' => e = .returned (.tuple #[.int .i64 (gtM t T path).1, .int .i64 (gtM t T path).2]) ∧ Below w.heap.size w w' := by
  have HRS : Hid (∀ W, Below w.heap.size w W → Calls Try.prog 31 #[t.v, .slice p path.length cap] W fun e w' => e = .returned (.tuple #[.agg (spC3 (fnM t path).1), .int .i64 (fnM t path).2.2]) ∧ Below W.heap.size W w') := fun W h => RSpot_any t p cap path W ((hin.below h).mono h.size) hle ((hp.below h).mono h.size) hpl hcap
  have HOF : Hid (∀ W, Below w.heap.size w W → Calls Try.prog 19 #[t.v] W (OfP W (chkM t).1.1 (chkM t).1.2 (chkM t).2 (ofL t))) := fun W h => Of_any t W ((hin.below h).mono h.size) hle
  have HT0 := veil (And.intro (TyB.new w t) ((Below.refl _ w).alloc (Nat.le_refl _) (.cells t.cs 25)))
  have HNO : Hid (((fnM t path).2.2 == 0) = false → gtM t T path = (0, (fnM t path).2.2)) := fun h => by
    obtain ⟨h1, h2⟩ := gp_no (T := T) h
    unfold gtM
    rw [h1, h2]
    rfl
  have HAR : Hid (((fnM t path).2.2 == 0) = true → ¬ (T.size : Int) = (chkM t).1.1 → gtM t T path = (0, 2)) := fun h hn => by
    obtain ⟨h1, h2⟩ := gp_arg h hn
    unfold gtM
    rw [h1, h2]
    rfl
  have HYE : Hid (((fnM t path).2.2 == 0) = true → (T.size : Int) = (chkM t).1.1 → ∃ (b k : Nat) (c : Int), (fnM t path).1 = ((b : Int), (k : Int), c) ∧ 1 ≤ k ∧ k ≤ 64 ∧ b + k ≤ 8 * T.size ∧ T.size ≤ 65536 ∧ gtM t T path = (rdM T b k c, 0)) := fun h hn => by
    obtain ⟨h1, _, b, k, h2, h3, h4, h5, h6, h7, h8⟩ := gp_fit h hn
    refine ⟨b, k, _, h2, h5, h6, h7, h8, ?_⟩
    unfold gtM
    rw [if_pos h1, h3, h4]
  clear hin hp hle
  generalize gtM t T path = GT at *
  generalize fnM t path = FN at *
  generalize ofL t = OL at *
  generalize (chkM t).1.1 = Z at *
  generalize (chkM t).1.2 = A at *
  generalize (chkM t).2 = ER at *
  obtain ⟨⟨a, b, c⟩, z, er⟩ := FN
  unfold ShT.v ShT.cs spC3 at *
  unfold OfP bxC at HOF
  simp only at *
  go_enter Try.func35, Try.ntmps35
  go_upto_region 1 with fail
  generalize (w.alloc (.cells #[.int .i64 t.sh, .int .i64 t.k, .int .i64 t.n, .slice t.op t.of.length t.oc, .slice t.fp t.fs.length t.fc, .bool t.pk, .int .i64 t.al] 25)) = W0 at HT0 ⊢
  obtain ⟨y0, y1, y2, y3, y4, y5, y6⟩ := (unveil HT0).1.seven
  go_upto_region 2 with (go_at_call 31; refine (unveil HRS _ (unveil HT0).2).mono ?_; rintro e W2 ⟨rfl, hb2⟩; have HS2 : Hid (GpS w (W2.alloc (.cells #[.int .i64 a, .int .i64 b, .int .i64 c] 42)) t a b c W2.heap.size) := ⟨((unveil HT0).1.below hb2).alloc _, Bk.new _ _ _, ((unveil HT0).2.trans (hb2.mono (unveil HT0).2.size)).alloc (Nat.le_trans (unveil HT0).2.size hb2.size) _⟩; clear hb2)
  clear y0 y1 y2 y3 y4 y5 y6
  generalize (W2.alloc (.cells #[.int .i64 a, .int .i64 b, .int .i64 c] 42)) = W3 at *
  generalize W2.heap.size = SB at *
  cases h1 : er == 0
  · have h1' : (er != 0) = true := by simp only [bne, h1]; rfl
    have HG := veil (unveil HNO h1)
    clear HNO HAR HYE
    go_wp2_with fail
    refine bodyPost_ret (results_tmp2 rfl _ _ _) rfl ?_
    exact ⟨by rw [unveil HG]; rfl, (unveil HS2).be⟩
  · have h1' : (er != 0) = false := by simp only [bne, h1]; rfl
    obtain ⟨y0, y1, y2, y3, y4, y5, y6⟩ := (unveil HS2).t.seven
    go_upto_region 5 with (go_at_call 19; refine (unveil HOF _ (unveil HS2).be).mono ?_; rintro e W4 ⟨q4, n4, c4, rfl, hb4, _⟩; have hs4 := (unveil HS2).below hb4; have HS5 := veil (And.intro (hs4.below ((Below.refl _ W4).alloc (Nat.le_refl _) (.cells #[.int .i64 Z, .int .i64 A, .bool false, .slice q4 n4 c4] 32))) (Bk.new W4 32 #[.int .i64 Z, .int .i64 A, .bool false, .slice q4 n4 c4])); clear hb4 hs4)
    clear y0 y1 y2 y3 y4 y5 y6
    generalize (W4.alloc (.cells #[.int .i64 Z, .int .i64 A, .bool false, .slice q4 n4 c4] 32)) = W5 at *
    generalize W4.heap.size = BB at *
    have b0 : W5.cell? ⟨BB, 0, none⟩ = some (.int .i64 Z) := (unveil HS5).2.cell 0
    have bl := (unveil HS5).2.lt
    by_cases hn : (T.size : Int) = Z
    · obtain ⟨bb, kk, cc, he, hk0, hk1, hfit, hT, hgt⟩ := unveil HYE h1 hn
      obtain ⟨rfl, rfl, rfl⟩ : a = (bb : Int) ∧ b = (kk : Int) ∧ c = cc := by simpa using he
      have HG := veil hgt
      clear HNO HAR HYE he hgt
      have hn' : ((T.size : Int) != Z) = false := by simpa using hn
      have hcv := conv_in W5 T
      have hbw := Go.Joins.below_bytesWorld W5.heap.size W5 5 T (Nat.le_refl _)
      have HS6 := veil ((unveil HS5).1.below hbw)
      have HBY := veil (ByB.new W5 5 T)
      generalize (Lib.bytesWorld W5 5 T) = W6 at *
      generalize grownCap W5 T.size 0 5 = CP at *
      have e0 := (unveil HS6).s.cell 0
      have e1 := (unveil HS6).s.cell 1
      have e2 := (unveil HS6).s.cell 2
      have el := (unveil HS6).s.lt
      simp only [List.getElem?_toArray, List.getElem?_cons_zero, List.getElem?_cons_succ] at e0 e1 e2
      have HRD : Hid (Calls Try.prog 62 #[.slice (some ⟨W5.heap.size, 0, none⟩) T.size CP, .agg #[.int .i64 bb, .int .i64 kk, .int .i64 c]] W6 fun e w' => e = .returned (.int .i64 (rdM T bb kk c)) ∧ Below W6.heap.size W6 w') := rread_any T W5.heap.size CP bb kk c W6 (unveil HBY).lt (fun i hi => (unveil HBY).cell (by rw [ofB_len]; exact hi)) hT hk0 hk1 hfit
      clear hbw
      go_wp2_with (go_at_call 62; refine (unveil HRD).mono ?_; rintro e W7 ⟨rfl, hb7⟩; have HB7 := veil ((unveil HS6).be.trans (hb7.mono (unveil HS6).be.size)); clear hb7)
      refine bodyPost_ret (results_tmp2 rfl _ _ _) rfl ?_
      exact ⟨by rw [unveil HG]; rfl, unveil HB7⟩
    · have HG := veil (unveil HAR h1 hn)
      clear HNO HAR HYE
      have hn' : ((T.size : Int) != Z) = true := by simpa using hn
      go_wp2_with fail
      refine bodyPost_ret (results_tmp2 rfl _ _ _) rfl ?_
      exact ⟨by rw [unveil HG]; rfl, (unveil HS5).1.be⟩
end Go.Proofs.Ytkiebejidpebdaa
