/-
  burinlaw10.ShapeSizes, ShapeMembers: their walks.
-/
import Derived.Test.YtgomlfaekfabpaaJn
namespace Go.Proofs.Ytgomlfaekfabpaa
open Go Go.RowKit Go.Shelf
set_option linter.unusedVariables false
set_option linter.unusedSimpArgs false

theorem mem_len (t : ShT) : (memL t).1.length ≤ 1000000 := by
  unfold memL
  split
  · rename_i hc
    split
    · rename_i hs
      have hsh : t.sh = 4 ∨ t.sh = 5 := by simpa using hs
      obtain ⟨hf, hp⟩ := rig_form (chk_ok hc)
      have hfs := (form_struct hf (by simp; omega) (by simp; omega) (by simp; omega)).2.2.2.2.2
      have f1 := (ffs_all hfs).1
      have hll : (t.ml (meaM 5)).length = t.fs.length := ml_len _ _ _ _ _
      simp only [List.length_map]
      omega
    · simp
  · simp
set_option maxRecDepth 100000 in
set_option maxHeartbeats 20000000 in
theorem sizes_walk (t : ShT) (w : World) (hin : t.In w.heap.size w) (hle : t.Len) :
    Calls Try.prog 3 #[t.v] w fun e w' => e = .returned (.bool true) ∧ Below w.heap.size w w' := by
  have HSH := veil shown_any
  have HZ : Hid (∀ W, TyB W w.heap.size t → Below w.heap.size w W → Calls Try.prog 18 #[t.v] W fun r w' => r = .returned (.tuple #[.int .i64 (chkM t).1.1, .int .i64 (chkM t).1.2, .int .i64 (chkM t).2]) ∧ Below W.heap.size W w') := fun W _ h => Size10_any t W ((hin.below h).mono h.size)
  have HR : Hid (∀ W, TyB W w.heap.size t → Below w.heap.size w W → Calls Try.prog 20 #[t.v] W fun r w' => r = .returned (.int .i64 (chkM t).2) ∧ Below W.heap.size W w') := fun W _ h => Right_any t W ((hin.below h).mono h.size)
  have HO : Hid (∀ W, TyB W w.heap.size t → Below w.heap.size w W → Calls Try.prog 19 #[t.v] W (OfP W (chkM t).1.1 (chkM t).1.2 (chkM t).2 (ofL t))) := fun W _ h => Of_any t W ((hin.below h).mono h.size) hle
  have HT0 := veil (And.intro (TyB.new w t) ((Below.refl _ w).alloc (Nat.le_refl _) (.cells t.cs 25)))
  clear hin hle
  generalize ofL t = OL at *
  generalize chkM t = C at *
  obtain ⟨⟨z, a⟩, er⟩ := C
  simp only at *
  unfold ShT.v ShT.cs at *
  go_enter Try.func3, Try.ntmps3
  go_upto_region 1 with fail
  generalize (w.alloc (.cells #[.int .i64 t.sh, .int .i64 t.k, .int .i64 t.n, .slice t.op t.of.length t.oc, .slice t.fp t.fs.length t.fc, .bool t.pk, .int .i64 t.al] 25)) = W0 at HT0 ⊢
  go_upto_region 2 with (go_at_call 17; refine (unveil HSH _).mono ?_; rintro e W1 ⟨rfl, hb1⟩; have HT1 := veil (And.intro ((unveil HT0).1.below hb1) ((unveil HT0).2.trans (hb1.mono (unveil HT0).2.size))); clear hb1)
  obtain ⟨y0, y1, y2, y3, y4, y5, y6⟩ := (unveil HT1).1.seven
  go_upto_region 3 with (go_at_call 18; refine (unveil HZ _ (unveil HT1).1 (unveil HT1).2).mono ?_; rintro e W2 ⟨rfl, hb2⟩; have HT2 := veil (And.intro ((unveil HT1).1.below hb2) ((unveil HT1).2.trans (hb2.mono (unveil HT1).2.size))); clear hb2)
  clear y0 y1 y2 y3 y4 y5 y6
  obtain ⟨y0, y1, y2, y3, y4, y5, y6⟩ := (unveil HT2).1.seven
  go_upto_region 4 with (go_at_call 19; refine (unveil HO _ (unveil HT2).1 (unveil HT2).2).mono ?_; rintro e W3 ⟨q, n, c, he, hb3, hrow⟩; unfold bxC at he; subst he; have HT3 := veil (And.intro (((unveil HT2).1.below hb3).alloc (.cells #[.int .i64 z, .int .i64 a, .bool false, .slice q n c] 32)) (((unveil HT2).2.trans (hb3.mono (unveil HT2).2.size)).alloc ((unveil HT2).2.trans (hb3.mono (unveil HT2).2.size)).size (.cells #[.int .i64 z, .int .i64 a, .bool false, .slice q n c] 32))); have HK3 := veil (Bk.new W3 32 #[.int .i64 z, .int .i64 a, .bool false, .slice q n c]); clear hb3 hrow)
  clear y0 y1 y2 y3 y4 y5 y6
  generalize (W3.alloc (.cells #[.int .i64 z, .int .i64 a, .bool false, .slice q n c] 32)) = W4 at HT3 HK3 ⊢
  generalize W3.heap.size = Bb at HK3 ⊢
  obtain ⟨y0, y1, y2, y3, y4, y5, y6⟩ := (unveil HT3).1.seven
  go_wp2_with (go_at_call 20; refine (unveil HR _ (unveil HT3).1 (unveil HT3).2).mono ?_; rintro e W5 ⟨rfl, hb5⟩; have HB5 := veil ((unveil HT3).2.trans (hb5.mono (unveil HT3).2.size)); have b0 := ((unveil HK3).below hb5).cell 0; have b1 := ((unveil HK3).below hb5).cell 1; simp only [List.getElem?_toArray, List.getElem?_cons_succ, List.getElem?_cons_zero] at b0 b1; clear hb5)
  go_ret
  exact ⟨by simp, unveil HB5⟩
set_option maxRecDepth 100000 in
set_option maxHeartbeats 20000000 in
theorem members_walk (t : ShT) (w : World) (hin : t.In w.heap.size w) (hle : t.Len) :
    Calls Try.prog 4 #[t.v] w fun e w' => e = .returned (.bool true) ∧ Below w.heap.size w w' := by
  have HSH := veil shown_any
  have HZ : Hid (∀ W, TyB W w.heap.size t → Below w.heap.size w W → Calls Try.prog 21 #[t.v] W fun e w' => MbP W (memL t).1 (memL t).2 e w') := fun W _ h => Members_any t W ((hin.below h).mono h.size)
  have HR : Hid (∀ W, TyB W w.heap.size t → Below w.heap.size w W → Calls Try.prog 22 #[t.v] W fun e w' => MbP W (memL t).1 (memL t).2 e w') := fun W _ h => RMembers_any t W ((hin.below h).mono h.size) hle
  have HLE := veil (mem_len t)
  have HT0 := veil (And.intro (TyB.new w t) ((Below.refl _ w).alloc (Nat.le_refl _) (.cells t.cs 25)))
  clear hin hle
  generalize memL t = C at *
  obtain ⟨ML, er⟩ := C
  simp only at *
  unfold ShT.v ShT.cs at *
  go_enter Try.func4, Try.ntmps4
  go_upto_region 1 with fail
  generalize (w.alloc (.cells #[.int .i64 t.sh, .int .i64 t.k, .int .i64 t.n, .slice t.op t.of.length t.oc, .slice t.fp t.fs.length t.fc, .bool t.pk, .int .i64 t.al] 25)) = W0 at HT0 ⊢
  go_upto_region 2 with (go_at_call 17; refine (unveil HSH _).mono ?_; rintro e W1 ⟨rfl, hb1⟩; have HT1 := veil (And.intro ((unveil HT0).1.below hb1) ((unveil HT0).2.trans (hb1.mono (unveil HT0).2.size))); clear hb1)
  obtain ⟨y0, y1, y2, y3, y4, y5, y6⟩ := (unveil HT1).1.seven
  go_upto_region 3 with (go_at_call 21; refine (unveil HZ _ (unveil HT1).1 (unveil HT1).2).mono ?_; rintro e W2 ⟨v2, rfl, hr2, hb2⟩; have HT2 := veil (And.intro ((unveil HT1).1.below hb2) ((unveil HT1).2.trans (hb2.mono (unveil HT1).2.size))); obtain ⟨q2, c2, rfl⟩ := row_slice hr2; have HR2 := veil hr2; clear hb2 hr2)
  clear y0 y1 y2 y3 y4 y5 y6
  obtain ⟨y0, y1, y2, y3, y4, y5, y6⟩ := (unveil HT2).1.seven
  go_upto_region 4 with (go_at_call 22; refine (unveil HR _ (unveil HT2).1 (unveil HT2).2).mono ?_; rintro e W3 ⟨v3, rfl, hr3, hb3⟩; have HB3 := veil ((unveil HT2).2.trans (hb3.mono (unveil HT2).2.size)); obtain ⟨q3, c3, rfl⟩ := row_slice hr3; have HSS := veil (spots_eq _ _ ML _ _ W3 (unveil HLE) (ownsRow_belowS (unveil HR2) hb3) hr3); clear hb3 hr3)
  clear y0 y1 y2 y3 y4 y5 y6
  go_wp2_with (go_at_call 23; refine (unveil HSS).mono ?_; rintro e W5 ⟨rfl, hb5⟩; have HB5 := veil ((unveil HB3).trans (hb5.mono (unveil HB3).size)); clear hb5)
  go_ret
  exact ⟨by simp, unveil HB5⟩
end Go.Proofs.Ytgomlfaekfabpaa
