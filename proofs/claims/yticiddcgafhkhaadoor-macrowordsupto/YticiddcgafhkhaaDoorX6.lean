/-
  burinlaw03.MacroWords answers true for every two macros: the walk.
-/
import Derived.Test.YticiddcgafhkhaaDoorX5
import Derived.Test.YticiddcgafhkhaaDoorMx
import Derived.Test.YticiddcgafhkhaaDoorV8
namespace Go.Proofs.YticiddcgafhkhaaDoor
open Go Go.RowKit
set_option linter.unusedVariables false
set_option linter.unusedSimpArgs false

def shT (R : Bool) (V : List UInt8) : Value := if R then .tuple #[.string ⟨V.toArray⟩, .int .i64 0] else .tuple #[.string ⟨#[]⟩, .int .i64 2]
theorem shT_parts (R : Bool) (V : List UInt8) : ∃ (s : ByteArray) (e : Int), shT R V = .tuple #[.string s, .int .i64 e] := by
  cases R
  · exact ⟨_, _, rfl⟩
  · exact ⟨_, _, rfl⟩

set_option maxRecDepth 100000 in
set_option maxHeartbeats 8000000 in
theorem words_walk (x y : Value) (a b : Mc) (w : World) (ha : McFits a) (hb : McFits b) (hx : McV w.heap.size w x a) (hy : McV w.heap.size w y b) (hw0 : 1 < w.heap.size) (hsg : Sg w)
    (hz : a.name.length + (Lib.join (listedS a.more a.ps) [44, 32]).length + (spG a.body).length + 10 ≤ 140737488355328) (hpl : a.ps.length * 16 ≤ 100000000000000) :
    Calls Tryd.prog 3 #[x, y] w fun e w' => e = .returned (.bool true) ∧ Below w.heap.size w w' := by
  have hmix : Tryd.prog.follows .mixedOrders = true := by kernel_rfl
  have HSH := hide (fun W (hB : Below w.heap.size w W) => shown_any W (Nat.lt_of_lt_of_le hw0 hB.size) (Sg.below hsg hB hw0))
  have HS1 := hide (fun W (hB : Below w.heap.size w W) => Show_any x a W ha (hx.below hB) (Nat.lt_of_lt_of_le hw0 hB.size) (Sg.below hsg hB hw0) hz hpl)
  have HS2 := hide (fun W (hB : Below w.heap.size w W) => rShow_any x a W ha (hx.below hB) hz)
  have HR1 := hide (fun W (hB : Below w.heap.size w W) => Right_any x a W ha (hx.below hB) (Nat.lt_of_lt_of_le hw0 hB.size) (Sg.below hsg hB hw0))
  have HR2 := hide (fun W (hB : Below w.heap.size w W) => rRight_any x a W ha (hx.below hB))
  have HE1 := hide (fun W (hB : Below w.heap.size w W) => SameM_any x y a b W ha hb (hx.below hB) (hy.below hB) (Nat.lt_of_lt_of_le hw0 hB.size) (Sg.below hsg hB hw0))
  have HE2 := hide (fun W (hB : Below w.heap.size w W) => rSame_any x y a b W ha hb (hx.below hB) (hy.below hB))
  have q1 : ∀ R V, (if R = true then Value.tuple #[.string ⟨(V : List UInt8).toArray⟩, .int .i64 0] else .tuple #[.string ⟨#[]⟩, .int .i64 2]) = shT R V := fun _ _ => rfl
  simp only [right_same, q1] at HS2 HR2 HE2 HS1
  obtain ⟨s, e0, hse⟩ := shT_parts (rightM a) (showM a)
  simp only [hse] at HS1 HS2
  clear q1 hse
  generalize (rightM a && (rightM b && decide (a = b))) = E at *
  generalize rightM a = R at *
  obtain ⟨pv, bv, rfl, _⟩ := hx
  obtain ⟨pu, bu, rfl, _⟩ := hy
  obtain ⟨na, fa, psa, ma, ba⟩ := a
  obtain ⟨nb, fb, psb, mb, bb⟩ := b
  simp only at HS1 HS2 HR1 HR2 HE1 HE2 ⊢
  clear ha hb hz hpl
  generalize (⟨na.toArray⟩ : ByteArray) = Na at *
  generalize (⟨nb.toArray⟩ : ByteArray) = Nb at *
  have hbw : Below w.heap.size w ((w.alloc (.cells #[.string Na, .bool fa, pv, .bool ma, bv] 25)).alloc (.cells #[.string Nb, .bool fb, pu, .bool mb, bu] 25)) := ((Below.refl _ w).alloc (Nat.le_refl _) _).alloc (by simp) _
  have hz1 : (w.alloc (.cells #[.string Na, .bool fa, pv, .bool ma, bv] 25)).heap.size = w.heap.size + 1 := by simp
  have hz2 : ((w.alloc (.cells #[.string Na, .bool fa, pv, .bool ma, bv] 25)).alloc (.cells #[.string Nb, .bool fb, pu, .bool mb, bu] 25)).heap.size = w.heap.size + 2 := by simp
  have hfa : FiveAt ((w.alloc (.cells #[.string Na, .bool fa, pv, .bool ma, bv] 25)).alloc (.cells #[.string Nb, .bool fb, pu, .bool mb, bu] 25)) w.heap.size (.string Na) pv bv fa ma :=
    (five_new w _ pv bv fa ma).below ((Below.refl (w.heap.size + 1) _).alloc (by omega) _) (by omega)
  have hfb : FiveAt ((w.alloc (.cells #[.string Na, .bool fa, pv, .bool ma, bv] 25)).alloc (.cells #[.string Nb, .bool fb, pu, .bool mb, bu] 25)) (w.heap.size + 1) (.string Nb) pu bu fb mb := by
    rw [← hz1]; exact five_new _ _ pu bu fb mb
  have HFA := hide hfa
  have HFB := hide hfb
  have HBW := hide hbw
  have H0 := hide (unhide HSH _ hbw)
  clear hfa hfb hbw HSH hsg
  go_enter Tryd.func3, Tryd.ntmps3
  go_wp2_with fail
  refine (unhide H0).mono ?_
  rintro e W1 ⟨rfl, hb1⟩
  have hs1 := hb1.size
  rw [hz2] at hb1 hs1
  have HB1 : Hid (Below w.heap.size w W1) := (unhide HBW).trans (hb1.mono (by omega))
  have HFA1 := hide ((unhide HFA).below hb1 (by omega))
  have HFB1 := hide ((unhide HFB).below hb1 (by omega))
  obtain ⟨c0, c1, c2, c3, c4⟩ := unhide HFA1
  have H1 := hide (unhide HS1 W1 (unhide HB1))
  clear H0 HFA HFB HS1 hz1 hz2 HBW hb1
  go_wp2_with fail
  refine (unhide H1).mono ?_
  rintro e W2 ⟨rfl, hb2⟩
  have hs2 := hb2.size
  have HB2 : Hid (Below w.heap.size w W2) := (unhide HB1).trans (hb2.mono (by omega))
  have HFA2 := hide ((unhide HFA1).below hb2 (by omega))
  have HFB2 := hide ((unhide HFB1).below hb2 (by omega))
  clear c0 c1 c2 c3 c4 H1 HFA1 HFB1 HB1 hb2
  obtain ⟨c0, c1, c2, c3, c4⟩ := unhide HFA2
  have H2 := hide (unhide HS2 W2 (unhide HB2))
  go_wp2_with fail
  refine (unhide H2).mono ?_
  rintro e W3 ⟨rfl, hb3⟩
  have hs3 := hb3.size
  have HB3 : Hid (Below w.heap.size w W3) := (unhide HB2).trans (hb3.mono (by omega))
  have HFA3 := hide ((unhide HFA2).below hb3 (by omega))
  have HFB3 := hide ((unhide HFB2).below hb3 (by omega))
  clear c0 c1 c2 c3 c4 H2 HFA2 HFB2 HB2 hb3 HS2
  go_upto_region 4 with fail
  refine wp_region_noPanic (wpIn_wide.1 (wpIn_region_mix (ro := none) (n := 0) (fun w' => FiveAt w' w.heap.size (.string Na) pv bv fa ma ∧ FiveAt w' (w.heap.size + 1) (.string Nb) pu bu fb mb ∧ Hid (Below w.heap.size w w') ∧ w.heap.size + 2 ≤ w'.heap.size)
    [(0, true), (1, true), (2, true), (4, true), (3, false), (5, false), (6, true), (7, true), (8, true), (9, true), (10, true), (12, true), (13, true), (11, false), (14, false), (15, true), (16, true), (17, true), (18, true), (19, true), (20, true), (21, true), (22, true), (23, true), (24, true), (25, true), (26, true)]
    27 hmix (by kernel_rfl) (by kernel_rfl) (by kernel_rfl) (by kernel_rfl) (by kernel_rfl) (by kernel_rfl) (fun _ _ _ _ h => h) ⟨unhide HFA3, unhide HFB3, below_drewK (unhide HB3) 1, by show _ ≤ W3.heap.size; omega⟩ ?_))
  iterate 4 (refine mix_pure _ rfl _ (.inl ⟨rfl, fun W hS => (by obtain ⟨⟨f0, f1, f2, f3, f4⟩, ⟨g0, g1, g2, g3, g4⟩, _, _⟩ := hS; go_simp; rfl)⟩) (fun B hB => ?_); simp only [Act.put, List.setIfInBounds_toArray, List.set_cons_zero, List.set_cons_succ] at hB; subst hB)
  have HBd : Hid (Below w.heap.size w W3.drew) := below_drewK (unhide HB3) 1
  have HAd : Hid (FiveAt W3.drew w.heap.size (.string Na) pv bv fa ma) := unhide HFA3
  have HFd : Hid (FiveAt W3.drew (w.heap.size + 1) (.string Nb) pu bu fb mb) := unhide HFB3
  clear HB3 HFA3 HFB3
  refine mix_sole _ rfl (fun K hK => ?_)
  go_simp
  refine ⟨trivial, rfl, (callsIn_wide.2 (unhide HR1 _ (unhide HBd))).mono ?_⟩
  rintro e W4 ⟨rfl, hb4⟩
  have hs4 := hb4.size
  have HA4 : Hid (FiveAt W4 w.heap.size (.string Na) pv bv fa ma) := (unhide HAd).below hb4 (by first | (show _ < W3.heap.size; omega) | omega)
  have HF4 : Hid (FiveAt W4 (w.heap.size + 1) (.string Nb) pu bu fb mb) := (unhide HFd).below hb4 (by first | (show _ < W3.heap.size; omega) | omega)
  have HB4 : Hid (Below w.heap.size w W4) := (unhide HBd).trans (hb4.mono (by first | (show _ ≤ W3.heap.size; omega) | omega))
  have hz4 : w.heap.size + 2 ≤ W4.heap.size := by first | (have : W3.heap.size ≤ W4.heap.size := hs4; omega) | omega
  refine hK _ _ ⟨unhide HA4, unhide HF4, HB4, hz4⟩ ?_
  clear hK K hb4 hs4
  refine mix_sole _ rfl (fun K hK => ?_)
  go_simp
  refine ⟨trivial, rfl, (callsIn_wide.2 (unhide HR2 _ (unhide HB4))).mono ?_⟩
  rintro e W5 ⟨rfl, hb4⟩
  have hs4 := hb4.size
  have HA5 : Hid (FiveAt W5 w.heap.size (.string Na) pv bv fa ma) := (unhide HA4).below hb4 (by first | (show _ < W3.heap.size; omega) | omega)
  have HF5 : Hid (FiveAt W5 (w.heap.size + 1) (.string Nb) pu bu fb mb) := (unhide HF4).below hb4 (by first | (show _ < W3.heap.size; omega) | omega)
  have HB5 : Hid (Below w.heap.size w W5) := (unhide HB4).trans (hb4.mono (by first | (show _ ≤ W3.heap.size; omega) | omega))
  have hz5 : w.heap.size + 2 ≤ W5.heap.size := by first | (have : W3.heap.size ≤ W5.heap.size := hs4; omega) | omega
  refine hK _ _ ⟨unhide HA5, unhide HF5, HB5, hz5⟩ ?_
  clear hK K hb4 hs4
  clear HB4 HA4 HF4 HBd HAd HFd HR1 HR2
  iterate 7 (refine mix_pure _ rfl _ (.inl ⟨rfl, fun W hS => (by obtain ⟨⟨f0, f1, f2, f3, f4⟩, ⟨g0, g1, g2, g3, g4⟩, _, _⟩ := hS; go_simp; rfl)⟩) (fun B hB => ?_); simp only [Act.put, List.setIfInBounds_toArray, List.set_cons_zero, List.set_cons_succ] at hB; subst hB)
  refine mix_sole _ rfl (fun K hK => ?_)
  go_simp
  refine ⟨trivial, rfl, (callsIn_wide.2 (unhide HE1 _ (unhide HB5))).mono ?_⟩
  rintro e W6 ⟨rfl, hb4⟩
  have hs4 := hb4.size
  have HA6 : Hid (FiveAt W6 w.heap.size (.string Na) pv bv fa ma) := (unhide HA5).below hb4 (by omega)
  have HF6 : Hid (FiveAt W6 (w.heap.size + 1) (.string Nb) pu bu fb mb) := (unhide HF5).below hb4 (by omega)
  have HB6 : Hid (Below w.heap.size w W6) := (unhide HB5).trans (hb4.mono (by omega))
  have hz6 : w.heap.size + 2 ≤ W6.heap.size := by omega
  refine hK _ _ ⟨unhide HA6, unhide HF6, HB6, hz6⟩ ?_
  clear hK K hb4 hs4
  refine mix_sole _ rfl (fun K hK => ?_)
  go_simp
  refine ⟨trivial, rfl, (callsIn_wide.2 (unhide HE2 _ (unhide HB6))).mono ?_⟩
  rintro e W7 ⟨rfl, hb4⟩
  have hs4 := hb4.size
  have HA7 : Hid (FiveAt W7 w.heap.size (.string Na) pv bv fa ma) := (unhide HA6).below hb4 (by omega)
  have HF7 : Hid (FiveAt W7 (w.heap.size + 1) (.string Nb) pu bu fb mb) := (unhide HF6).below hb4 (by omega)
  have HB7 : Hid (Below w.heap.size w W7) := (unhide HB6).trans (hb4.mono (by omega))
  have hz7 : w.heap.size + 2 ≤ W7.heap.size := by omega
  refine hK _ _ ⟨unhide HA7, unhide HF7, HB7, hz7⟩ ?_
  clear hK K hb4 hs4
  iterate 5 (refine mix_pure _ rfl _ (.inl ⟨rfl, fun W hS => (by obtain ⟨⟨f0, f1, f2, f3, f4⟩, ⟨g0, g1, g2, g3, g4⟩, _, _⟩ := hS; go_simp; rfl)⟩) (fun B hB => ?_); simp only [Act.put, List.setIfInBounds_toArray, List.set_cons_zero, List.set_cons_succ] at hB; subst hB)
  refine mix_pure _ rfl (.bool true) (.inl ⟨rfl, fun W hS => ?_⟩) (fun B hB => ?_)
  · go_simp
  simp only [List.getElem_toArray, List.getElem_cons_zero, List.getElem_cons_succ, Act.put, List.setIfInBounds_toArray, List.set_cons_zero, List.set_cons_succ] at hB
  subst hB
  iterate 4 (refine mix_pure _ rfl _ (.inl ⟨rfl, fun W hS => (by obtain ⟨⟨f0, f1, f2, f3, f4⟩, ⟨g0, g1, g2, g3, g4⟩, _, _⟩ := hS; go_simp; rfl)⟩) (fun B hB => ?_); simp only [Act.put, List.setIfInBounds_toArray, List.set_cons_zero, List.set_cons_succ] at hB; subst hB)
  refine mix_pure _ rfl (.bool true) (.inl ⟨rfl, fun W hS => ?_⟩) (fun B hB => ?_)
  · go_simp
  simp only [List.getElem_toArray, List.getElem_cons_zero, List.getElem_cons_succ, Act.put, List.setIfInBounds_toArray, List.set_cons_zero, List.set_cons_succ] at hB
  subst hB
  iterate 1 (refine mix_pure _ rfl _ (.inl ⟨rfl, fun W hS => (by obtain ⟨⟨f0, f1, f2, f3, f4⟩, ⟨g0, g1, g2, g3, g4⟩, _, _⟩ := hS; go_simp; rfl)⟩) (fun B hB => ?_); simp only [Act.put, List.setIfInBounds_toArray, List.set_cons_zero, List.set_cons_succ] at hB; subst hB)
  refine mix_nil ?_
  refine listIn_last rfl (fun K hK => ?_)
  go_simp
  refine hK _ _ ?_
  clear hK K
  go_wp2
  go_ret
  exact ⟨rfl, unhide HB7⟩
end Go.Proofs.YticiddcgafhkhaaDoor
