/-
  The document's own leaves, Leaves; ShapeLeaves' walk.
-/
import Derived.Test.YtaffldhmgifdoaaMk
namespace Go.Proofs.Ytaffldhmgifdoaa
open Go Go.RowKit Go.Shelf
set_option linter.unusedVariables false
set_option linter.unusedSimpArgs false

theorem cut_range {P : List Mb} {F : Nat → List Mb} {n k : Nat} (hk : k ≤ n) (h : ¬ (cut (P ++ (List.range k).flatMap F)).length ≤ 2000) : cut (P ++ (List.range n).flatMap F) = cut (P ++ (List.range k).flatMap F) := by
  have hr : (List.range n).flatMap F = (List.range k).flatMap F ++ ((List.range (n - k)).map (fun x => k + x)).flatMap F := by
    rw [← List.flatMap_append, ← List.range_add]
    congr 2
    omega
  rw [hr, ← List.append_assoc]
  exact cut_full h
theorem cut_take {α : Type} {P : List Mb} {F : α → List Mb} {l : List α} {n k : Nat} (hk : k ≤ n) (h : ¬ (cut (P ++ (l.take k).flatMap F)).length ≤ 2000) : cut (P ++ (l.take n).flatMap F) = cut (P ++ (l.take k).flatMap F) := by
  have hr : (l.take n).flatMap F = (l.take k).flatMap F ++ ((l.take n).drop k).flatMap F := by
    rw [← List.flatMap_append]
    congr 1
    have h1 := List.take_append_drop k (l.take n)
    rw [List.take_take, Nat.min_eq_left hk] at h1
    exact h1.symm
  rw [hr, ← List.append_assoc]
  exact cut_full h
theorem rleaves_any : ∀ (d : Nat), d ≤ 6 → ∀ (t : ShT) (fr : Int) (base : Nat) (P : List Mb) (v : Value) (w : World), rigM d t = true → (meaM d t).1 ≤ 65536 → 0 ≤ fr → fr ≤ 33554432 * (6 - d) → t.In base w → base ≤ w.heap.size → w.ownsRow base 42 3 v P.length (spCs P) → P.length ≤ 2001 →
    Calls Try.prog 58 #[v, t.v, .int .i64 fr] w (RlP base w v (cut (P ++ leaM d t fr)))
  | 0, _, t, fr, base, P, v, w, h, hsm, h0, hf, hin, hN, hv, hP => by cases h
  | d + 1, hd, t, fr, base, P, v, w, h, hsm, h0, hf, hin, hN, hv, hP => by
    by_cases hl : P.length ≤ 2000
    · have hbig : decide (65536 < (meaM (d + 1) t).1) = false := decide_eq_false (by omega)
      have hbx : ∀ o, Calls Try.prog 55 #[t.v] (w.alloc o) (BxP (w.alloc o) (meaM (d + 1) t).1 (meaM (d + 1) t).2 false (boxL (d + 1) t)) := fun o => by
        have := box_any (d + 1) t (w.alloc o) h ((hin.below ((Below.refl _ w).alloc hN o)).mono (by simp; omega))
        rw [hbig] at this
        exact this
      obtain ⟨hfo, hpt⟩ := rig_form h
      clear hbig
      rw [meaM, boxL] at hbx
      rw [meaM] at hsm
      rw [leaM]
      have hf2 : fr ≤ 268435456 := by omega
      cases h1 : t.sh == 1
      · cases h2 : t.sh == 2
        · cases h3 : t.sh == 3
          · simp only [h1, h2, h3, Bool.false_eq_true, if_false, Bool.or_false] at hbx hsm ⊢
            obtain ⟨_, _, _, _, ha, hs⟩ := form_struct hfo h1 h2 h3
            obtain ⟨f1, f2, f3, _⟩ := ffs_all hs
            have hok : ∀ f ∈ t.fs, FOk f (meaM d f.t) := fun f hfm => fok_of (mea_ok d) (f3 f hfm) (hpt _ (fs_part hfm))
            have hll : (t.ml (meaM d)).length = t.fs.length := ml_len _ _ _ _ _
            have hfst := ml_fst (meaM d) t.pk (t.sh == 4) t.fs 0
            have hk1 : ∀ (k : Nat) (hk : k < (t.ml (meaM d)).length) (hk' : k < t.fs.length), (t.ml (meaM d))[k].1 = t.fs[k] := fun k hk hk' => by
              have h9 : ((t.ml (meaM d)).map Prod.fst)[k]? = t.fs[k]? := by unfold ShT.ml; rw [hfst]
              rw [List.getElem?_map, List.getElem?_eq_getElem hk, List.getElem?_eq_getElem hk'] at h9
              simpa using h9
            have hout : cut (P ++ (t.ml (meaM d)).flatMap (mbL d fr)) = cut (P ++ ((t.ml (meaM d)).take t.fs.length).flatMap (mbL d fr)) := by rw [List.take_of_length_le (by omega)]
            have hmb : (fun x : FdOf ShT × Mb => if x.1.bits == 0 then [] else if x.1.bits > 0 then [(⟨x.2.bit + fr, x.2.bits, x.2.k, 0⟩ : Mb)] else leaM d x.1.t (x.2.bit + fr)) = mbL d fr := rfl
            rw [hmb, hout]
            have hsec : ∀ (k : Nat) (h' : k < ((t.ml (meaM d)).map Prod.snd).length) (hk : k < (t.ml (meaM d)).length), ((t.ml (meaM d)).map Prod.snd)[k] = (t.ml (meaM d))[k].2 := fun k h' hk => by simp
            refine rl_mem t fr _ _ (fun k => cut (P ++ ((t.ml (meaM d)).take k).flatMap (mbL d fr))) (fun k => ((t.ml (meaM d))[k]?.toList).flatMap (mbL d fr)) ((t.ml (meaM d)).map Prod.snd) base P v w hv hl hN h1 h2 h3 f1 (by rw [List.length_map]; exact hll) h0 hf2 hin ?lb ?c0 (fun k => cut_len _) ?cs (fun k hk hn => cut_take hk hn) ?hF hbx ?rl
            case lb =>
              intro k h'
              have hk : k < (t.ml (meaM d)).length := by rw [List.length_map] at h'; exact h'
              rw [hsec k h' hk]
              obtain ⟨m1, m2, m3, _, _⟩ := ml_ok (meaM d) t.pk (t.sh == 4) t.fs 0 0 hok (by omega) (by omega) (by omega) _ (List.getElem_mem hk)
              exact ⟨m1, by omega⟩
            case c0 =>
              show cut (P ++ ((t.ml (meaM d)).take 0).flatMap (mbL d fr)) = P
              rw [List.take_zero, List.flatMap_nil, List.append_nil, cut_small hP]
            case cs =>
              intro k
              show cut (cut _ ++ _) = cut _
              rw [cut_app, List.take_add_one, List.flatMap_append, List.append_assoc]
            case hF =>
              intro k hk h'
              have hk2 : k < (t.ml (meaM d)).length := by omega
              show (t.fs[k].bits = 0 → ((t.ml (meaM d))[k]?.toList).flatMap (mbL d fr) = []) ∧ _
              have hFk : ((t.ml (meaM d))[k]?.toList).flatMap (mbL d fr) = mbL d fr (t.ml (meaM d))[k] := by rw [List.getElem?_eq_getElem hk2]; simp
              have h9 := hk1 k hk2 hk
              obtain ⟨_, en, _, _, hlay⟩ := ml_mem (meaM d) t.pk (t.sh == 4) t.fs 0 (by omega) hok _ (List.getElem_mem hk2)
              refine ⟨fun hb => ?_, fun hb => ?_⟩
              · rw [hFk]
                unfold mbL
                rw [h9, if_pos (by simp [hb])]
              · show ((t.ml (meaM d))[k]?.toList).flatMap (mbL d fr) = _
                rw [hFk, hsec k h' hk2]
                unfold mbL
                have e1 : (t.ml (meaM d))[k].2.bits = t.fs[k].bits ∧ (t.ml (meaM d))[k].2.k = t.fs[k].t.k := by
                  have hlay2 : (t.ml (meaM d))[k].2 = layM (meaM d (t.ml (meaM d))[k].1.t) (t.ml (meaM d))[k].1 en t.pk := hlay
                  rw [hlay2, h9]
                  unfold layM
                  rw [if_pos (by omega)]
                  exact ⟨rfl, rfl⟩
                rw [e1.1, e1.2, h9, if_neg (by simp; omega), if_pos hb, Int.add_comm]
            case rl =>
              intro k hk h' hb Q u W hu hQ hi hNW
              have hk2 : k < (t.ml (meaM d)).length := by omega
              have h9 := hk1 k hk2 hk
              have hFk : ((t.ml (meaM d))[k]?.toList).flatMap (mbL d fr) = leaM d t.fs[k].t (fr + ((t.ml (meaM d)).map Prod.snd)[k].bit) := by
                rw [List.getElem?_eq_getElem hk2, hsec k h' hk2]
                simp only [Option.toList_some, List.flatMap_cons, List.flatMap_nil, List.append_nil]
                unfold mbL
                rw [h9, if_neg (by simp; omega), if_neg (by omega), Int.add_comm]
              show Calls _ _ _ _ (RlP base W u (cut (Q ++ ((t.ml (meaM d))[k]?.toList).flatMap (mbL d fr))))
              rw [hFk]
              have hmem : t.fs[k] ∈ t.fs := List.getElem_mem _
              have hsx : (meaM d t.fs[k].t).1 ≤ 65536 := by
                apply Classical.byContradiction
                intro hc
                have := big_mem hok f1 (ali_le ha).2 hmem (by omega)
                omega
              obtain ⟨m1, m2, m3, _, _⟩ := ml_ok (meaM d) t.pk (t.sh == 4) t.fs 0 0 hok (by omega) (by omega) (by omega) _ (List.getElem_mem hk2)
              have hm1 : 0 ≤ ((t.ml (meaM d)).map Prod.snd)[k].bit ∧ ((t.ml (meaM d)).map Prod.snd)[k].bit ≤ 20992320 := by rw [hsec k h' hk2]; exact ⟨m1, by omega⟩
              exact rleaves_any d (by omega) t.fs[k].t _ base Q u W (hpt _ (fs_part hmem)) hsx (by omega) (by push_cast at hf; omega) hi hNW hu hQ
          · simp only [h1, h2, h3, Bool.false_eq_true, if_false, if_true, Bool.or_true] at hbx hsm ⊢
            obtain ⟨_, q1, q2, _⟩ := form_arr hfo h3
            obtain ⟨x, hof⟩ := List.length_eq_one_iff.1 q2
            rw [hof] at hbx hsm ⊢
            simp only at hbx hsm ⊢
            have hx : rigM d x = true := hpt x (by unfold ShT.parts; rw [hof]; simp)
            have hz := mea_pos d x hx
            obtain ⟨a1, a2, a3⟩ := arr_small q1 hz hsm
            refine rl_arr t x fr (meaM d x).1 (meaM d x).2 _ _ (fun k => cut (P ++ (List.range k).flatMap (fun (i : Nat) => leaM d x (fr + (i : Int) * (8 * (meaM d x).1))))) (fun (i : Nat) => leaM d x (fr + (i : Int) * (8 * (meaM d x).1))) base P v w hv hl hN h1 h2 h3 hof q1 a1 (by omega) a2 a3 h0 hf2 hin ?a0 (fun k => cut_len _) ?asx (fun k hk hn => cut_range hk hn) hbx ?abx ?arl
            case a0 =>
              show cut (P ++ (List.range 0).flatMap _) = P
              rw [List.range_zero, List.flatMap_nil, List.append_nil, cut_small hP]
            case asx =>
              intro k
              show cut (cut _ ++ _) = cut _
              rw [cut_app, range_step]
            case abx =>
              intro W hW
              have := box_any d x W hx hW
              rw [decide_eq_false (by omega)] at this
              exact ⟨_, this⟩
            case arl =>
              intro i Q u W hi hu hQ hxin hNW
              have hi2 := a3 i (by omega) hi
              have hi3 : 0 ≤ (i : Int) * (8 * (meaM d x).1) := Int.mul_nonneg (by omega) (by omega)
              exact rleaves_any d (by omega) x _ base Q u W hx a2 (by omega) (by push_cast at hf; omega) hxin hNW hu hQ
        · simp only [h1, h2, Bool.false_eq_true, if_false, if_true, Bool.or_true, Bool.true_or] at hbx ⊢
          rw [cut_small (by rw [List.length_append]; simp; omega)]
          exact rl_ptr t fr 8 8 base P v w hv hl hN h1 h2 (by omega) (by omega) hbx
      · simp only [h1, if_true, Bool.true_or] at hbx ⊢
        rw [cut_small (by rw [List.length_append]; simp; omega)]
        have hc := siz_cases t.k
        exact rl_int t fr (sizM t.k) (sizM t.k) base P v w hv hl hN h1 (by omega) (by omega) hbx
    · exact rl_full t fr base P _ v w hv hl (by rw [cut_full (by rw [cut_small hP]; exact hl), cut_small hP])
set_option maxRecDepth 100000 in
set_option maxHeartbeats 8000000 in
theorem RLeaves_any (t : ShT) (w : World) (hin : t.In w.heap.size w) (hle : t.Len) :
    Calls Try.prog 30 #[t.v] w fun e w' => MbP w (leaL t).1 (leaL t).2 e w' := by
  have HO : Hid (∀ W, TyB W w.heap.size t → Below w.heap.size w W → Calls Try.prog 24 #[t.v] W (OfP W (chkM t).1.1 (chkM t).1.2 (chkM t).2 (ofL t))) := fun W _ h => Of_any t W ((hin.below h).mono h.size) hle
  have HRL : Hid (((chkM t).2 == 0) = true → ∀ W, Below w.heap.size w W → Calls Try.prog 58 #[.slice none 0 0, t.v, .int .i64 0] W (RlP w.heap.size W (.slice none 0 0) (cut (leaM 6 t 0)))) := fun hc W h => by
    have := rleaves_any 6 (Nat.le_refl _) t 0 w.heap.size [] (.slice none 0 0) W (chk_ok hc) (chk_small hc) (Int.le_refl _) (by omega) (hin.below h) h.size (World.ownsRow_nil _ _ _ _) (Nat.zero_le _)
    rw [List.nil_append] at this
    exact this
  have HT0 := veil (And.intro (TyB.new w t) ((Below.refl _ w).alloc (Nat.le_refl _) (.cells t.cs 25)))
  clear hin hle
  unfold leaL
  obtain ⟨c1, c2⟩ := cut_done (leaM 6 t 0)
  generalize leaM 6 t 0 = full at *
  generalize ofL t = OL at *
  generalize chkM t = C at *
  obtain ⟨⟨z, a⟩, er⟩ := C
  simp only at *
  unfold ShT.v ShT.cs at *
  cases hc : er == 0
  · simp only [Bool.false_eq_true, if_false]
    have hc' : (er != 0) = true := by simp only [bne, hc]; rfl
    clear HRL c1 c2
    go_enter Try.func30, Try.ntmps30
    go_upto_region 1 with fail
    generalize (w.alloc (.cells #[.int .i64 t.sh, .int .i64 t.k, .int .i64 t.n, .slice t.op t.of.length t.oc, .slice t.fp t.fs.length t.fc, .bool t.pk, .int .i64 t.al] 25)) = W0 at HT0 ⊢
    obtain ⟨y0, y1, y2, y3, y4, y5, y6⟩ := (unveil HT0).1.seven
    go_wp2_with (go_at_call 24; refine (unveil HO _ (unveil HT0).1 (unveil HT0).2).mono ?_; rintro r W1 ⟨q, n, c, he, hb1, hrow⟩; unfold bxC at he; subst he; have HB := veil ((unveil HT0).2.trans (hb1.mono (unveil HT0).2.size)); clear hb1 hrow)
    refine bodyPost_ret (results_tmp2 rfl _ _ _) rfl ?_
    exact ⟨_, rfl, World.ownsRow_nil _ _ _ _, (unveil HB).alloc (unveil HB).size _⟩
  · simp only [if_true]
    have HRK := veil (unveil HRL hc)
    obtain rfl : er = 0 := by simpa using hc
    clear hc HRL
    by_cases hl : full.length ≤ 2000
    · simp only [if_pos hl]
      have hcl := c2 hl
      rw [hcl] at HRK
      have hg : ¬ ((full.length : Nat) : Int) > 2000 := by omega
      clear hcl c1 c2
      go_enter Try.func30, Try.ntmps30
      go_upto_region 1 with fail
      generalize (w.alloc (.cells #[.int .i64 t.sh, .int .i64 t.k, .int .i64 t.n, .slice t.op t.of.length t.oc, .slice t.fp t.fs.length t.fc, .bool t.pk, .int .i64 t.al] 25)) = W0 at HT0 ⊢
      obtain ⟨y0, y1, y2, y3, y4, y5, y6⟩ := (unveil HT0).1.seven
      go_upto_region 2 with (go_at_call 24; refine (unveil HO _ (unveil HT0).1 (unveil HT0).2).mono ?_; rintro r W1 ⟨q, n, c, he, hb1, hrow⟩; unfold bxC at he; subst he; have HB := veil (((unveil HT0).2.trans (hb1.mono (unveil HT0).2.size)).alloc ((unveil HT0).2.trans (hb1.mono (unveil HT0).2.size)).size (.cells #[.int .i64 z, .int .i64 a, .bool false, .slice q n c] 32)); have HT1 := veil (((unveil HT0).1.below hb1).alloc (.cells #[.int .i64 z, .int .i64 a, .bool false, .slice q n c] 32)); clear hb1 hrow)
      generalize (W1.alloc (.cells #[.int .i64 z, .int .i64 a, .bool false, .slice q n c] 32)) = W2 at HB HT1 ⊢
      clear y0 y1 y2 y3 y4 y5 y6
      obtain ⟨y0, y1, y2, y3, y4, y5, y6⟩ := (unveil HT1).seven
      go_wp2_with (go_at_call 58; refine (unveil HRK _ (unveil HB)).mono ?_; rintro r W3 ⟨v3, rfl, hr3, hg3, _⟩; obtain ⟨q3, c3, rfl⟩ := row_slice hr3; have HR3 := veil hr3; have HB3 := veil ((unveil HB).grown hg3 (unveil HB).size (fun r e => by cases e)); clear hr3 hg3)
      refine bodyPost_ret (results_tmp2 rfl _ _ _) rfl ?_
      exact ⟨_, rfl, unveil HR3, unveil HB3⟩
    · simp only [if_neg hl]
      have hg : (((cut full).length : Nat) : Int) > 2000 := by have := fun h => hl (c1.1 h); omega
      clear c1 c2 hl
      generalize cut full = CF at *
      go_enter Try.func30, Try.ntmps30
      go_upto_region 1 with fail
      generalize (w.alloc (.cells #[.int .i64 t.sh, .int .i64 t.k, .int .i64 t.n, .slice t.op t.of.length t.oc, .slice t.fp t.fs.length t.fc, .bool t.pk, .int .i64 t.al] 25)) = W0 at HT0 ⊢
      obtain ⟨y0, y1, y2, y3, y4, y5, y6⟩ := (unveil HT0).1.seven
      go_upto_region 2 with (go_at_call 24; refine (unveil HO _ (unveil HT0).1 (unveil HT0).2).mono ?_; rintro r W1 ⟨q, n, c, he, hb1, hrow⟩; unfold bxC at he; subst he; have HB := veil (((unveil HT0).2.trans (hb1.mono (unveil HT0).2.size)).alloc ((unveil HT0).2.trans (hb1.mono (unveil HT0).2.size)).size (.cells #[.int .i64 z, .int .i64 a, .bool false, .slice q n c] 32)); have HT1 := veil (((unveil HT0).1.below hb1).alloc (.cells #[.int .i64 z, .int .i64 a, .bool false, .slice q n c] 32)); clear hb1 hrow)
      generalize (W1.alloc (.cells #[.int .i64 z, .int .i64 a, .bool false, .slice q n c] 32)) = W2 at HB HT1 ⊢
      clear y0 y1 y2 y3 y4 y5 y6
      obtain ⟨y0, y1, y2, y3, y4, y5, y6⟩ := (unveil HT1).seven
      go_wp2_with (go_at_call 58; refine (unveil HRK _ (unveil HB)).mono ?_; rintro r W3 ⟨v3, rfl, hr3, hg3, _⟩; obtain ⟨q3, c3, rfl⟩ := row_slice hr3; have HB3 := veil ((unveil HB).grown hg3 (unveil HB).size (fun r e => by cases e)); clear hr3 hg3)
      refine bodyPost_ret (results_tmp2 rfl _ _ _) rfl ?_
      exact ⟨_, rfl, World.ownsRow_nil _ _ _ _, unveil HB3⟩
theorem lea_len (t : ShT) : (leaL t).1.length ≤ 1000000 := by
  unfold leaL
  split
  · split
    · simp only; omega
    · simp
  · simp
set_option maxRecDepth 100000 in
set_option maxHeartbeats 20000000 in
theorem leaves_walk (t : ShT) (w : World) (hin : t.In w.heap.size w) (hle : t.Len) :
    Calls Try.prog 5 #[t.v] w fun e w' => e = .returned (.bool true) ∧ Below w.heap.size w w' := by
  have HSH := veil shown_any
  have HZ : Hid (∀ W, TyB W w.heap.size t → Below w.heap.size w W → Calls Try.prog 29 #[t.v] W fun e w' => MbP W (leaL t).1 (leaL t).2 e w') := fun W _ h => Leaves_any t W ((hin.below h).mono h.size)
  have HR : Hid (∀ W, TyB W w.heap.size t → Below w.heap.size w W → Calls Try.prog 30 #[t.v] W fun e w' => MbP W (leaL t).1 (leaL t).2 e w') := fun W _ h => RLeaves_any t W ((hin.below h).mono h.size) hle
  have HLE := veil (lea_len t)
  have HT0 := veil (And.intro (TyB.new w t) ((Below.refl _ w).alloc (Nat.le_refl _) (.cells t.cs 25)))
  clear hin hle
  generalize leaL t = C at *
  obtain ⟨ML, er⟩ := C
  simp only at *
  unfold ShT.v ShT.cs at *
  go_enter Try.func5, Try.ntmps5
  go_upto_region 1 with fail
  generalize (w.alloc (.cells #[.int .i64 t.sh, .int .i64 t.k, .int .i64 t.n, .slice t.op t.of.length t.oc, .slice t.fp t.fs.length t.fc, .bool t.pk, .int .i64 t.al] 25)) = W0 at HT0 ⊢
  go_upto_region 2 with (go_at_call 22; refine (unveil HSH _).mono ?_; rintro e W1 ⟨rfl, hb1⟩; have HT1 := veil (And.intro ((unveil HT0).1.below hb1) ((unveil HT0).2.trans (hb1.mono (unveil HT0).2.size))); clear hb1)
  obtain ⟨y0, y1, y2, y3, y4, y5, y6⟩ := (unveil HT1).1.seven
  go_upto_region 3 with (go_at_call 29; refine (unveil HZ _ (unveil HT1).1 (unveil HT1).2).mono ?_; rintro e W2 ⟨v2, rfl, hr2, hb2⟩; have HT2 := veil (And.intro ((unveil HT1).1.below hb2) ((unveil HT1).2.trans (hb2.mono (unveil HT1).2.size))); obtain ⟨q2, c2, rfl⟩ := row_slice hr2; have HR2 := veil hr2; clear hb2 hr2)
  clear y0 y1 y2 y3 y4 y5 y6
  obtain ⟨y0, y1, y2, y3, y4, y5, y6⟩ := (unveil HT2).1.seven
  go_upto_region 4 with (go_at_call 30; refine (unveil HR _ (unveil HT2).1 (unveil HT2).2).mono ?_; rintro e W3 ⟨v3, rfl, hr3, hb3⟩; have HB3 := veil ((unveil HT2).2.trans (hb3.mono (unveil HT2).2.size)); obtain ⟨q3, c3, rfl⟩ := row_slice hr3; have HSS := veil (spots_eq _ _ ML _ _ W3 (unveil HLE) (ownsRow_belowS (unveil HR2) hb3) hr3); clear hb3 hr3)
  clear y0 y1 y2 y3 y4 y5 y6
  go_wp2_with (go_at_call 28; refine (unveil HSS).mono ?_; rintro e W5 ⟨rfl, hb5⟩; have HB5 := veil ((unveil HB3).trans (hb5.mono (unveil HB3).size)); clear hb5)
  go_ret
  exact ⟨by simp, unveil HB5⟩
end Go.Proofs.Ytaffldhmgifdoaa
