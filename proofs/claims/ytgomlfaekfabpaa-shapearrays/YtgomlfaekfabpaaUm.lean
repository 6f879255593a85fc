/-
  Package shape: measure, checked, Right, Size: the walks.
-/
import Derived.Test.YtgomlfaekfabpaaUl
namespace Go.Proofs.Ytgomlfaekfabpaa
open Go Go.RowKit Go.Shelf
set_option linter.unusedVariables false
set_option linter.unusedSimpArgs false

/-- The blocks of measure: the type's, the answer's. -/
structure MeS (w W : World) (t : ShT) : Prop where
  t : TyB W w.heap.size t
  z : Bk W (w.heap.size + 1) 68 #[.int .i64 0, .int .i64 0]
  be : Below w.heap.size w W
theorem MeS.new (w : World) (t : ShT) : MeS w ((w.alloc (.cells t.cs 25)).alloc (.cells #[.int .i64 0, .int .i64 0] 68)) t := by
  have h1 := Bk.new (w.alloc (.cells t.cs 25)) 68 #[.int .i64 0, .int .i64 0]
  rw [World.size_alloc] at h1
  exact ⟨(TyB.new w t).alloc _, h1, below_new2 w _ _⟩
theorem MeS.call {w W W' : World} {t : ShT} (h : MeS w W t) (hb : Below W.heap.size W W') : MeS w W' t := ⟨h.t.below hb, h.z.below hb, h.be.trans (hb.mono h.be.size)⟩
theorem MeS.alloc {w W : World} {t : ShT} (h : MeS w W t) (o : Obj) : MeS w (W.alloc o) t := ⟨h.t.alloc o, h.z.alloc o, h.be.alloc h.be.size o⟩
theorem MeS.fin {w W : World} {t : ShT} (h : MeS w W t) (x y : Value) : Bk ((W.setCell ⟨w.heap.size + 1, 0, none⟩ x).setCell ⟨w.heap.size + 1, 1, none⟩ y) (w.heap.size + 1) 68 #[x, y] ∧ Below w.heap.size w ((W.setCell ⟨w.heap.size + 1, 0, none⟩ x).setCell ⟨w.heap.size + 1, 1, none⟩ y) :=
  ⟨(h.z.set 0 _).set 1 _, (h.be.setCell (p := ⟨w.heap.size + 1, 0, none⟩) (by show w.heap.size ≤ w.heap.size + 1; omega) _).setCell (p := ⟨w.heap.size + 1, 1, none⟩) (by show w.heap.size ≤ w.heap.size + 1; omega) _⟩
theorem ext_eq {v v' a : Int} (h : v = v') : Ending.returned (.agg #[.int .i64 v, .int .i64 a]) = Ending.returned (.agg #[.int .i64 v', .int .i64 a]) := by rw [h]
set_option maxRecDepth 100000 in
set_option maxHeartbeats 8000000 in
theorem measure_arr (t x : ShT) (e : Int × Int) (w : World) (hin : t.In w.heap.size w) (h1 : (t.sh == 1) = false) (h2 : (t.sh == 2) = false) (h3 : (t.sh == 3) = true) (hof : t.of = [x]) (hn : 1 ≤ t.n) (he : EOk e)
    (hm : ∀ W, x.In W.heap.size W → Calls Try.prog 64 #[x.v] W fun r w' => r = .returned (extV e) ∧ Below W.heap.size W w') :
    Calls Try.prog 64 #[t.v] w fun r w' => r = .returned (extV (min (min t.n 65537 * e.1) 65537, e.2)) ∧ Below w.heap.size w w' := by
  obtain ⟨z, a⟩ := e
  obtain ⟨e1, e2, e3, e4⟩ := he
  simp only at e1 e2 e3 e4 ⊢
  have HB : Hid (t.n ≤ 65537 → 0 ≤ t.n * z ∧ t.n * z ≤ 4295098369) := fun h => ⟨Int.mul_nonneg (by omega) e1, Int.mul_le_mul h e2 e1 (by omega)⟩
  have hS := MeS.new w t
  obtain ⟨g, o, hop, hg, hc, hxin⟩ := hin.of 0 (by rw [hof]; simp)
  have hx0 : t.of[0]'(by rw [hof]; simp) = x := by simp [hof]
  rw [hx0] at hc hxin
  have HX : Hid (∀ W, MeS w W t → Calls Try.prog 64 #[x.v] W fun r w' => r = .returned (extV (z, a)) ∧ Below W.heap.size W w') := fun W h => hm W ((hxin.below h.be).mono h.be.size)
  have hol : t.of.length = 1 := by rw [hof]; rfl
  simp only [Nat.zero_mul, Nat.add_zero] at hc
  have HC : Hid (∀ W, MeS w W t → ∀ j, j < 7 → W.cell? ⟨g, o + j, none⟩ = x.cs[j]?) := fun W h j hj => (h.be.cell (p := ⟨g, o + j, none⟩) hg).trans (hc j hj)
  have HS := veil hS
  clear hm hin hxin hc hS hof hx0
  unfold extV ShT.v ShT.cs at *
  rw [hol, hop] at HS ⊢
  go_enter Try.func64, Try.ntmps64
  go_upto_region 1 with fail
  generalize ((w.alloc (.cells #[.int .i64 t.sh, .int .i64 t.k, .int .i64 t.n, .slice (some ⟨g, o, none⟩) 1 t.oc, .slice t.fp t.fs.length t.fc, .bool t.pk, .int .i64 t.al] 25)).alloc (.cells #[.int .i64 0, .int .i64 0] 68)) = W0 at HS ⊢
  obtain ⟨y0, y1, y2, y3, y4, y5, y6⟩ := (unveil HS).t.seven
  rw [hop, hol] at y3
  have hcc := unveil HC W0 (unveil HS)
  have q0 := hcc 0 (by decide)
  have q1 := hcc 1 (by decide)
  have q2 := hcc 2 (by decide)
  have q3 := hcc 3 (by decide)
  have q4 := hcc 4 (by decide)
  have q5 := hcc 5 (by decide)
  have q6 := hcc 6 (by decide)
  simp only [List.getElem?_toArray, List.getElem?_cons_succ, List.getElem?_cons_zero, Nat.add_zero] at q0 q1 q2 q3 q4 q5 q6
  clear hcc HC
  go_wp2_with (go_at_call 64; refine (unveil HX _ (unveil HS)).mono ?_; rintro r W1 ⟨rfl, hb1⟩; have HS1 := veil ((unveil HS).call hb1); have p2 := ((unveil HS1).t.seven).2.2.1; have lt0 := (unveil HS1).t.lt; have lt1 := (unveil HS1).z.lt; have z0 := (unveil HS1).z.cell 0; have z1 := (unveil HS1).z.cell 1; have f0 := (unveil HS1).z.frozen 0; have f1 := (unveil HS1).z.frozen 1; simp only [List.getElem?_toArray, List.getElem?_cons_succ, List.getElem?_cons_zero] at z0 z1)
  all_goals (
    refine bodyPost_ret (res_e (f := Try.f64) rfl rfl (((unveil HS1).fin _ _).1.alloc _) rfl) rfl ⟨?_, ((unveil HS1).fin _ _).2.alloc (by have := ((unveil HS1).fin (.int .i64 0) (.int .i64 0)).2.size; exact ((unveil HS1).fin _ _).2.size) _⟩
    refine ext_eq ?_
    first
    | (have hmin : min t.n 65537 = 65537 := by omega
       have hw1 : wrap64 (65537 * z) = 65537 * z := by unfold wrap64; omega
       rw [hmin]
       generalize wrap64 (65537 * z) = Q at *
       omega)
    | (have hmin : min t.n 65537 = t.n := by omega
       obtain ⟨b1, b2⟩ := unveil HB (by omega)
       rw [hmin]
       clear HB
       generalize t.n * z = M at *
       have hw1 : wrap64 M = M := by unfold wrap64; omega
       generalize wrap64 M = Q at *
       omega))
set_option maxRecDepth 100000 in
set_option maxHeartbeats 8000000 in
theorem measure_mem (t : ShT) (e : Int × Int) (w : World) (hin : t.In w.heap.size w) (h1 : (t.sh == 1) = false) (h2 : (t.sh == 2) = false) (h3 : (t.sh == 3) = false)
    (hm : ∀ W, t.In W.heap.size W → Calls Try.prog 82 #[t.v] W fun r w' => r = .returned (extV e) ∧ Below W.heap.size W w') :
    Calls Try.prog 64 #[t.v] w fun r w' => r = .returned (extV e) ∧ Below w.heap.size w w' := by
  obtain ⟨z, a⟩ := e
  have hS := MeS.new w t
  have HX : Hid (∀ W, MeS w W t → Calls Try.prog 82 #[t.v] W fun r w' => r = .returned (extV (z, a)) ∧ Below W.heap.size W w') := fun W h => hm W ((hin.below h.be).mono h.be.size)
  have HS := veil hS
  clear hm hin hS
  unfold extV ShT.v ShT.cs at *
  go_enter Try.func64, Try.ntmps64
  go_upto_region 1 with fail
  generalize ((w.alloc (.cells #[.int .i64 t.sh, .int .i64 t.k, .int .i64 t.n, .slice t.op t.of.length t.oc, .slice t.fp t.fs.length t.fc, .bool t.pk, .int .i64 t.al] 25)).alloc (.cells #[.int .i64 0, .int .i64 0] 68)) = W0 at HS ⊢
  obtain ⟨y0, y1, y2, y3, y4, y5, y6⟩ := (unveil HS).t.seven
  go_wp2_with (go_at_call 82; refine (unveil HX _ (unveil HS)).mono ?_; rintro r W1 ⟨rfl, hb1⟩; have HS1 := veil ((unveil HS).call hb1); have z0 := (unveil HS1).z.cell 0; have z1 := (unveil HS1).z.cell 1; have f0 := (unveil HS1).z.frozen 0; have f1 := (unveil HS1).z.frozen 1; simp only [List.getElem?_toArray, List.getElem?_cons_succ, List.getElem?_cons_zero] at z0 z1)
  exact bodyPost_ret (res_e (f := Try.f64) rfl rfl ((unveil HS1).fin _ _).1 rfl) rfl ⟨rfl, ((unveil HS1).fin _ _).2⟩
/-- measure, of whatever type is right. -/
theorem measure_any : ∀ (d : Nat) (t : ShT) (w : World), rigM d t = true → t.In w.heap.size w →
    Calls Try.prog 64 #[t.v] w fun e w' => e = .returned (extV (meaM d t)) ∧ Below w.heap.size w w'
  | 0, _, _, h, _ => by cases h
  | d + 1, t, w, h, hin => by
    obtain ⟨hf, hp⟩ := rig_form h
    rw [meaM]
    cases h1 : t.sh == 1
    · cases h2 : t.sh == 2
      · cases h3 : t.sh == 3
        · simp only [Bool.false_eq_true, if_false]
          obtain ⟨_, _, _, _, ha, hs⟩ := form_struct hf h1 h2 h3
          obtain ⟨f1, f2, f3, _⟩ := ffs_all hs
          exact measure_mem t _ w hin h1 h2 h3 (fun W hW => measureMembers_any t (meaM d) W hW f1 (ali_le ha).2 (fun f hfm => fok_of (mea_ok d) (f3 f hfm) (hp _ (fs_part hfm))) (fun f hfm W' hW' => measure_any d f.t W' (hp _ (fs_part hfm)) hW'))
        · simp only [Bool.false_eq_true, if_false, if_true]
          obtain ⟨_, q1, q2, _⟩ := form_arr hf h3
          match hof : t.of, q2 with
          | [x], _ =>
            simp only
            have hx : rigM d x = true := hp x (by unfold ShT.parts; rw [hof]; simp)
            exact measure_arr t x (meaM d x) w hin h1 h2 h3 hof q1 (mea_ok d x hx) (fun W hW => measure_any d x W hx hW)
      · simp only [Bool.false_eq_true, if_false, if_true]
        exact measure_ptr t w h1 h2
    · simp only [if_true]
      exact measure_int t w h1 (form_int hf h1).1
/-- What checked tells: size, alignment, error. -/
def chkM (t : ShT) : (Int × Int) × Int := if rigM 6 t then (if 65536 < (meaM 6 t).1 then ((0, 0), 101) else (meaM 6 t, 0)) else ((0, 0), 100)
theorem res_et {f : Func} {k j : Nat} {tmps : Array Value} {w : World} {R : Nat} {cs : Array Value} (hr : f.results = #[.cell k 68, .tmp j]) (hp : tmps.getD k undef = .pointer (some ⟨R, 0, none⟩)) (hg : w.heap[R]? = some (.cells cs 68 (0, 0))) (hz : cs.size = 2) :
    (results f tmps).run Try.prog w = .ok (.tuple #[.agg cs, tmps.getD j undef]) w := by
  rw [results_cell_tmp hr, hp]
  have hi : (Try.prog.info? 68).map (·.size) = some cs.size := by rw [hz]; kernel_rfl
  simp [asAddr, run_loadVar_row w R 68 68 cs (0, 0) _ hg Try.underlying68 rfl hi]
set_option maxRecDepth 100000 in
set_option maxHeartbeats 8000000 in
theorem checked_any (t : ShT) (w : World) (hin : t.In w.heap.size w) :
    Calls Try.prog 40 #[t.v] w fun r w' => r = .returned (.tuple #[extV (chkM t).1, .int .i64 (chkM t).2]) ∧ Below w.heap.size w w' := by
  have hS := MeS.new w t
  have HR : Hid (∀ W, MeS w W t → Calls Try.prog 63 #[t.v, .int .i64 1] W fun r w' => r = .returned (.bool (rigM 6 t)) ∧ Below W.heap.size W w') := fun W h => right_any 6 (Nat.le_refl _) t W ((hin.below h.be).mono h.be.size)
  have HM : Hid (rigM 6 t = true → ∀ W, MeS w W t → Calls Try.prog 64 #[t.v] W fun r w' => r = .returned (extV (meaM 6 t)) ∧ Below W.heap.size W w') := fun hr W h => measure_any 6 t W hr ((hin.below h.be).mono h.be.size)
  have HS := veil hS
  clear hin hS
  unfold chkM
  generalize rigM 6 t = RG at *
  generalize meaM 6 t = M at *
  obtain ⟨z, a⟩ := M
  unfold extV ShT.v ShT.cs at *
  simp only
  cases RG
  · simp only [Bool.false_eq_true, if_false]
    go_enter Try.func40, Try.ntmps40
    go_upto_region 1 with fail
    generalize ((w.alloc (.cells #[.int .i64 t.sh, .int .i64 t.k, .int .i64 t.n, .slice t.op t.of.length t.oc, .slice t.fp t.fs.length t.fc, .bool t.pk, .int .i64 t.al] 25)).alloc (.cells #[.int .i64 0, .int .i64 0] 68)) = W0 at HS ⊢
    obtain ⟨y0, y1, y2, y3, y4, y5, y6⟩ := (unveil HS).t.seven
    go_wp2_with (go_at_call 63; refine (unveil HR _ (unveil HS)).mono ?_; rintro r W1 ⟨rfl, hb1⟩; have HS1 := veil ((unveil HS).call hb1); have z0 := (unveil HS1).z.cell 0; have z1 := (unveil HS1).z.cell 1; have f0 := (unveil HS1).z.frozen 0; have f1 := (unveil HS1).z.frozen 1; simp only [List.getElem?_toArray, List.getElem?_cons_succ, List.getElem?_cons_zero] at z0 z1)
    exact bodyPost_ret (res_et (f := Try.f40) rfl rfl ((unveil HS1).fin _ _).1 rfl) rfl ⟨rfl, ((unveil HS1).fin _ _).2⟩
  · have HM1 := veil (unveil HM rfl)
    clear HM
    simp only [if_true]
    by_cases hb : 65536 < z
    · simp only [if_pos hb]
      have hgt : z > 65536 := hb
      go_enter Try.func40, Try.ntmps40
      go_upto_region 1 with fail
      generalize ((w.alloc (.cells #[.int .i64 t.sh, .int .i64 t.k, .int .i64 t.n, .slice t.op t.of.length t.oc, .slice t.fp t.fs.length t.fc, .bool t.pk, .int .i64 t.al] 25)).alloc (.cells #[.int .i64 0, .int .i64 0] 68)) = W0 at HS ⊢
      obtain ⟨y0, y1, y2, y3, y4, y5, y6⟩ := (unveil HS).t.seven
      go_wp2_with (first
        | (go_at_call 63; refine (unveil HR _ (unveil HS)).mono ?_; rintro r W1 ⟨rfl, hb1⟩; have HS1 := veil ((unveil HS).call hb1); obtain ⟨x0, x1, x2, x3, x4, x5, x6⟩ := (unveil HS1).t.seven)
        | (go_at_call 64; refine (unveil HM1 _ (unveil HS1)).mono ?_; rintro r W2 ⟨rfl, hb2⟩; have HS2 := veil ((unveil HS1).call hb2); have lt1 := (unveil HS2).z.lt; have z0 := (unveil HS2).z.cell 0; have z1 := (unveil HS2).z.cell 1; have f0 := (unveil HS2).z.frozen 0; have f1 := (unveil HS2).z.frozen 1; simp only [List.getElem?_toArray, List.getElem?_cons_succ, List.getElem?_cons_zero] at z0 z1))
      exact bodyPost_ret (res_et (f := Try.f40) rfl rfl (((unveil HS2).fin _ _).1.alloc _) rfl) rfl ⟨rfl, ((unveil HS2).fin _ _).2.alloc ((unveil HS2).fin _ _).2.size _⟩
    · simp only [if_neg hb]
      have hgt : ¬ z > 65536 := hb
      go_enter Try.func40, Try.ntmps40
      go_upto_region 1 with fail
      generalize ((w.alloc (.cells #[.int .i64 t.sh, .int .i64 t.k, .int .i64 t.n, .slice t.op t.of.length t.oc, .slice t.fp t.fs.length t.fc, .bool t.pk, .int .i64 t.al] 25)).alloc (.cells #[.int .i64 0, .int .i64 0] 68)) = W0 at HS ⊢
      obtain ⟨y0, y1, y2, y3, y4, y5, y6⟩ := (unveil HS).t.seven
      go_wp2_with (first
        | (go_at_call 63; refine (unveil HR _ (unveil HS)).mono ?_; rintro r W1 ⟨rfl, hb1⟩; have HS1 := veil ((unveil HS).call hb1); obtain ⟨x0, x1, x2, x3, x4, x5, x6⟩ := (unveil HS1).t.seven)
        | (go_at_call 64; refine (unveil HM1 _ (unveil HS1)).mono ?_; rintro r W2 ⟨rfl, hb2⟩; have HS2 := veil ((unveil HS1).call hb2); have lt1 := (unveil HS2).z.lt; have z0 := (unveil HS2).z.cell 0; have z1 := (unveil HS2).z.cell 1; have f0 := (unveil HS2).z.frozen 0; have f1 := (unveil HS2).z.frozen 1; simp only [List.getElem?_toArray, List.getElem?_cons_succ, List.getElem?_cons_zero] at z0 z1))
      exact bodyPost_ret (res_et (f := Try.f40) rfl rfl (((unveil HS2).fin _ _).1.alloc _) rfl) rfl ⟨rfl, ((unveil HS2).fin _ _).2.alloc ((unveil HS2).fin _ _).2.size _⟩
end Go.Proofs.Ytgomlfaekfabpaa
