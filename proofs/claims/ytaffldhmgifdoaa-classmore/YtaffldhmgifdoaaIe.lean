/-
  Package class: look, Classes.
-/
import Derived.Test.YtaffldhmgifdoaaId
namespace Go.Proofs.Ytaffldhmgifdoaa
open Go Go.RowKit Go.Shelf
attribute [local go_sem] Oper.semAt_some
set_option linter.unusedVariables false
set_option linter.unusedSimpArgs false

/-- What is looked at: its bytes, to what it is aligned, its classes; or the error. -/
def lokM (t : ShT) : (Int × Int × List Int) × Int :=
  if (chkM t).2 != 0 then ((0, 0, []), (chkM t).2) else if t.sh == 3 then ((0, 0, []), 2) else if (leaL t).2 != 0 then ((0, 0, []), (leaL t).2)
  else (((chkM t).1.1, (chkM t).1.2, clsM (chkM t).1.1 (leaL t).1), 0)
theorem classes_any (z : Int) (l : List Mb) (q : Option Addr) (c : Nat) (w : World) (hz : 0 ≤ z) (hl : l.length ≤ 1000000) (hs : SpG w.heap.size w q l) (hn : ∀ m ∈ l, NmOk m) :
    Calls Try.prog 103 #[.int .i64 z, .slice q l.length c] w (InP w (clsM z l)) := by
  unfold clsM
  cases hg : (decide (z > 16) || l.any askM)
  · simp only [Bool.false_eq_true, if_false]
    obtain ⟨h1, h2⟩ := Bool.or_eq_false_iff.1 hg
    have h3 : ¬ z > 16 := by simpa using h1
    obtain ⟨n, rfl⟩ : ∃ n : Nat, z = (n : Int) := ⟨z.toNat, by omega⟩
    exact classes_low n l q c w (by omega) hl hs hn h2
  · simp only [if_true]
    exact classes_mem z l q c w hl hs hn hg
theorem lea_num {t : ShT} (h : ((leaL t).2 == 0) = true) : (leaL t).1.length ≤ 2000 ∧ 1 ≤ (chkM t).1.1 ∧ (chkM t).1.1 ≤ 65536 ∧ AlOk (chkM t).1.2 ∧ (∀ m ∈ (leaL t).1, NmOk m) ∧ (∀ m ∈ (leaL t).1, LfOk 0 (8 * (chkM t).1.1) m) := by
  obtain ⟨hc, hl, he⟩ := lea_ok h
  have hr := chk_ok hc
  have hsm := chk_small hc
  have hcm : (chkM t).1 = meaM 6 t := by
    unfold chkM
    rw [if_pos hr, if_neg (by omega)]
  rw [he, hcm]
  have hle := lea_in 6 t 0 hr hsm
  refine ⟨hl, mea_pos 6 t hr, hsm, mea_al 6 t hr, fun m hm => ?_, hle⟩
  obtain ⟨h1, h2, h3, h4, h5, h6⟩ := hle m hm
  exact ⟨by omega, by omega, h3, h4⟩
structure LoS (w W : World) (t : ShT) : Prop where
  t : TyB W w.heap.size t
  z : Bk W (w.heap.size + 1) 119 #[.int .i64 0, .int .i64 0, .slice none 0 0]
  be : Below w.heap.size w W
theorem LoS.new (w : World) (t : ShT) : LoS w ((w.alloc (.cells t.cs 25)).alloc (.cells #[.int .i64 0, .int .i64 0, .slice none 0 0] 119)) t := by
  have h1 := Bk.new (w.alloc (.cells t.cs 25)) 119 #[.int .i64 0, .int .i64 0, .slice none 0 0]
  rw [World.size_alloc] at h1
  exact ⟨(TyB.new w t).alloc _, h1, below_new2 w _ _⟩
theorem LoS.call {w W W' : World} {t : ShT} (h : LoS w W t) (hb : Below W.heap.size W W') : LoS w W' t := ⟨h.t.below hb, h.z.below hb, h.be.trans (hb.mono h.be.size)⟩
theorem LoS.fin {w W : World} {t : ShT} (h : LoS w W t) (a b c : Value) :
    Bk (((W.setCell ⟨w.heap.size + 1, 0, none⟩ a).setCell ⟨w.heap.size + 1, 1, none⟩ b).setCell ⟨w.heap.size + 1, 2, none⟩ c) (w.heap.size + 1) 119 #[a, b, c] ∧
    Below w.heap.size w (((W.setCell ⟨w.heap.size + 1, 0, none⟩ a).setCell ⟨w.heap.size + 1, 1, none⟩ b).setCell ⟨w.heap.size + 1, 2, none⟩ c) := by
  have h3 := ((h.z.set 0 a).set 1 b).set 2 c
  simp only [List.setIfInBounds_toArray, List.set_cons_zero, List.set_cons_succ] at h3
  exact ⟨h3, ((h.be.setCell (p := ⟨w.heap.size + 1, 0, none⟩) (by show w.heap.size ≤ w.heap.size + 1; omega) _).setCell (p := ⟨w.heap.size + 1, 1, none⟩) (by show w.heap.size ≤ w.heap.size + 1; omega) _).setCell (p := ⟨w.heap.size + 1, 2, none⟩) (by show w.heap.size ≤ w.heap.size + 1; omega) _⟩
theorem res_vt {f : Func} {k j : Nat} {tmps : Array Value} {w : World} {R : Nat} {cs : Array Value} (hr : f.results = #[.cell k 119, .tmp j]) (hp : tmps.getD k undef = .pointer (some ⟨R, 0, none⟩)) (hg : w.heap[R]? = some (.cells cs 119 (0, 0))) (hz : cs.size = 3) :
    (results f tmps).run Try.prog w = .ok (.tuple #[.agg cs, tmps.getD j undef]) w := by
  rw [results_cell_tmp hr, hp]
  have hi : (Try.prog.info? 119).map (·.size) = some cs.size := by rw [hz]; kernel_rfl
  simp [asAddr, run_loadVar_row w R 119 119 cs (0, 0) _ hg Try.underlying119 rfl hi]
theorem Bk.ne {W : World} {i j : Nat} {T U : TypeId} {cs ds : Array Value} (h : Bk W i T cs) (k : Bk W j U ds) (hT : T ≠ U) : i ≠ j := fun e => by
  subst e
  unfold Bk at h k
  rw [h] at k
  simp at k
  exact hT k.2
theorem IsG.set {B : Nat} {W : World} {p : Option Addr} {l : List Int} {b i : Nat} {T : TypeId} {cs : Array Value} (h : IsG B W p l) (hz : Bk W b T cs) (hT : 3 ≠ T) (u : Value) : IsG B (W.setCell ⟨b, i, none⟩ u) p l :=
  h.keep (fun j ds hj => hj.other _ _ (fun e => (hj.ne hz hT) e)) (Nat.le_refl _)
/-- What look tells. -/
def LoP (w : World) (L : (Int × Int × List Int) × Int) (e : Ending) (w' : World) : Prop :=
  ∃ p c, e = .returned (.tuple #[.agg #[.int .i64 L.1.1, .int .i64 L.1.2.1, .slice p L.1.2.2.length c], .int .i64 L.2]) ∧ IsG w'.heap.size w' p L.1.2.2 ∧ Below w.heap.size w w'
set_option maxRecDepth 100000 in
set_option maxHeartbeats 20000000 in
theorem look_any (t : ShT) (w : World) (hin : t.In w.heap.size w) :
    Calls Try.prog 77 #[t.v] w (LoP w (lokM t)) := by
  have HS := veil (LoS.new w t)
  have HZ : Hid (∀ W, LoS w W t → Calls Try.prog 23 #[t.v] W fun r w' => r = .returned (.tuple #[.int .i64 (chkM t).1.1, .int .i64 (chkM t).1.2, .int .i64 (chkM t).2]) ∧ Below W.heap.size W w') := fun W h => Size10_any t W ((hin.below h.be).mono h.be.size)
  have HL : Hid (∀ W, LoS w W t → Calls Try.prog 29 #[t.v] W fun e w' => MbP W (leaL t).1 (leaL t).2 e w') := fun W h => Leaves_any t W ((hin.below h.be).mono h.be.size)
  have HN := veil (@lea_num t)
  clear hin
  unfold lokM
  generalize leaL t = L at *
  generalize chkM t = C at *
  obtain ⟨⟨z, a⟩, er⟩ := C
  obtain ⟨l, el⟩ := L
  unfold ShT.v ShT.cs at *
  simp only at *
  cases hc : er != 0
  · simp only [Bool.false_eq_true, if_false]
    cases h3 : t.sh == 3
    · simp only [Bool.false_eq_true, if_false]
      cases he : el != 0
      · simp only [Bool.false_eq_true, if_false]
        have he0 : el = 0 := by simpa using he
        obtain ⟨n1, n2, n3, n4, n5, n6⟩ := unveil HN (by simp [he0])
        have HCL : Hid (∀ q c W, SpG W.heap.size W q l → Calls Try.prog 103 #[.int .i64 z, .slice q l.length c] W (InP W (clsM z l))) := fun q c W h => classes_any z l q c W (by omega) (by omega) h n5
        clear HN n1 n2 n3 n4 n5 n6 he0
        generalize clsM z l = CL at *
        go_enter Try.func77, Try.ntmps77
        go_upto_region 1 with fail
        generalize ((w.alloc (.cells #[.int .i64 t.sh, .int .i64 t.k, .int .i64 t.n, .slice t.op t.of.length t.oc, .slice t.fp t.fs.length t.fc, .bool t.pk, .int .i64 t.al] 25)).alloc (.cells #[.int .i64 0, .int .i64 0, .slice none 0 0] 119)) = W0 at HS ⊢
        obtain ⟨y0, y1, y2, y3, y4, y5, y6⟩ := (unveil HS).t.seven
        go_wp2_with (first
          | (go_at_call 23; refine (unveil HZ _ (unveil HS)).mono ?_; rintro r W1 ⟨rfl, hb1⟩; have HS1 := veil ((unveil HS).call hb1); obtain ⟨x0, x1, x2, x3, x4, x5, x6⟩ := (unveil HS1).t.seven; clear hb1)
          | (go_at_call 29; refine (unveil HL _ (unveil HS1)).mono ?_; rintro r W2 ⟨v, rfl, hv, hb2⟩; obtain ⟨q, c, rfl, hq⟩ := SpG.of_own hv; have HQ := veil hq; have HS2 := veil ((unveil HS1).call hb2); clear hv hq hb2)
          | (go_at_call 103; refine (unveil HCL q c W2 (unveil HQ)).mono ?_; rintro r W3 ⟨p, cp, rfl, hp, hb3⟩; have HP := veil hp; have HS3 := veil ((unveil HS2).call hb3); have z0 := (unveil HS3).z.cell 0; have z1 := (unveil HS3).z.cell 1; have z2 := (unveil HS3).z.cell 2; have f0 := (unveil HS3).z.frozen 0; have f1 := (unveil HS3).z.frozen 1; have f2 := (unveil HS3).z.frozen 2; simp only [List.getElem?_toArray, List.getElem?_cons_succ, List.getElem?_cons_zero] at z0 z1 z2; clear hp hb3))
        obtain ⟨f1', f2'⟩ := (unveil HS3).fin (.int .i64 z) (.int .i64 a) (.slice p CL.length cp)
        have hset := (unveil HS3).z
        have h1 := hset.set 0 (.int .i64 z)
        have h2 := h1.set 1 (.int .i64 a)
        refine bodyPost_ret (res_vt (f := Try.f77) rfl rfl f1' rfl) rfl ⟨p, cp, rfl, ?_, f2'⟩
        have hi := (((unveil HP).set (i := 0) hset (by decide) (.int .i64 z)).set (i := 1) h1 (by decide) (.int .i64 a)).set (i := 2) h2 (by decide) (.slice p CL.length cp)
        refine hi.mono ?_
        simp
      · simp only [if_true]
        go_enter Try.func77, Try.ntmps77
        go_upto_region 1 with fail
        generalize ((w.alloc (.cells #[.int .i64 t.sh, .int .i64 t.k, .int .i64 t.n, .slice t.op t.of.length t.oc, .slice t.fp t.fs.length t.fc, .bool t.pk, .int .i64 t.al] 25)).alloc (.cells #[.int .i64 0, .int .i64 0, .slice none 0 0] 119)) = W0 at HS ⊢
        obtain ⟨y0, y1, y2, y3, y4, y5, y6⟩ := (unveil HS).t.seven
        go_wp2_with (first
          | (go_at_call 23; refine (unveil HZ _ (unveil HS)).mono ?_; rintro r W1 ⟨rfl, hb1⟩; have HS1 := veil ((unveil HS).call hb1); obtain ⟨x0, x1, x2, x3, x4, x5, x6⟩ := (unveil HS1).t.seven; clear hb1)
          | (go_at_call 29; refine (unveil HL _ (unveil HS1)).mono ?_; rintro r W2 ⟨v, rfl, hv, hb2⟩; obtain ⟨q, c, rfl, hq⟩ := SpG.of_own hv; have HS2 := veil ((unveil HS1).call hb2); have z0 := (unveil HS2).z.cell 0; have z1 := (unveil HS2).z.cell 1; have z2 := (unveil HS2).z.cell 2; have f0 := (unveil HS2).z.frozen 0; have f1 := (unveil HS2).z.frozen 1; have f2 := (unveil HS2).z.frozen 2; simp only [List.getElem?_toArray, List.getElem?_cons_succ, List.getElem?_cons_zero] at z0 z1 z2; clear hv hq hb2))
        exact bodyPost_ret (res_vt (f := Try.f77) rfl rfl ((unveil HS2).fin (.int .i64 0) (.int .i64 0) (.slice none 0 0)).1 rfl) rfl ⟨none, 0, rfl, IsG.nil _ _ _, ((unveil HS2).fin (.int .i64 0) (.int .i64 0) (.slice none 0 0)).2⟩
    · simp only [if_true]
      go_enter Try.func77, Try.ntmps77
      go_upto_region 1 with fail
      generalize ((w.alloc (.cells #[.int .i64 t.sh, .int .i64 t.k, .int .i64 t.n, .slice t.op t.of.length t.oc, .slice t.fp t.fs.length t.fc, .bool t.pk, .int .i64 t.al] 25)).alloc (.cells #[.int .i64 0, .int .i64 0, .slice none 0 0] 119)) = W0 at HS ⊢
      obtain ⟨y0, y1, y2, y3, y4, y5, y6⟩ := (unveil HS).t.seven
      go_wp2_with (go_at_call 23; refine (unveil HZ _ (unveil HS)).mono ?_; rintro r W1 ⟨rfl, hb1⟩; have HS1 := veil ((unveil HS).call hb1); obtain ⟨x0, x1, x2, x3, x4, x5, x6⟩ := (unveil HS1).t.seven; have z0 := (unveil HS1).z.cell 0; have z1 := (unveil HS1).z.cell 1; have z2 := (unveil HS1).z.cell 2; have f0 := (unveil HS1).z.frozen 0; have f1 := (unveil HS1).z.frozen 1; have f2 := (unveil HS1).z.frozen 2; simp only [List.getElem?_toArray, List.getElem?_cons_succ, List.getElem?_cons_zero] at z0 z1 z2; clear hb1)
      exact bodyPost_ret (res_vt (f := Try.f77) rfl rfl ((unveil HS1).fin (.int .i64 0) (.int .i64 0) (.slice none 0 0)).1 rfl) rfl ⟨none, 0, rfl, IsG.nil _ _ _, ((unveil HS1).fin (.int .i64 0) (.int .i64 0) (.slice none 0 0)).2⟩
  · simp only [if_true]
    go_enter Try.func77, Try.ntmps77
    go_upto_region 1 with fail
    generalize ((w.alloc (.cells #[.int .i64 t.sh, .int .i64 t.k, .int .i64 t.n, .slice t.op t.of.length t.oc, .slice t.fp t.fs.length t.fc, .bool t.pk, .int .i64 t.al] 25)).alloc (.cells #[.int .i64 0, .int .i64 0, .slice none 0 0] 119)) = W0 at HS ⊢
    obtain ⟨y0, y1, y2, y3, y4, y5, y6⟩ := (unveil HS).t.seven
    go_wp2_with (go_at_call 23; refine (unveil HZ _ (unveil HS)).mono ?_; rintro r W1 ⟨rfl, hb1⟩; have HS1 := veil ((unveil HS).call hb1); obtain ⟨x0, x1, x2, x3, x4, x5, x6⟩ := (unveil HS1).t.seven; have z0 := (unveil HS1).z.cell 0; have z1 := (unveil HS1).z.cell 1; have z2 := (unveil HS1).z.cell 2; have f0 := (unveil HS1).z.frozen 0; have f1 := (unveil HS1).z.frozen 1; have f2 := (unveil HS1).z.frozen 2; simp only [List.getElem?_toArray, List.getElem?_cons_succ, List.getElem?_cons_zero] at z0 z1 z2; clear hb1)
    exact bodyPost_ret (res_vt (f := Try.f77) rfl rfl ((unveil HS1).fin (.int .i64 0) (.int .i64 0) (.slice none 0 0)).1 rfl) rfl ⟨none, 0, rfl, IsG.nil _ _ _, ((unveil HS1).fin (.int .i64 0) (.int .i64 0) (.slice none 0 0)).2⟩
/-- What Classes tells. -/
def ClP (w : World) (l : List Int) (er : Int) (e : Ending) (w' : World) : Prop := ∃ p c, e = .returned (.tuple #[.slice p l.length c, .int .i64 er]) ∧ IsG w'.heap.size w' p l ∧ Below w.heap.size w w'
set_option maxRecDepth 100000 in
set_option maxHeartbeats 8000000 in
theorem Classes_any (t : ShT) (w : World) (hin : t.In w.heap.size w) :
    Calls Try.prog 45 #[t.v] w (ClP w (lokM t).1.2.2 (lokM t).2) := by
  have HL : Hid (∀ o, Calls Try.prog 77 #[t.v] (w.alloc o) (LoP (w.alloc o) (lokM t))) := fun o => look_any t _ ((hin.below (new1_below w o)).mono (by simp))
  have HB := veil (new1_below w)
  clear hin
  generalize lokM t = L at *
  obtain ⟨⟨z, a, cl⟩, er⟩ := L
  unfold LoP at HL
  unfold ShT.v ShT.cs at *
  simp only at *
  go_enter Try.func45, Try.ntmps45
  go_wp2_with (go_at_call 77; refine (unveil HL _).mono ?_; rintro r w1 ⟨p, c, rfl, hi, hb⟩; have HI := veil hi; have HB1 := veil ((unveil HB _).trans (hb.mono (unveil HB _).size)); clear hi hb)
  refine bodyPost_ret (results_tmp2 rfl _ _ _) rfl ?_
  exact ⟨p, c, rfl, (unveil HI).size (new1_below _ _) (by simp), (unveil HB1).alloc (unveil HB1).size _⟩
end Go.Proofs.Ytaffldhmgifdoaa
