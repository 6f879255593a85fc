/-
  Package class: put, address, lookBack.
-/
import Derived.Test.YtaffldhmgifdoaaIl
import Derived.Test.YtaffldhmgifdoaaWg
namespace Go.Proofs.Ytaffldhmgifdoaa
open Go Go.RowKit Go.Shelf
attribute [local go_sem] Oper.semAt_some
set_option linter.unusedVariables false
set_option linter.unusedSimpArgs false

/-- How many registers an argument takes. -/
def onesM (l : List Int) : Nat := l.countP (fun c => c == 1)
theorem fit_eq : ∀ (l : List Int) (n : Int), 0 ≤ n → fitM n l = (!memB l && decide ((onesM l : Int) ≤ n))
  | [], n, h => by unfold fitM memB onesM; simp [h]
  | c :: r, n, h => by
    rw [fitM]
    unfold memB onesM
    rw [List.any_cons, List.countP_cons]
    cases h2 : c == 2
    · cases h1 : c == 1
      · simp only [Bool.false_eq_true, if_false, Bool.false_or, Nat.add_zero]
        exact fit_eq r n h
      · simp only [Bool.false_eq_true, if_false, if_true, Bool.false_or]
        by_cases hn : n - 1 < 0
        · rw [if_pos hn]
          have : ¬ ((List.countP (fun c => c == 1) r + 1 : Nat) : Int) ≤ n := by omega
          simp only [this, decide_false, Bool.and_false]
        · rw [if_neg hn, fit_eq r (n - 1) (by omega)]
          unfold memB onesM
          congr 1
          apply decide_eq_decide.2
          omega
    · simp
theorem ones_take (l : List Int) (k : Nat) (h : k < l.length) : onesM (l.take (k + 1)) = onesM (l.take k) + (if l[k] == 1 then 1 else 0) := by
  unfold onesM
  rw [List.take_add_one, List.getElem?_eq_getElem h, List.countP_append]
  simp
theorem ones_le (l : List Int) : onesM l ≤ l.length := List.countP_le_length
theorem regK_ones (arg : Int) (cl : List Int) (s0 : List Lc × Int) : ∀ k, k ≤ cl.length → (regK arg cl s0 k).2 = s0.2 + (onesM (cl.take k) : Int) ∧ (regK arg cl s0 k).1.length = s0.1.length + onesM (cl.take k)
  | 0, _ => by simp [regK, onesM]
  | k + 1, h => by
    obtain ⟨h1, h2⟩ := regK_ones arg cl s0 k (by omega)
    have hgd : cl.getD k 0 = cl[k] := by rw [List.getD_eq_getElem?_getD, List.getElem?_eq_getElem (by omega)]; rfl
    rw [regK, hgd, regS, ones_take cl k (by omega)]
    cases hx : cl[k] == 1
    · simp only [Bool.false_eq_true, if_false, Nat.add_zero]
      exact ⟨h1, h2⟩
    · simp only [if_true, List.length_append, List.length_cons, List.length_nil]
      refine ⟨by push_cast; omega, by omega⟩
abbrev PlS := List Lc × Int × Int
/-- A place for one argument more. -/
def putM (arg : Int) (v : Int × Int × List Int) (st : PlS) : PlS :=
  if fitM (6 - st.2.1) v.2.2 then ((regK arg v.2.2 (st.1, st.2.1) v.2.2.length).1, (regK arg v.2.2 (st.1, st.2.1) v.2.2.length).2, st.2.2)
  else (st.1 ++ (List.range (nEi v.1.toNat)).map (stkF arg (upM st.2.2 (max 8 v.2.1))), st.2.1, upM st.2.2 (max 8 v.2.1) + upM v.1 8)
/-- What is asked of a value. -/
def VaOk (v : Int × Int × List Int) : Prop := 1 ≤ v.1 ∧ v.1 ≤ 65536 ∧ AlOk v.2.1 ∧ v.2.2.length ≤ 10
theorem al_bnd {a : Int} (h : AlOk a) : 1 ≤ a ∧ a ≤ 64 := by unfold AlOk at h; omega
/-- What is asked of the places so far. -/
def StOk (n : Nat) (st : PlS) : Prop := st.1.length ≤ 8200 * n ∧ 0 ≤ st.2.1 ∧ st.2.1 ≤ 6 ∧ 0 ≤ st.2.2 ∧ st.2.2 ≤ 70000 * n
theorem putM_ok {arg : Int} {v : Int × Int × List Int} {st : PlS} {n : Nat} (hv : VaOk v) (hs : StOk n st) : StOk (n + 1) (putM arg v st) := by
  obtain ⟨v1, v2, v3, v4⟩ := hv
  obtain ⟨s1, s2, s3, s4, s5⟩ := hs
  have := al_bnd v3
  unfold putM StOk
  split
  · rename_i hf
    rw [fit_eq _ _ (by omega)] at hf
    simp only [Bool.and_eq_true, decide_eq_true_eq] at hf
    obtain ⟨r1, r2⟩ := regK_ones arg v.2.2 (st.1, st.2.1) v.2.2.length (Nat.le_refl _)
    rw [List.take_length] at r1 r2
    have h3 := ones_le v.2.2
    simp only at r1 r2 ⊢
    omega
  · obtain ⟨u1, u2, _⟩ := upM_le (n := st.2.2) (m := max 8 v.2.1) s4 (by omega)
    obtain ⟨u3, u4, _⟩ := upM_le (n := v.1) (m := 8) (by omega) (by omega)
    simp only [List.length_append, List.length_map, List.length_range]
    unfold nEi
    omega
set_option maxRecDepth 100000 in
set_option maxHeartbeats 8000000 in
theorem put_any (arg : Int) (v : Int × Int × List Int) (p : Option Addr) (c : Nat) (Pb n : Nat) (st : PlS) (w : World) (hn : n ≤ 20) (hv : VaOk v) (hs : StOk n st) (hi : IsG w.heap.size w p v.2.2) (hp : PlG Pb st w) :
    Calls Try.prog 81 #[.pointer (some ⟨Pb, 0, none⟩), .int .i64 arg, .agg #[.int .i64 v.1, .int .i64 v.2.1, .slice p v.2.2.length c]] w
      fun e w' => (∃ v, e = .returned v) ∧ PlG Pb (putM arg v st) w' ∧ FrP Pb w w' := by
  obtain ⟨z, a, cl⟩ := v
  obtain ⟨L, us, sk⟩ := st
  obtain ⟨v1, v2, v3, v4⟩ := hv
  obtain ⟨s1, s2, s3, s4, s5⟩ := hs
  simp only at v1 v2 v3 v4 s1 s2 s3 s4 s5 hi
  have ha := al_bnd v3
  obtain ⟨zn, rfl⟩ : ∃ m : Nat, z = (m : Int) := ⟨z.toNat, by omega⟩
  have hPl := hp.lt
  have HB := veil (new1_below w (.cells #[.int .i64 (zn : Int), .int .i64 a, .slice p cl.length c] 119))
  have HI : Hid (∀ W, Below w.heap.size w W → IsG W.heap.size W p cl) := fun W h => hi.size h h.size
  have HP : Hid (∀ W, Below w.heap.size w W → PlG Pb (L, us, sk) W) := fun W h => hp.below h
  have HF : Hid (∀ W, Below w.heap.size w W → Calls Try.prog 105 #[.pointer (some ⟨Pb, 0, none⟩), .agg #[.int .i64 (zn : Int), .int .i64 a, .slice p cl.length c]] W fun e w' => e = .returned (.bool (fitM (6 - us) cl)) ∧ Below W.heap.size W w') := fun W h => by
    obtain ⟨lv, b, _⟩ := hp.below h
    exact fits_any (zn : Int) a cl p c W Pb lv us sk (by omega) ⟨s2, s3⟩ (hi.size h h.size) b
  have HR : Hid (∀ W, Below w.heap.size w W → Calls Try.prog 106 #[.pointer (some ⟨Pb, 0, none⟩), .int .i64 arg, .agg #[.int .i64 (zn : Int), .int .i64 a, .slice p cl.length c]] W
      fun e w' => (∃ v, e = .returned v) ∧ PlG Pb ((regK arg cl (L, us) cl.length).1, (regK arg cl (L, us) cl.length).2, sk) w' ∧ FrP Pb W w') := fun W h =>
    putInRegisters_any arg (zn : Int) a cl p c Pb L us sk W (by omega) ⟨s2, by omega⟩ (by omega) (hi.size h h.size) (hp.below h)
  have HK : Hid (∀ W, Below w.heap.size w W → Calls Try.prog 107 #[.pointer (some ⟨Pb, 0, none⟩), .int .i64 arg, .agg #[.int .i64 (zn : Int), .int .i64 a, .slice p cl.length c]] W
      fun e w' => (∃ v, e = .returned v) ∧ PlG Pb (L ++ (List.range (nEi zn)).map (stkF arg (upM sk (max 8 a))), us, upM sk (max 8 a) + upM (zn : Int) 8) w' ∧ FrP Pb W w') := fun W h =>
    putOnStack_any arg a zn (.slice p cl.length c) Pb L us sk W (by omega) ha ⟨s4, by omega⟩ (by omega) (hp.below h)
  clear hi hp s1 s2 s3 s4 s5 ha v1 v2 v3 v4
  unfold putM
  simp only [Int.toNat_natCast]
  generalize fitM (6 - us) cl = FT at *
  generalize regK arg cl (L, us) cl.length = RK at *
  generalize (List.range (nEi zn)).map (stkF arg (upM sk (max 8 a))) = SL at *
  cases FT
  · simp only [Bool.false_eq_true, if_false]
    go_enter Try.func81, Try.ntmps81
    go_wp2_with (first
      | (go_at_call 105; refine (unveil HF _ (unveil HB)).mono ?_; rintro e w1 ⟨rfl, h1⟩; have HB1 := veil ((unveil HB).trans (h1.mono (unveil HB).size)); obtain ⟨q0, q1, q2⟩ : w1.cell? ⟨w.heap.size, 0, none⟩ = some (.int .i64 (zn : Int)) ∧ w1.cell? ⟨w.heap.size, 1, none⟩ = some (.int .i64 a) ∧ w1.cell? ⟨w.heap.size, 2, none⟩ = some (.slice p cl.length c) := (by have := (Bk.new w 119 #[.int .i64 (zn : Int), .int .i64 a, .slice p cl.length c]).below h1; exact ⟨this.cell 0, this.cell 1, this.cell 2⟩); clear h1)
      | (go_at_call 107; refine (unveil HK _ (unveil HB1)).mono ?_; rintro e w2 ⟨⟨v, rfl⟩, h2, h3⟩; have H2 := veil h2; have H3 := veil h3; clear h2 h3))
    refine bodyPost_end (results_none (fn := Try.f81) rfl _ _ _) rfl ?_
    exact ⟨⟨_, rfl⟩, unveil H2, (FrP.below (unveil HB1) (by omega)).trans (unveil H3)⟩
  · simp only [if_true]
    go_enter Try.func81, Try.ntmps81
    go_wp2_with (first
      | (go_at_call 105; refine (unveil HF _ (unveil HB)).mono ?_; rintro e w1 ⟨rfl, h1⟩; have HB1 := veil ((unveil HB).trans (h1.mono (unveil HB).size)); obtain ⟨q0, q1, q2⟩ : w1.cell? ⟨w.heap.size, 0, none⟩ = some (.int .i64 (zn : Int)) ∧ w1.cell? ⟨w.heap.size, 1, none⟩ = some (.int .i64 a) ∧ w1.cell? ⟨w.heap.size, 2, none⟩ = some (.slice p cl.length c) := (by have := (Bk.new w 119 #[.int .i64 (zn : Int), .int .i64 a, .slice p cl.length c]).below h1; exact ⟨this.cell 0, this.cell 1, this.cell 2⟩); clear h1)
      | (go_at_call 106; refine (unveil HR _ (unveil HB1)).mono ?_; rintro e w2 ⟨⟨v, rfl⟩, h2, h3⟩; have H2 := veil h2; have H3 := veil h3; clear h2 h3))
    refine bodyPost_end (results_none (fn := Try.f81) rfl _ _ _) rfl ?_
    exact ⟨⟨_, rfl⟩, unveil H2, (FrP.below (unveil HB1) (by omega)).trans (unveil H3)⟩
theorem res_v1 {f : Func} {k : Nat} {tmps : Array Value} {w : World} {R : Nat} {cs : Array Value} (hr : f.results = #[.cell k 119]) (hp : tmps.getD k undef = .pointer (some ⟨R, 0, none⟩)) (hg : w.heap[R]? = some (.cells cs 119 (0, 0))) (hz : cs.size = 3) :
    (results f tmps).run Try.prog w = .ok (.agg cs) w := by
  have hi : (Try.prog.info? 119).map (·.size) = some cs.size := by rw [hz]; kernel_rfl
  have hp' : tmps[k]?.getD undef = .pointer (some ⟨R, 0, none⟩) := by simpa using hp
  simp [results, hr, hp', asAddr, run_loadVar_row w R 119 119 cs (0, 0) _ hg Try.underlying119 rfl hi]
/-- A pointer, looked at. -/
def adrV : Int × Int × List Int := (8, 8, [1])
theorem address_any (w : World) : Calls Try.prog 82 #[] w fun e w' => ∃ p c, e = .returned (.agg #[.int .i64 8, .int .i64 8, .slice p 1 c]) ∧ IsG w'.heap.size w' p [1] ∧ Below w.heap.size w w' := by
  go_enter Try.func82, Try.ntmps82
  go_wp2
  have h1 := Bk.new w 119 #[.int .i64 8, .int .i64 8, .slice (some ⟨w.heap.size + 1, 0, none⟩) 1 1]
  refine bodyPost_ret (res_v1 (f := Try.f82) rfl rfl (h1.alloc _) rfl) rfl ⟨_, _, rfl, ?_, below_new2 w _ _⟩
  have := one_row (W := w.alloc (.cells #[.int .i64 8, .int .i64 8, .slice (some ⟨w.heap.size + 1, 0, none⟩) 1 1] 119)) (x := 1)
  rw [World.size_alloc] at this
  rw [World.size_alloc, World.size_alloc]
  exact this
def emT : ShT := .mk 0 0 0 none 0 [] none 0 [] false 0
theorem emT_in (B : Nat) (W : World) : emT.In B W
  | 0 => trivial
  | d + 1 => ⟨fun i hi => absurd hi (Nat.not_lt_zero _), fun i hi => absurd hi (Nat.not_lt_zero _)⟩
theorem emT_len : emT.Len
  | 0 => trivial
  | d + 1 => ⟨Nat.zero_le _, Nat.zero_le _, fun x hx => by simp [ShT.parts, emT, ShT.of, ShT.fs] at hx⟩
/-- What is looked at of what comes back. -/
def lobM (s : Bool) (t : ShT) : (Int × Int × List Int) × Int := if s then ((0, 0, []), 0) else lokM t
set_option maxRecDepth 100000 in
set_option maxHeartbeats 8000000 in
theorem lookBack_any (t : ShT) (w : World) (hin : t.In w.heap.size w) (hle : t.Len) :
    Calls Try.prog 79 #[t.v] w (LoP w (lobM (samM (SizeOf.sizeOf t + 1) t emT) t)) := by
  have HS := veil (LoS.new w t)
  have HSA : Hid (∀ W, LoS w W t → Calls Try.prog 31 #[t.v, emT.v] W fun e w' => e = .returned (.bool (samM (SizeOf.sizeOf t + 1) t emT)) ∧ Below W.heap.size W w') := fun W h => same_any _ t emT W (by omega) ((hin.below h.be).mono h.be.size) (emT_in _ _) hle emT_len
  have HL : Hid (∀ W, LoS w W t → Calls Try.prog 77 #[t.v] W (LoP W (lokM t))) := fun W h => look_any t W ((hin.below h.be).mono h.be.size)
  clear hin hle
  have hev : emT.v = .agg #[.int .i64 0, .int .i64 0, .int .i64 0, .slice none 0 0, .slice none 0 0, .bool false, .int .i64 0] := rfl
  rw [hev] at HSA
  clear hev
  unfold lobM
  generalize lokM t = LK at *
  generalize samM (SizeOf.sizeOf t + 1) t emT = SM at *
  obtain ⟨⟨z, a, cl⟩, er⟩ := LK
  unfold LoP at HL
  unfold ShT.v ShT.cs at *
  cases SM
  all_goals (
    simp only [Bool.false_eq_true, if_false, if_true]
    go_enter Try.func79, Try.ntmps79
    go_upto_region 1 with fail
    generalize ((w.alloc (.cells #[.int .i64 t.sh, .int .i64 t.k, .int .i64 t.n, .slice t.op t.of.length t.oc, .slice t.fp t.fs.length t.fc, .bool t.pk, .int .i64 t.al] 25)).alloc (.cells #[.int .i64 0, .int .i64 0, .slice none 0 0] 119)) = W0 at HS ⊢
    obtain ⟨y0, y1, y2, y3, y4, y5, y6⟩ := (unveil HS).t.seven
    go_wp2_with (first
      | (go_at_call 31; refine (unveil HSA _ (unveil HS)).mono ?_; rintro r W1 ⟨rfl, hb1⟩; have HS1 := veil ((unveil HS).call hb1); obtain ⟨x0, x1, x2, x3, x4, x5, x6⟩ := (unveil HS1).t.seven; have z0 := (unveil HS1).z.cell 0; have z1 := (unveil HS1).z.cell 1; have z2 := (unveil HS1).z.cell 2; have f0 := (unveil HS1).z.frozen 0; have f1 := (unveil HS1).z.frozen 1; have f2 := (unveil HS1).z.frozen 2; simp only [List.getElem?_toArray, List.getElem?_cons_succ, List.getElem?_cons_zero] at z0 z1 z2; clear hb1)
      | (go_at_call 77; refine (unveil HL _ (unveil HS1)).mono ?_; rintro r W2 ⟨p, c, rfl, hi, hb2⟩; have HI := veil hi; have HS2 := veil ((unveil HS1).call hb2); have z0 := (unveil HS2).z.cell 0; have z1 := (unveil HS2).z.cell 1; have z2 := (unveil HS2).z.cell 2; have f0 := (unveil HS2).z.frozen 0; have f1 := (unveil HS2).z.frozen 1; have f2 := (unveil HS2).z.frozen 2; simp only [List.getElem?_toArray, List.getElem?_cons_succ, List.getElem?_cons_zero] at z0 z1 z2; clear hi hb2)))
  · obtain ⟨f1', f2'⟩ := (unveil HS2).fin (.int .i64 z) (.int .i64 a) (.slice p cl.length c)
    have hset := (unveil HS2).z
    have h1 := hset.set 0 (.int .i64 z)
    have h2 := h1.set 1 (.int .i64 a)
    refine bodyPost_ret (res_vt (f := Try.f79) rfl rfl f1' rfl) rfl ⟨p, c, rfl, ?_, f2'⟩
    have hi := (((unveil HI).set (i := 0) hset (by decide) (.int .i64 z)).set (i := 1) h1 (by decide) (.int .i64 a)).set (i := 2) h2 (by decide) (.slice p cl.length c)
    refine hi.mono ?_
    simp
  · exact bodyPost_ret (res_vt (f := Try.f79) rfl rfl ((unveil HS1).fin (.int .i64 0) (.int .i64 0) (.slice none 0 0)).1 rfl) rfl ⟨none, 0, rfl, IsG.nil _ _ _, ((unveil HS1).fin (.int .i64 0) (.int .i64 0) (.slice none 0 0)).2⟩
end Go.Proofs.Ytaffldhmgifdoaa
