/-
  The document's Classes walked.
-/
import Derived.Test.YtaffldhmgifdoaaIq
namespace Go.Proofs.Ytaffldhmgifdoaa
open Go Go.RowKit Go.Shelf
attribute [local go_sem] Oper.semAt_some
set_option linter.unusedVariables false
set_option linter.unusedSimpArgs false

theorem ask_any (l : List Mb) (k : Nat) (hk : k < l.length) (h : askM l[k] = true) : l.any askM = true := List.any_eq_true.2 ⟨_, List.getElem_mem hk, h⟩
theorem ask_none (l : List Mb) (h : ∀ (i : Nat) (hi : i < l.length), askM l[i] = false) : l.any askM = false := List.any_eq_false.2 fun x hx => by
  obtain ⟨i, hi, rfl⟩ := List.mem_iff_getElem.1 hx
  rw [h i hi]
  simp
theorem inCs_len (l : List Int) : (inCs l).length = l.length := by simp [inCs]
theorem inCs_set (l : List Int) (i : Nat) (x : Int) : (inCs l).toArray.setIfInBounds i (.int .i64 x) = (inCs (l.set i x)).toArray := by
  unfold inCs
  simp [List.map_set]
theorem IsG.of_bk {W : World} {b B : Nat} {l : List Int} (h : Bk W b 3 (inCs l).toArray) (hb : b < B) : IsG B W (some ⟨b, 0, none⟩) l := fun i hi => by
  refine ⟨b, 0, _, rfl, hb, h, ?_⟩
  unfold inCs
  simp [List.getElem?_eq_getElem hi]
set_option maxRecDepth 100000 in
set_option maxHeartbeats 40000000 in
theorem RClasses_any (t : ShT) (w : World) (hin : t.In w.heap.size w) (hle : t.Len) :
    Calls Try.prog 46 #[t.v] w (ClP w (lokM t).1.2.2 (lokM t).2) := by
  have HO : Hid (∀ W, TyB W w.heap.size t → Below w.heap.size w W → Calls Try.prog 24 #[t.v] W (OfP W (chkM t).1.1 (chkM t).1.2 (chkM t).2 (ofL t))) := fun W _ h => Of_any t W ((hin.below h).mono h.size) hle
  have HRL : Hid (∀ W, TyB W w.heap.size t → Below w.heap.size w W → Calls Try.prog 30 #[t.v] W fun e w' => MbP W (leaL t).1 (leaL t).2 e w') := fun W _ h => RLeaves_any t W ((hin.below h).mono h.size) hle
  have HT0 := veil (tyB_new w t)
  have HN := veil (@lea_num t)
  clear hin hle
  unfold lokM
  generalize leaL t = LE at *
  generalize ofL t = OL at *
  generalize chkM t = C at *
  obtain ⟨⟨z, a⟩, er⟩ := C
  obtain ⟨l, el⟩ := LE
  unfold OfP bxC at HO
  unfold ShT.v ShT.cs at *
  simp only at *
  cases hc : er != 0
  · simp only [Bool.false_eq_true, if_false]
    have he0 : er = 0 := by simpa using hc
    subst he0
    clear hc
    cases h3 : t.sh == 3
    · simp only [Bool.false_eq_true, if_false]
      cases he : el != 0
      · simp only [Bool.false_eq_true, if_false]
        have hl0 : el = 0 := by simpa using he
        subst hl0
        clear he
        obtain ⟨n1, n2, n3, n4, n5, n6⟩ := unveil HN rfl
        obtain ⟨CL, hCL⟩ : ∃ CL, clsM z l = CL := ⟨_, rfl⟩
        rw [hCL]
        have HCL := veil hCL
        have HN5 := veil n5
        have HN6 := veil n6
        clear HN hCL n4 n5 n6
        go_enter Try.func46, Try.ntmps46
        go_upto_region 1 with fail
        generalize (w.alloc (.cells #[.int .i64 t.sh, .int .i64 t.k, .int .i64 t.n, .slice t.op t.of.length t.oc, .slice t.fp t.fs.length t.fc, .bool t.pk, .int .i64 t.al] 25)) = W0 at HT0 ⊢
        obtain ⟨y0, y1, y2, y3, y4, y5, y6⟩ := (unveil HT0).1.seven
        go_upto_region 2 with (go_at_call 24; refine (unveil HO _ (unveil HT0).1 (unveil HT0).2).mono ?_; rintro r W1 ⟨oq, on, oc, rfl, hb1, _⟩; have HT1 := veil (And.intro ((unveil HT0).1.below hb1) ((unveil HT0).2.trans (hb1.mono (unveil HT0).2.size))); clear hb1)
        have hx2 := Bk.new W1 32 #[.int .i64 z, .int .i64 a, .bool false, .slice oq on oc]
        have HT2 := veil (And.intro ((unveil HT1).1.alloc (.cells #[.int .i64 z, .int .i64 a, .bool false, .slice oq on oc] 32)) ((unveil HT1).2.alloc (unveil HT1).2.size (.cells #[.int .i64 z, .int .i64 a, .bool false, .slice oq on oc] 32)))
        generalize (W1.alloc (.cells #[.int .i64 z, .int .i64 a, .bool false, .slice oq on oc] 32)) = W2 at *
        generalize W1.heap.size = XB at *
        have HX2 := veil hx2
        clear y0 y1 y2 y3 y4 y5 y6 hx2
        obtain ⟨y0, y1, y2, y3, y4, y5, y6⟩ := (unveil HT2).1.seven
        go_upto_region 7 with (go_at_call 30; refine (unveil HRL _ (unveil HT2).1 (unveil HT2).2).mono ?_; rintro r W3 ⟨v, rfl, hv, hb3⟩; obtain ⟨q, cq, rfl, hq⟩ := SpG.of_own hv; have HQ := veil hq; have HX3 := veil ((unveil HX2).below hb3); have HB3 := veil ((unveil HT2).2.trans (hb3.mono (unveil HT2).2.size)); clear hv hq hb3)
        clear y0 y1 y2 y3 y4 y5 y6 HT0 HT1 HT2 HX2 HO HRL
        have x0 := (unveil HX3).cell 0
        simp only [List.getElem?_toArray, List.getElem?_cons_zero] at x0
        have hxl := (unveil HX3).lt
        by_cases hz : z > 16
        · have hCL2 := unveil HCL
          unfold clsM at hCL2
          rw [decide_eq_true hz, Bool.true_or, if_pos rfl] at hCL2
          subst hCL2
          go_wp2_with fail
          refine bodyPost_ret (results_tmp2 rfl _ _ _) rfl ?_
          have ho := one_row (W := W3) (x := 2)
          exact ⟨_, _, rfl, by rw [World.size_alloc]; exact ho, (unveil HB3).alloc (unveil HB3).size _⟩
        · obtain ⟨zn, rfl⟩ : ∃ m : Nat, z = (m : Int) := ⟨z.toNat, by omega⟩
          have hqd : ((zn : Int) + 7).tdiv 8 = ((nEi zn : Nat) : Int) := by rw [Int.tdiv_eq_ediv_of_nonneg (by omega)]; unfold nEi; omega
          have hqe : ((zn : Int) + 7) / 8 = ((nEi zn : Nat) : Int) := by unfold nEi; omega
          have hn2 : nEi zn ≤ 2 ∧ 1 ≤ nEi zn ∧ 8 * nEi zn ≥ zn := by unfold nEi; omega
          obtain ⟨hn2, hn1, hn3⟩ := hn2
          have hCL2 := unveil HCL
          unfold clsM at hCL2
          rw [decide_eq_false hz, Bool.false_or, Int.toNat_natCast] at hCL2
          have HCL2 := veil hCL2
          clear hCL2 HCL
          generalize nEi zn = n at *
          go_upto_region 12 with (at_make; obtain ⟨i0, hi, hz0, hz1, hz2⟩ := info_parts infoIn; refine wpList_make_full _ rfl _ _ 47 rfl W3.heap.size 3 i0 _ 1 Try.underlying47 hi hz0 hz1 .i64 .i64 _ _ n rfl rfl rfl rfl (by rw [hz2]; omega) (by unfold maxLen; omega) (Nat.le_refl _) ?_; intro W4 hown4 hgrow4; have hk4 := bk_madeI hown4; have hB4 := (Below.refl _ W3).grown hgrow4 (Nat.le_refl _) (fun r e => (by cases e)); have HK4 := veil hk4; have HB4 := veil hB4; clear hi hz0 hz1 hz2 hown4 hgrow4 hk4 hB4)
          clear x0 hxl HX3 hqd hqe
          have HK0 : Hid (Bk W4 W3.heap.size 3 (inCs (mrkL [] 0 0 n)).toArray) := by
            have h := unveil HK4
            have e : mrkL [] 0 0 n = List.replicate n 0 := by
              rw [mrk_zero]
              apply List.ext_getElem?
              intro i
              rw [List.getElem?_map]
              by_cases hi : i < n
              · rw [List.getElem?_range hi, List.getElem?_replicate_of_lt hi]; rfl
              · rw [List.getElem?_eq_none (by simp; omega), List.getElem?_eq_none (by simp; omega)]; rfl
            rw [e]
            exact h
          have hW3 : w.heap.size ≤ W3.heap.size := (unveil HB3).size
          go_wp2_with fail
          go_loopw [9] (fun i wr => ∃ (k : Nat), i = .int .i64 k ∧ k ≤ l.length ∧ Hid (∀ (i : Nat) (h : i < l.length), i < k → askM l[i] = false) ∧ Hid (Bk wr W3.heap.size 3 (inCs (mrkL (l.take k) 0 0 n)).toArray) ∧ Hid (Below W3.heap.size W3 wr)) (fun i wr => l.length - (intOf i).toNat)
          case atStart => exact ⟨0, rfl, Nat.zero_le _, fun i _ h => absurd h (Nat.not_lt_zero _), HK0, HB4⟩
          case round =>
            obtain ⟨k, rfl, hk, hall, hout, hbe⟩ := hrel
            by_cases hkl : k < l.length
            · have hkk : (k : Int) < (l.length : Int) := by omega
              obtain ⟨g, o, rfl, hg, d0, d1, d2⟩ := ((unveil HQ).below (unveil hbe)) k hkl
              have hgw : g < wr.heap.size := Nat.lt_of_lt_of_le hg (unveil hbe).size
              obtain ⟨m1, m2, m3, m4⟩ := unveil HN5 _ (List.getElem_mem hkl)
              obtain ⟨j1, j2, _, _, j5, _⟩ := unveil HN6 _ (List.getElem_mem hkl)
              have HASK : Hid (askM l[k] = (l[k].bits == 8 * sizM l[k].k && l[k].bit % l[k].bits != 0)) := rfl
              have HDONE : Hid (∀ b m : Nat, l[k].bit = (b : Int) → l[k].bits = (m : Int) → 0 < m → mrkL (l.take k) b m n = (List.range n).map (eiM (l.take (k + 1)))) := fun b m h1 h2 h3 => mrk_done l k hkl b m n h1 h2 h3
              have HASKA : Hid (askM l[k] = true → CL = [2]) := fun h => by have := unveil HCL2; rw [ask_any l k hkl h, if_pos rfl] at this; exact this.symm
              have HASKN : Hid (∀ x, askM l[k] = x → x = false → ∀ (i : Nat) (h : i < l.length), i < k + 1 → askM l[i] = false) := fun x h1 h2 i h hi => by
                by_cases hik : i < k
                · exact unveil hall i h hik
                · obtain rfl : i = k := by omega
                  rw [h1, h2]
              have HFU := veil (full_any l[k].k)
              have hsz := siz_cases l[k].k
              have hsz2 : 0 ≤ sizM l[k].k ∧ sizM l[k].k ≤ 8 := by omega
              clear hsz
              generalize askM l[k] = AK at *
              generalize sizM l[k].k = zk at *
              generalize l[k].k = kk at *
              obtain ⟨b0, hb0⟩ : ∃ b0 : Nat, l[k].bit = (b0 : Int) := ⟨l[k].bit.toNat, by omega⟩
              obtain ⟨b1, hb1⟩ : ∃ b1 : Nat, l[k].bits = (b1 : Int) := ⟨l[k].bits.toNat, by omega⟩
              rw [hb0] at d0 m1 m2 j1 j2 HASK HDONE
              rw [hb1] at d1 m3 m4 j2 HASK HDONE
              clear hb0 hb1
              obtain ⟨hs0, hs1⟩ := hsz2
              have hbm : (b0 : Int).tmod (b1 : Int) = (b0 : Int) % (b1 : Int) := Int.tmod_eq_emod_of_nonneg (by omega)
              have hbn : ¬ (b1 : Int) = 0 := by omega
              have HB5 : Hid (∀ n, Below W3.heap.size W3 (wr.drewN n)) := fun n => below_drewS (unveil hbe) n
              cases hgu : (b1 : Int) == 8 * zk
              · have HA2 := unveil HASK
                rw [hgu, Bool.false_and] at HA2
                have HAF := veil HA2
                clear HA2 HASK HASKA
                go_upto_region 15 with fail
                go_quiet ((go_at_call 78; exact Calls.quiet_of_same (unveil HFU _)))
                have d0' : (wr.drewN nq).cell? ⟨g, o + k * 3, none⟩ = some (.int .i64 (b0 : Int)) := d0
                have d1' : (wr.drewN nq).cell? ⟨g, o + k * 3 + 1, none⟩ = some (.int .i64 (b1 : Int)) := d1
                have HO6 : Hid (Bk (wr.drewN nq) W3.heap.size 3 (inCs (mrkL (l.take k) b0 0 n)).toArray) := by
                  have h := unveil hout
                  rw [mrk_zero] at h
                  rw [mrk_zero]
                  exact h
                have HB6 := veil (unveil HB5 nq)
                have hgx : g < (wr.drewN nq).heap.size := hgw
                generalize wr.drewN nq = wx at *
                clear d0 d1 d2 hout HB5 hbe hgw
                have HIN : Hid (∀ W, Below W3.heap.size W3 W → W.cell? ⟨g, o + k * 3, none⟩ = some (.int .i64 (b0 : Int)) ∧ W.cell? ⟨g, o + k * 3 + 1, none⟩ = some (.int .i64 (b1 : Int)) ∧ g < W.heap.size) := fun W h => by
                  have e0 := (unveil HB6).cell (p := ⟨g, o + k * 3, none⟩) hg
                  have e1 := (unveil HB6).cell (p := ⟨g, o + k * 3 + 1, none⟩) hg
                  exact ⟨(h.cell (p := ⟨g, o + k * 3, none⟩) hg).trans (e0.symm.trans d0'), (h.cell (p := ⟨g, o + k * 3 + 1, none⟩) hg).trans (e1.symm.trans d1'), Nat.lt_of_lt_of_le hg h.size⟩
                go_upto_region 18 with fail
                go_loopw [10] (fun i wy => ∃ (m : Nat), i = .int .i64 ((b0 + m : Nat) : Int) ∧ m ≤ b1 ∧ Hid (Bk wy W3.heap.size 3 (inCs (mrkL (l.take k) b0 m n)).toArray) ∧ Hid (Below W3.heap.size W3 wy)) (fun i wy => b0 + b1 - (intOf i).toNat)
                case atStart => exact ⟨0, rfl, Nat.zero_le _, HO6, HB6⟩
                case round =>
                  obtain ⟨m, rfl, hm, ho, hb⟩ := hrel
                  obtain ⟨c0, c1, c2⟩ := unveil HIN _ (unveil hb)
                  have HD : Hid (∀ n', Below W3.heap.size W3 (wr.drewN n')) := fun n' => below_drewS (unveil hb) n'
                  by_cases hmb : m < b1
                  · have hlt : ((b0 + m : Nat) : Int) < (b0 : Int) + (b1 : Int) := by omega
                    have hix : (b0 + m) / 64 < n := by omega
                    have hq1 : ((b0 + m : Nat) : Int).tdiv 64 = (((b0 + m) / 64 : Nat) : Int) := by rw [Int.tdiv_eq_ediv_of_nonneg (by omega)]; omega
                    have hq2 : ((b0 + m : Nat) : Int) / 64 = (((b0 + m) / 64 : Nat) : Int) := by omega
                    have HSTEP := veil (mrk_step (l.take k) b0 m n hix)
                    have hol := (unveil ho).lt
                    have oc : wr.cell? ⟨W3.heap.size, (b0 + m) / 64, none⟩ = some (.int .i64 ((mrkL (l.take k) b0 m n)[(b0 + m) / 64]'(by rw [mrk_len]; exact hix))) := by
                      rw [(unveil ho).cell]
                      unfold inCs
                      simp [List.getElem?_eq_getElem (show (b0 + m) / 64 < (mrkL (l.take k) b0 m n).length by rw [mrk_len]; exact hix)]
                    have of := (unveil ho).frozen ((b0 + m) / 64)
                    generalize (mrkL (l.take k) b0 m n)[(b0 + m) / 64]'(by rw [mrk_len]; exact hix) = ov at *
                    generalize hIX : (b0 + m) / 64 = ix at *
                    go_upto_region 18 with fail
                    go_quiet (fail)
                    have oc' : (wr.drewN nq).cell? ⟨W3.heap.size, ix, none⟩ = some (.int .i64 ov) := oc
                    have of' : (wr.drewN nq).frozen? ⟨W3.heap.size, ix, none⟩ = false := of
                    have ho' : Hid (Bk (wr.drewN nq) W3.heap.size 3 (inCs (mrkL (l.take k) b0 m n)).toArray) := ho
                    have hb' := veil (unveil HD nq)
                    have hol' : W3.heap.size < (wr.drewN nq).heap.size := hol
                    generalize wr.drewN nq = wz at *
                    clear oc of ho hb hol HD c0 c1 c2
                    go_wp2_with fail
                    go_roundw
                    case rel =>
                      refine ⟨m + 1, by go_num, by omega, ?_, (unveil hb').setCell (p := ⟨W3.heap.size, ix, none⟩) (Nat.le_refl _) _⟩
                      have := (unveil ho').set ix (.int .i64 1)
                      rw [inCs_set, unveil HSTEP] at this
                      exact this
                    case measure => simp [intOf]; omega
                  · obtain rfl : m = b1 := by omega
                    have hlt : ¬ ((b0 + m : Nat) : Int) < (b0 : Int) + (m : Int) := by omega
                    go_upto_region 18 with fail
                    go_quiet (fail)
                    have ho' : Hid (Bk (wr.drewN nq) W3.heap.size 3 (inCs (mrkL (l.take k) b0 m n)).toArray) := ho
                    have hb' := veil (unveil HD nq)
                    generalize wr.drewN nq = wz at *
                    go_wp2_with fail
                    go_roundw
                    case rel =>
                      refine ⟨k + 1, by go_num, by omega, unveil HASKN _ rfl (unveil HAF), ?_, hb'⟩
                      rw [mrk_zero, ← unveil HDONE b0 m rfl rfl (by omega)]
                      exact ho'
                    case measure => simp [intOf]; omega
              · cases hrm : (b0 : Int) % (b1 : Int) != 0
                · have HA2 := unveil HASK
                  rw [hgu, hrm, Bool.and_false] at HA2
                  have HAF := veil HA2
                  clear HA2 HASK HASKA
                  go_upto_region 15 with fail
                  go_quiet ((go_at_call 78; exact Calls.quiet_of_same (unveil HFU _)))
                  have d0' : (wr.drewN nq).cell? ⟨g, o + k * 3, none⟩ = some (.int .i64 (b0 : Int)) := d0
                  have d1' : (wr.drewN nq).cell? ⟨g, o + k * 3 + 1, none⟩ = some (.int .i64 (b1 : Int)) := d1
                  have HO6 : Hid (Bk (wr.drewN nq) W3.heap.size 3 (inCs (mrkL (l.take k) b0 0 n)).toArray) := by
                    have h := unveil hout
                    rw [mrk_zero] at h
                    rw [mrk_zero]
                    exact h
                  have HB6 := veil (unveil HB5 nq)
                  have hgx : g < (wr.drewN nq).heap.size := hgw
                  generalize wr.drewN nq = wx at *
                  clear d0 d1 d2 hout HB5 hbe hgw
                  have HIN : Hid (∀ W, Below W3.heap.size W3 W → W.cell? ⟨g, o + k * 3, none⟩ = some (.int .i64 (b0 : Int)) ∧ W.cell? ⟨g, o + k * 3 + 1, none⟩ = some (.int .i64 (b1 : Int)) ∧ g < W.heap.size) := fun W h => by
                    have e0 := (unveil HB6).cell (p := ⟨g, o + k * 3, none⟩) hg
                    have e1 := (unveil HB6).cell (p := ⟨g, o + k * 3 + 1, none⟩) hg
                    exact ⟨(h.cell (p := ⟨g, o + k * 3, none⟩) hg).trans (e0.symm.trans d0'), (h.cell (p := ⟨g, o + k * 3 + 1, none⟩) hg).trans (e1.symm.trans d1'), Nat.lt_of_lt_of_le hg h.size⟩
                  go_upto_region 18 with fail
                  go_loopw [10] (fun i wy => ∃ (m : Nat), i = .int .i64 ((b0 + m : Nat) : Int) ∧ m ≤ b1 ∧ Hid (Bk wy W3.heap.size 3 (inCs (mrkL (l.take k) b0 m n)).toArray) ∧ Hid (Below W3.heap.size W3 wy)) (fun i wy => b0 + b1 - (intOf i).toNat)
                  case atStart => exact ⟨0, rfl, Nat.zero_le _, HO6, HB6⟩
                  case round =>
                    obtain ⟨m, rfl, hm, ho, hb⟩ := hrel
                    obtain ⟨c0, c1, c2⟩ := unveil HIN _ (unveil hb)
                    have HD : Hid (∀ n', Below W3.heap.size W3 (wr.drewN n')) := fun n' => below_drewS (unveil hb) n'
                    by_cases hmb : m < b1
                    · have hlt : ((b0 + m : Nat) : Int) < (b0 : Int) + (b1 : Int) := by omega
                      have hix : (b0 + m) / 64 < n := by omega
                      have hq1 : ((b0 + m : Nat) : Int).tdiv 64 = (((b0 + m) / 64 : Nat) : Int) := by rw [Int.tdiv_eq_ediv_of_nonneg (by omega)]; omega
                      have hq2 : ((b0 + m : Nat) : Int) / 64 = (((b0 + m) / 64 : Nat) : Int) := by omega
                      have HSTEP := veil (mrk_step (l.take k) b0 m n hix)
                      have hol := (unveil ho).lt
                      have oc : wr.cell? ⟨W3.heap.size, (b0 + m) / 64, none⟩ = some (.int .i64 ((mrkL (l.take k) b0 m n)[(b0 + m) / 64]'(by rw [mrk_len]; exact hix))) := by
                        rw [(unveil ho).cell]
                        unfold inCs
                        simp [List.getElem?_eq_getElem (show (b0 + m) / 64 < (mrkL (l.take k) b0 m n).length by rw [mrk_len]; exact hix)]
                      have of := (unveil ho).frozen ((b0 + m) / 64)
                      generalize (mrkL (l.take k) b0 m n)[(b0 + m) / 64]'(by rw [mrk_len]; exact hix) = ov at *
                      generalize hIX : (b0 + m) / 64 = ix at *
                      go_upto_region 18 with fail
                      go_quiet (fail)
                      have oc' : (wr.drewN nq).cell? ⟨W3.heap.size, ix, none⟩ = some (.int .i64 ov) := oc
                      have of' : (wr.drewN nq).frozen? ⟨W3.heap.size, ix, none⟩ = false := of
                      have ho' : Hid (Bk (wr.drewN nq) W3.heap.size 3 (inCs (mrkL (l.take k) b0 m n)).toArray) := ho
                      have hb' := veil (unveil HD nq)
                      have hol' : W3.heap.size < (wr.drewN nq).heap.size := hol
                      generalize wr.drewN nq = wz at *
                      clear oc of ho hb hol HD c0 c1 c2
                      go_wp2_with fail
                      go_roundw
                      case rel =>
                        refine ⟨m + 1, by go_num, by omega, ?_, (unveil hb').setCell (p := ⟨W3.heap.size, ix, none⟩) (Nat.le_refl _) _⟩
                        have := (unveil ho').set ix (.int .i64 1)
                        rw [inCs_set, unveil HSTEP] at this
                        exact this
                      case measure => simp [intOf]; omega
                    · obtain rfl : m = b1 := by omega
                      have hlt : ¬ ((b0 + m : Nat) : Int) < (b0 : Int) + (m : Int) := by omega
                      go_upto_region 18 with fail
                      go_quiet (fail)
                      have ho' : Hid (Bk (wr.drewN nq) W3.heap.size 3 (inCs (mrkL (l.take k) b0 m n)).toArray) := ho
                      have hb' := veil (unveil HD nq)
                      generalize wr.drewN nq = wz at *
                      go_wp2_with fail
                      go_roundw
                      case rel =>
                        refine ⟨k + 1, by go_num, by omega, unveil HASKN _ rfl (unveil HAF), ?_, hb'⟩
                        rw [mrk_zero, ← unveil HDONE b0 m rfl rfl (by omega)]
                        exact ho'
                      case measure => simp [intOf]; omega
                · have HA2 := unveil HASK
                  rw [hgu, hrm, Bool.and_true] at HA2
                  have HC2 := veil (unveil HASKA HA2)
                  clear HA2 HASK HASKA
                  go_upto_region 15 with fail
                  go_quiet ((go_at_call 78; exact Calls.quiet_of_same (unveil HFU _)))
                  have HB6 := veil (unveil HB5 nq)
                  generalize wr.drewN nq = wx at *
                  go_wp2_with fail
                  refine bodyPost_ret (results_tmp2 rfl _ _ _) rfl ?_
                  rw [unveil HC2]
                  have ho := one_row (W := wx) (x := 2)
                  exact ⟨_, _, rfl, by rw [World.size_alloc]; exact ho, ((unveil HB3).trans ((unveil HB6).mono (unveil HB3).size)).alloc (by have h1 := (unveil HB3).size; have h2 := (unveil HB6).size; omega) _⟩
            · obtain rfl : k = l.length := by omega
              have hCL3 := unveil HCL2
              rw [ask_none l (fun i hi => unveil hall i hi hi)] at hCL3
              simp only [Bool.false_eq_true, if_false] at hCL3
              have ho := unveil hout
              rw [List.take_length, mrk_zero, hCL3] at ho
              have HOO := veil ho
              have hol := ho.lt
              have hcl : CL.length = n := by rw [← hCL3]; simp
              clear ho hCL3 HCL2
              go_wp2_with fail
              refine bodyPost_ret (results_tmp2 rfl _ _ _) rfl ?_
              refine ⟨some ⟨W3.heap.size, 0, none⟩, n, by rw [hcl]; rfl, IsG.of_bk (unveil HOO) hol, (unveil HB3).trans ((unveil hbe).mono (unveil HB3).size)⟩
      · simp only [if_true]
        go_enter Try.func46, Try.ntmps46
        go_upto_region 1 with fail
        generalize (w.alloc (.cells #[.int .i64 t.sh, .int .i64 t.k, .int .i64 t.n, .slice t.op t.of.length t.oc, .slice t.fp t.fs.length t.fc, .bool t.pk, .int .i64 t.al] 25)) = W0 at HT0 ⊢
        obtain ⟨y0, y1, y2, y3, y4, y5, y6⟩ := (unveil HT0).1.seven
        go_upto_region 2 with (go_at_call 24; refine (unveil HO _ (unveil HT0).1 (unveil HT0).2).mono ?_; rintro r W1 ⟨oq, on, oc, rfl, hb1, _⟩; have HT1 := veil (And.intro ((unveil HT0).1.below hb1) ((unveil HT0).2.trans (hb1.mono (unveil HT0).2.size))); clear hb1)
        have HT2 := veil (And.intro ((unveil HT1).1.alloc (.cells #[.int .i64 z, .int .i64 a, .bool false, .slice oq on oc] 32)) ((unveil HT1).2.alloc (unveil HT1).2.size (.cells #[.int .i64 z, .int .i64 a, .bool false, .slice oq on oc] 32)))
        generalize (W1.alloc (.cells #[.int .i64 z, .int .i64 a, .bool false, .slice oq on oc] 32)) = W2 at *
        generalize W1.heap.size = XB at *
        clear y0 y1 y2 y3 y4 y5 y6
        obtain ⟨y0, y1, y2, y3, y4, y5, y6⟩ := (unveil HT2).1.seven
        go_wp2_with (go_at_call 30; refine (unveil HRL _ (unveil HT2).1 (unveil HT2).2).mono ?_; rintro r W3 ⟨v, rfl, hv, hb3⟩; obtain ⟨q, cq, rfl, hq⟩ := SpG.of_own hv; have HB3 := veil ((unveil HT2).2.trans (hb3.mono (unveil HT2).2.size)); clear hv hq hb3)
        refine bodyPost_ret (results_tmp2 rfl _ _ _) rfl ?_
        exact ⟨none, 0, rfl, IsG.nil _ _ _, unveil HB3⟩
    · simp only [if_true]
      go_enter Try.func46, Try.ntmps46
      go_upto_region 1 with fail
      generalize (w.alloc (.cells #[.int .i64 t.sh, .int .i64 t.k, .int .i64 t.n, .slice t.op t.of.length t.oc, .slice t.fp t.fs.length t.fc, .bool t.pk, .int .i64 t.al] 25)) = W0 at HT0 ⊢
      obtain ⟨y0, y1, y2, y3, y4, y5, y6⟩ := (unveil HT0).1.seven
      go_upto_region 2 with (go_at_call 24; refine (unveil HO _ (unveil HT0).1 (unveil HT0).2).mono ?_; rintro r W1 ⟨oq, on, oc, rfl, hb1, _⟩; have HT1 := veil (And.intro ((unveil HT0).1.below hb1) ((unveil HT0).2.trans (hb1.mono (unveil HT0).2.size))); clear hb1)
      have HT2 := veil (And.intro ((unveil HT1).1.alloc (.cells #[.int .i64 z, .int .i64 a, .bool false, .slice oq on oc] 32)) ((unveil HT1).2.alloc (unveil HT1).2.size (.cells #[.int .i64 z, .int .i64 a, .bool false, .slice oq on oc] 32)))
      generalize (W1.alloc (.cells #[.int .i64 z, .int .i64 a, .bool false, .slice oq on oc] 32)) = W2 at *
      generalize W1.heap.size = XB at *
      clear y0 y1 y2 y3 y4 y5 y6
      obtain ⟨y0, y1, y2, y3, y4, y5, y6⟩ := (unveil HT2).1.seven
      go_wp2_with fail
      refine bodyPost_ret (results_tmp2 rfl _ _ _) rfl ?_
      exact ⟨none, 0, rfl, IsG.nil _ _ _, (unveil HT2).2⟩
  · simp only [if_true]
    go_enter Try.func46, Try.ntmps46
    go_upto_region 1 with fail
    generalize (w.alloc (.cells #[.int .i64 t.sh, .int .i64 t.k, .int .i64 t.n, .slice t.op t.of.length t.oc, .slice t.fp t.fs.length t.fc, .bool t.pk, .int .i64 t.al] 25)) = W0 at HT0 ⊢
    obtain ⟨y0, y1, y2, y3, y4, y5, y6⟩ := (unveil HT0).1.seven
    go_upto_region 2 with (go_at_call 24; refine (unveil HO _ (unveil HT0).1 (unveil HT0).2).mono ?_; rintro r W1 ⟨oq, on, oc, rfl, hb1, _⟩; have HT1 := veil (And.intro ((unveil HT0).1.below hb1) ((unveil HT0).2.trans (hb1.mono (unveil HT0).2.size))); clear hb1)
    have HT2 := veil (And.intro ((unveil HT1).1.alloc (.cells #[.int .i64 z, .int .i64 a, .bool false, .slice oq on oc] 32)) ((unveil HT1).2.alloc (unveil HT1).2.size (.cells #[.int .i64 z, .int .i64 a, .bool false, .slice oq on oc] 32)))
    generalize (W1.alloc (.cells #[.int .i64 z, .int .i64 a, .bool false, .slice oq on oc] 32)) = W2 at *
    generalize W1.heap.size = XB at *
    clear y0 y1 y2 y3 y4 y5 y6
    obtain ⟨y0, y1, y2, y3, y4, y5, y6⟩ := (unveil HT2).1.seven
    go_wp2_with fail
    refine bodyPost_ret (results_tmp2 rfl _ _ _) rfl ?_
    exact ⟨none, 0, rfl, IsG.nil _ _ _, (unveil HT2).2⟩
end Go.Proofs.Ytaffldhmgifdoaa
