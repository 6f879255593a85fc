/-
  burintop.TopClasses walked.
-/
import Derived.Test.YtaffldhmgifdoaaIh
namespace Go.Proofs.Ytaffldhmgifdoaa
open Go Go.RowKit Go.Shelf
attribute [local go_sem] Oper.semAt_some
set_option linter.unusedVariables false
set_option linter.unusedSimpArgs false

theorem tyB_new (w : World) (t : ShT) : TyB (w.alloc (.cells t.cs 25)) w.heap.size t ∧ Below w.heap.size w (w.alloc (.cells t.cs 25)) := ⟨TyB.new w t, new1_below w _⟩
theorem any_take {α : Type} (f : α → Bool) (l : List α) (i : Nat) (h : i < l.length) : (l.take (i + 1)).any f = ((l.take i).any f || f l[i]) := by
  rw [List.take_add_one, List.getElem?_eq_getElem h, List.any_append]
  simp
theorem eiM_two (l : List Mb) (i : Nat) : (eiM l i == 2) = false := by
  unfold eiM
  split <;> rfl
theorem eiM_one (l : List Mb) (i : Nat) : (eiM l i == 1) = l.any (hereM (8 * (i : Int))) := by
  unfold eiM
  cases l.any (hereM (8 * (i : Int))) <;> rfl
set_option maxRecDepth 100000 in
set_option maxHeartbeats 40000000 in
theorem topClasses_walk (t : ShT) (w : World) (hin : t.In w.heap.size w) :
    Calls Try.prog 21 #[t.v] w fun e w' => e = .returned (.bool true) ∧ Below w.heap.size w w' := by
  have HSH := veil shownClass_any
  have HC : Hid (∀ W, Below w.heap.size w W → Calls Try.prog 45 #[t.v] W (ClP W (lokM t).1.2.2 (lokM t).2)) := fun W h => Classes_any t W ((hin.below h).mono h.size)
  have HL : Hid (∀ W, Below w.heap.size w W → Calls Try.prog 29 #[t.v] W fun e w' => MbP W (leaL t).1 (leaL t).2 e w') := fun W h => Leaves_any t W ((hin.below h).mono h.size)
  have HZ : Hid (∀ W, Below w.heap.size w W → Calls Try.prog 23 #[t.v] W fun r w' => r = .returned (.tuple #[.int .i64 (chkM t).1.1, .int .i64 (chkM t).1.2, .int .i64 (chkM t).2]) ∧ Below W.heap.size W w') := fun W h => Size10_any t W ((hin.below h).mono h.size)
  have HF := veil (@cls_facts t)
  have HE : Hid (((lokM t).2 == 0) = false → (lokM t).1.2.2 = []) := fun h => by
    unfold lokM at h ⊢
    split
    · rfl
    · split
      · rfl
      · split
        · rfl
        · rename_i h1 h2 h3
          rw [if_neg h1, if_neg h2, if_neg h3] at h
          cases h
  have HT0 := veil (tyB_new w t)
  clear hin
  generalize lokM t = L at *
  generalize leaL t = LE at *
  generalize chkM t = C at *
  obtain ⟨⟨lz, la, cl⟩, er⟩ := L
  obtain ⟨⟨z, a⟩, ec⟩ := C
  obtain ⟨l, el⟩ := LE
  unfold ClP at HC
  unfold ShT.v ShT.cs at *
  simp only at *
  go_enter Try.func21, Try.ntmps21
  go_upto_region 1 with fail
  generalize (w.alloc (.cells #[.int .i64 t.sh, .int .i64 t.k, .int .i64 t.n, .slice t.op t.of.length t.oc, .slice t.fp t.fs.length t.fc, .bool t.pk, .int .i64 t.al] 25)) = W0 at HT0 ⊢
  go_upto_region 2 with (go_at_call 51; refine (unveil HSH _).mono ?_; rintro e W1 ⟨rfl, hb1⟩; have HT1 := veil (And.intro ((unveil HT0).1.below hb1) ((unveil HT0).2.trans (hb1.mono (unveil HT0).2.size))); clear hb1)
  obtain ⟨y0, y1, y2, y3, y4, y5, y6⟩ := (unveil HT1).1.seven
  go_upto_region 3 with (go_at_call 45; refine (unveil HC _ (unveil HT1).2).mono ?_; rintro e W2 ⟨p, c, rfl, hi, hb2⟩; have HT2 := veil (And.intro ((unveil HT1).1.below hb2) ((unveil HT1).2.trans (hb2.mono (unveil HT1).2.size))); have HI2 := veil hi; clear hi hb2)
  clear y0 y1 y2 y3 y4 y5 y6
  obtain ⟨y0, y1, y2, y3, y4, y5, y6⟩ := (unveil HT2).1.seven
  go_upto_region 4 with (go_at_call 29; refine (unveil HL _ (unveil HT2).2).mono ?_; rintro e W3 ⟨v, rfl, hv, hb3⟩; obtain ⟨q, cq, rfl, hq⟩ := SpG.of_own hv; have HQ3 := veil hq; have HI3 := veil ((unveil HI2).size hb3 hb3.size); have HT3 := veil (And.intro ((unveil HT2).1.below hb3) ((unveil HT2).2.trans (hb3.mono (unveil HT2).2.size))); clear hv hq hb3)
  clear y0 y1 y2 y3 y4 y5 y6
  obtain ⟨y0, y1, y2, y3, y4, y5, y6⟩ := (unveil HT3).1.seven
  go_upto_region 5 with (go_at_call 23; refine (unveil HZ _ (unveil HT3).2).mono ?_; rintro e W4 ⟨rfl, hb4⟩; have HQ4 := veil (((unveil HQ3).below hb4).mono hb4.size); have HI4 := veil ((unveil HI3).size hb4 hb4.size); have HB4 := veil ((unveil HT3).2.trans (hb4.mono (unveil HT3).2.size)); clear hb4)
  clear y0 y1 y2 y3 y4 y5 y6 HC HL HZ HSH HT0 HT1 HT2 HT3 HI2 HI3 HQ3
  cases he : er == 0
  · obtain rfl := unveil HE he
    have he' : (er != 0) = true := by simp only [bne, he]; rfl
    clear HE HF
    go_wp2_with fail
    go_ret
    exact ⟨by simp, unveil HB4⟩
  · have he0 : er = 0 := by simpa using he
    subst he0
    obtain ⟨f1, f2, f3, f4, f5, f6, f7, f8, f9⟩ := unveil HF rfl
    obtain rfl : ec = 0 := by simpa using f1
    obtain rfl : el = 0 := by simpa using f2
    clear HE HF f1 f2 f8 he
    rcases f9 with rfl | ⟨hz16, hcl⟩
    · obtain ⟨g, o, rfl, hg, c0⟩ := (unveil HI4).at 0 (by decide)
      simp only [List.getElem_cons_zero, Nat.add_zero] at c0
      go_wp2_with fail
      go_ret
      exact ⟨by simp, unveil HB4⟩
    · obtain ⟨zn, rfl⟩ : ∃ n : Nat, z = (n : Int) := ⟨z.toNat, by omega⟩
      have hcll : cl.length = nEi zn := by rw [hcl]; simp
      simp only [Int.toNat_natCast] at hcl
      have HCL := veil hcl
      have HF7 := veil f7
      clear hcl f5 f7
      have hc1 : 1 ≤ cl.length ∧ cl.length ≤ 2 := by unfold nEi at hcll; omega
      obtain ⟨hc1, hc2⟩ := hc1
      have hq : ((zn : Int) + 7).tdiv 8 = (cl.length : Int) := by rw [Int.tdiv_eq_ediv_of_nonneg (by omega), hcll]; unfold nEi; omega
      have hq2 : ((zn : Int) + 7) / 8 = (cl.length : Int) := by rw [hcll]; unfold nEi; omega
      have HAT : Hid (∀ (k : Nat) (h : k < cl.length), cl[k] = eiM l k) := fun k h => by
        have e := unveil HCL
        have e2 : cl[k]? = ((List.range (nEi zn)).map (eiM l))[k]? := by rw [← e]
        rw [List.getElem?_eq_getElem h, List.getElem?_map, List.getElem?_eq_getElem (by simp; omega)] at e2
        simpa using e2
      obtain ⟨g, o, hp, hg, c0⟩ := (unveil HI4).at 0 (by omega)
      rw [unveil HAT 0 (by omega)] at c0
      have h02 := eiM_two l 0
      generalize eiM l 0 = x0 at *
      have hn1 : ((cl.length : Int) == 0) = false := by rw [beq_eq_false_iff_ne]; omega
      have hne2 : ((cl.length : Int) != (cl.length : Int)) = false := by simp
      have hng : ¬ (zn : Int) > 16 := by omega
      simp only [Nat.add_zero] at c0
      rw [hp]
      clear hcll f3 f4
      go_wp2_with fail
      clear c0 hg h02
      go_loopw [11] (fun i wr => ∃ (k : Nat), i = .int .i64 k ∧ k ≤ cl.length ∧ Hid (Below W4.heap.size W4 wr)) (fun i wr => cl.length - (intOf i).toNat)
      case atStart => exact ⟨0, rfl, Nat.zero_le _, Below.refl _ _⟩
      case round =>
        obtain ⟨k, rfl, hk, hbe⟩ := hrel
        by_cases hkl : k < cl.length
        · have hkk : (k : Int) < (cl.length : Int) := by omega
          obtain ⟨g', o', hp', hg', ck⟩ := ((unveil HI4).below (unveil hbe)).at k hkl
          obtain ⟨rfl, rfl⟩ : g = g' ∧ o = o' := by rw [hp] at hp'; cases hp'; exact ⟨rfl, rfl⟩
          have hck := unveil HAT k hkl
          rw [hck] at ck
          have HE1 := veil (eiM_one l k)
          generalize eiM l k = xk at *
          have HCK := veil ck
          clear ck hp' hck hg'
          go_upto_region 18 with fail
          go_loopw [12, 13] (fun sv i wx => ∃ (j : Nat), sv = .bool ((l.take j).any (hereM (8 * (k : Int)))) ∧ i = .int .i64 j ∧ j ≤ l.length ∧ Hid (Below wr.heap.size wr wx)) (fun sv i wx => l.length - (intOf i).toNat)
          case atStart => exact ⟨0, rfl, rfl, Nat.zero_le _, Below.refl _ _⟩
          case round =>
            obtain ⟨j, rfl, rfl, hj, hbx⟩ := hrel
            by_cases hjl : j < l.length
            · have hjj : (j : Int) < (l.length : Int) := by omega
              obtain ⟨gq, oq, rfl, hgq, d0, d1, d2⟩ := (unveil HQ4) j hjl
              have hbw : Below W4.heap.size W4 wr := (unveil hbe).trans ((unveil hbx).mono (unveil hbe).size)
              replace d0 := (hbw.cell (p := ⟨gq, oq + j * 3, none⟩) hgq).trans d0
              replace d1 := (hbw.cell (p := ⟨gq, oq + j * 3 + 1, none⟩) hgq).trans d1
              have hgx : gq < wr.heap.size := Nat.lt_of_lt_of_le hgq hbw.size
              obtain ⟨n1, n2, n3, n4⟩ := (unveil HF7) _ (List.getElem_mem hjl)
              have HAN := veil (any_take (hereM (8 * (k : Int))) l j hjl)
              have HHE : Hid (hereM (8 * (k : Int)) l[j] = (decide (l[j].bit < 64 * (k : Int) + 64) && decide (l[j].bit + l[j].bits > 64 * (k : Int)))) := by
                unfold Hid hereM
                congr 1 <;> (congr 1; apply propext; omega)
              generalize (l.take j).any (hereM (8 * (k : Int))) = A0 at *
              generalize hereM (8 * (k : Int)) l[j] = H at *
              generalize l[j].bit = b0 at *
              generalize l[j].bits = b1 at *
              clear hgq d2 hbw
              have FIN := veil (fun m => below_drewS (unveil hbx) m)
              cases A0
              · cases hd : decide (b0 < 64 * (k : Int) + 64)
                all_goals (
                  go_upto_region 21 with fail
                  go_quiet (fail)
                  go_wp2_with fail
                  go_roundw
                  case rel =>
                    refine ⟨j + 1, ?_, by go_num, by omega, unveil FIN _⟩
                    rw [unveil HAN, unveil HHE]
                    simp [hd]
                  case measure => simp [intOf]; omega)
              · go_upto_region 21 with fail
                go_quiet (fail)
                go_wp2_with fail
                go_roundw
                case rel =>
                  refine ⟨j + 1, ?_, by go_num, by omega, unveil FIN _⟩
                  rw [unveil HAN]
                  rfl
                case measure => simp [intOf]; omega
            · obtain rfl : j = l.length := by omega
              rw [List.take_length]
              have HB5 : Hid (Below W4.heap.size W4 wr) := (unveil hbe).trans ((unveil hbx).mono (unveil hbe).size)
              have ck := ((unveil hbx).cell (p := ⟨g, o + k, none⟩) (World.block_lt_of_cell? _ _ (unveil HCK))).trans (unveil HCK)
              have hlg := World.block_lt_of_cell? wr _ ck
              have HE2 := unveil HE1
              generalize l.any (hereM (8 * (k : Int))) = A at *
              clear HE1 hbx hbe
              cases A
              · have hx1 : (xk == 1) = false := HE2
                clear HE2
                go_wp2_with fail
                go_roundw
                case rel => exact ⟨k + 1, by go_num, by omega, unveil HB5⟩
                case measure => simp [intOf]; omega
              · have hx1 : xk = 1 := by simpa using HE2
                subst hx1
                clear HE2
                go_wp2_with fail
                go_roundw
                case rel => exact ⟨k + 1, by go_num, by omega, unveil HB5⟩
                case measure => simp [intOf]; omega
        · obtain rfl : k = cl.length := by omega
          go_wp2_with fail
          go_ret
          exact ⟨rfl, (unveil HB4).trans ((unveil hbe).mono (unveil HB4).size)⟩
end Go.Proofs.Ytaffldhmgifdoaa
