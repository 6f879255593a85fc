/-
  The reference's body: may tokens be a macro's body?
-/
import Derived.Test.YticiddcgafhkhaaGreatDoorUg
import Derived.Test.YticiddcgafhkhaaGreatDoorReg
import Derived.Test.YticiddcgafhkhaaGreatDoorNx
import Derived.Deep.DeepCutAuto
namespace Go.Proofs.YticiddcgafhkhaaGreatDoor
open Go Go.RowKit
set_option linter.unusedVariables false
set_option linter.unusedSimpArgs false

def rnx (more : Bool) (ps : List (List UInt8)) : Option Gt → Bool
  | some t => rparB more ps t
  | none => false
def rokB (fn more : Bool) (ps : List (List UInt8)) (l : List Gt) (i : Nat) : Bool :=
  (!decide (nearS l i = vaS) || more) && (!(fn && decide (nearS l i = [35])) || rnx more ps l[i + 1]?)
def rbodyB (fn more : Bool) (ps : List (List UInt8)) (l : List Gt) : Bool :=
  decide (l.length ≤ 500) && (rspeltB l && (!decide (nearS l 0 = [35, 35]) && (!decide (nearS l ((l.length : Int) - 1) = [35, 35]) && (List.range l.length).all (rokB fn more ps l))))
theorem nearS_at {l : List Gt} {k : Nat} (h : k < l.length) : nearS l (k : Int) = l[k].s := by
  unfold nearS
  rw [if_neg (by omega)]
  simp [h]
theorem nearS_last {l : List Gt} (h : 0 < l.length) : nearS l ((l.length : Int) - 1) = (l[l.length - 1]'(by omega)).s := by
  have := nearS_at (l := l) (k := l.length - 1) (by omega)
  rw [← this]
  congr 1
  omega
theorem TkG.at {B : Nat} {W : World} {p : Option Addr} {n cap : Nat} {l : List Gt} (h : TkG B W (.slice p n cap) l) (k : Nat) (hk : k < l.length) : ∃ g o, p = some ⟨g, o, none⟩ ∧ g < B ∧ SixAt W g (o + k * 6) l[k] := by
  obtain ⟨p', cap', e, hc⟩ := h
  obtain ⟨rfl, _, _⟩ : p = p' ∧ n = l.length ∧ cap = cap' := by simpa using e
  obtain ⟨g, o, hp, hg, c⟩ := hc k hk
  exact ⟨g, o, hp, hg, c⟩
theorem SixAt.below {W W' : World} {B g o : Nat} {t : Gt} (h : SixAt W g o t) (hb : Below B W W') (hg : g < B) : SixAt W' g o t :=
  ⟨(hb.cell (p := ⟨g, o, none⟩) hg).trans h.1, (hb.cell (p := ⟨g, o + 1, none⟩) hg).trans h.2.1, (hb.cell (p := ⟨g, o + 2, none⟩) hg).trans h.2.2.1, (hb.cell (p := ⟨g, o + 3, none⟩) hg).trans h.2.2.2.1, (hb.cell (p := ⟨g, o + 4, none⟩) hg).trans h.2.2.2.2.1, (hb.cell (p := ⟨g, o + 5, none⟩) hg).trans h.2.2.2.2.2⟩

set_option maxRecDepth 100000 in
set_option maxHeartbeats 8000000 in
theorem rbody_any (nm pv bv : Value) (fn more : Bool) (ps : List (List UInt8)) (l : List Gt) (w : World) (hsp : l.length ≤ 500 → (spG l).length ≤ 140737488355328) (hl : l.length ≤ 140737488355328) (hp : ps.length ≤ 140737488355328)
    (hpv : StG w.heap.size w pv ps) (hbv : TkG w.heap.size w bv l) :
    Calls Tryz.prog 44 #[.agg #[nm, .bool fn, pv, .bool more, bv]] w fun e w' => e = .returned (.bool (rbodyB fn more ps l)) ∧ Below w.heap.size w w' := by
  have hb0 : Below w.heap.size w (w.alloc (.cells #[nm, .bool fn, pv, .bool more, bv] 33)) := (Below.refl _ w).alloc (Nat.le_refl _) _
  have hz0 : (w.alloc (.cells #[nm, .bool fn, pv, .bool more, bv] 33)).heap.size = w.heap.size + 1 := by simp
  have HF := hide (five_new w nm pv bv fn more)
  have HPV := hide hpv
  have HBV := hide hbv
  have HB0 := hide hb0
  have hbs := hbv
  obtain ⟨p, cap, hbe, _⟩ := hbs
  have HRB : Hid (rbodyB fn more ps l = (decide (l.length ≤ 500) && (rspeltB l && (!decide (nearS l 0 = [35, 35]) && (!decide (nearS l ((l.length : Int) - 1) = [35, 35]) && (List.range l.length).all (rokB fn more ps l)))))) := rfl
  generalize rbodyB fn more ps l = R at *
  subst hbe
  by_cases h5 : l.length ≤ 500
  · have i5 : ¬ (500 : Int) < (l.length : Int) := by omega
    have HAS := hide (rSpelt_any _ l (w.alloc (.cells #[nm, .bool fn, pv, .bool more, .slice p l.length cap] 33)) (by omega) (hsp h5) ((hbv.below hb0).mono (by omega)))
    have HR2 : Hid (R = (rspeltB l && (!decide (nearS l 0 = [35, 35]) && (!decide (nearS l ((l.length : Int) - 1) = [35, 35]) && (List.range l.length).all (rokB fn more ps l))))) := by rw [Hid, unhide HRB, decide_eq_true h5, Bool.true_and]
    clear HRB hsp hpv hbv hb0
    generalize rspeltB l = S at *
    go_enter Tryz.func44, Tryz.ntmps44
    have c4 := (unhide HF).2.2.2.2
    go_wp2_with fail
    refine (unhide HAS).mono ?_
    rintro e W1 ⟨rfl, hb1⟩
    have hz1 := hb1.size
    rw [hz0] at hz1 hb1
    have hF1 := (unhide HF).below hb1 (by omega)
    have HF1 := hide hF1
    have hB1 : Below w.heap.size w W1 := (unhide HB0).trans (hb1.mono (by omega))
    have HB1 := hide hB1
    have HTV1 := hide ((unhide HBV).below hB1)
    obtain ⟨d0, d1, d2, d3, d4⟩ := hF1
    clear c4 HAS HF HB0 hb1 hB1
    cases S
    · go_wp2
      go_ret
      exact ⟨by rw [unhide HR2]; rfl, unhide HB1⟩
    · have HR3 : Hid (R = (!decide (nearS l 0 = [35, 35]) && (!decide (nearS l ((l.length : Int) - 1) = [35, 35]) && (List.range l.length).all (rokB fn more ps l)))) := unhide HR2
      clear HR2
      by_cases hl0 : l.length = 0
      · obtain rfl : l = [] := List.eq_nil_of_length_eq_zero hl0
        simp only [List.length_nil] at *
        go_wp2
        go_loopg [5] 0 (fun gk i wr => i = .int .i64 0 ∧ wr = W1)
        case atStart => exact ⟨rfl, rfl⟩
        case round =>
          obtain ⟨rfl, hww⟩ := hrel
          obtain rfl := hww.symm
          go_wp2
          go_ret
          exact ⟨by rw [unhide HR3]; rfl, unhide HB1⟩
      · have hpos : 0 < l.length := by omega
        have i0 : (0 : Int) < (l.length : Int) := by omega
        obtain ⟨g, o, rfl, hg, a0⟩ := (unhide HTV1).at 0 hpos
        obtain ⟨g', o', hgo, _, a9⟩ := (unhide HTV1).at (l.length - 1) (by omega)
        obtain ⟨rfl, rfl⟩ : g = g' ∧ o = o' := by simpa using hgo
        have a01 := a0.2.1
        have a91 := a9.2.1
        simp only [Nat.zero_mul, Nat.add_zero] at a01
        have e0 := beq_list l[0].s [35, 35]
        have e9 := beq_list (l[l.length - 1]'(by omega)).s [35, 35]
        rw [nearS_last hpos, show nearS l 0 = l[0].s from nearS_at hpos] at HR3
        have k1 : ((l.length : Int) - 1).toNat = l.length - 1 := by omega
        have k2 : (0 : Int) ≤ (l.length : Int) - 1 := by omega
        have k3 : (l.length : Int) - 1 < (l.length : Int) := by omega
        clear a0 a9 hgo
        generalize l[0].s = X0 at *
        generalize (l[l.length - 1]'(by omega)).s = X9 at *
        generalize decide (X0 = [35, 35]) = C0 at *
        generalize decide (X9 = [35, 35]) = C9 at *
        cases C0
        · cases C9
          · have HR4 : Hid (R = (List.range l.length).all (rokB fn more ps l)) := unhide HR3
            clear HR3
            go_wp2
            clear e0 e9 a01 a91 k1 k2 k3 i0
            go_loopg [5] l.length (fun gk i wr => ∃ k : Nat, gk = l.length - k ∧ i = .int .i64 k ∧ k ≤ l.length ∧ Hid (∀ j, j < k → rokB fn more ps l j = true) ∧ Hid (Below (w.heap.size + 1) W1 wr))
            case atStart => exact ⟨0, rfl, rfl, by omega, fun j hj => by omega, Below.refl _ _⟩
            case round =>
              obtain ⟨k, rfl, rfl, hk, hok, hbb⟩ := hrel
              have hwr := (unhide hbb).size
              have hBw : Below w.heap.size w wr := (unhide HB1).trans ((unhide hbb).mono (by omega))
              have HBw := hide hBw
              clear d0 d1 d2 d3 d4
              obtain ⟨d0, d1, d2, d3, d4⟩ := (unhide HF1).below (unhide hbb) (by omega)
              by_cases hlt : k < l.length
              · have i1 : (k : Int) < (l.length : Int) := by omega
                have hwp : IntKind.i64.wrap ((k : Int) + 1) = (k : Int) + 1 := by rw [IntKind.wrap_i64]; omega
                obtain ⟨g', o', hgo, _, a0⟩ := ((unhide HBV).below hBw).at k hlt
                obtain ⟨rfl, rfl⟩ : g = g' ∧ o = o' := by simpa using hgo
                have a1 := a0.2.1
                have hX := nearS_at hlt
                have HOK : Hid (rokB fn more ps l k = ((!decide (nearS l k = vaS) || more) && (!(fn && decide (nearS l k = [35])) || rnx more ps l[k + 1]?))) := rfl
                have ev := beq_list l[k].s vaS
                have es := beq_list l[k].s [35]
                rw [hX] at HOK
                have hf : Hid (rokB fn more ps l k = false → R = false) := fun h => by
                  rw [unhide HR4, List.all_eq_false]
                  exact ⟨k, List.mem_range.2 hlt, by simp [h]⟩
                have hnx : Hid (rokB fn more ps l k = true → ∀ j, j < k + 1 → rokB fn more ps l j = true) := fun h j hj => by
                  by_cases hjk : j = k
                  · subst hjk; exact h
                  · exact unhide hok j (by omega)
                clear hok a0 hgo hX
                generalize rokB fn more ps l k = O at *
                generalize l[k].s = X at *
                generalize decide (X = vaS) = DV at *
                generalize decide (X = [35]) = DS at *
                have hcs : ∃ B : Bool, Hid ((!(fn && DS) || rnx more ps l[k + 1]?) = !B) ∧ ((fn = false ∧ B = false) ∨ (fn = true ∧ DS = false ∧ B = false) ∨ (fn = true ∧ DS = true ∧ k + 1 = l.length ∧ B = true) ∨ (fn = true ∧ DS = true ∧ ∃ h : k + 1 < l.length, B = !rparB more ps l[k + 1])) := by
                  cases fn
                  · exact ⟨false, rfl, .inl ⟨rfl, rfl⟩⟩
                  · cases DS
                    · exact ⟨false, rfl, .inr (.inl ⟨rfl, rfl, rfl⟩)⟩
                    · by_cases hk1 : k + 1 < l.length
                      · exact ⟨!rparB more ps l[k + 1], by simp [Hid, rnx, hk1], .inr (.inr (.inr ⟨rfl, rfl, hk1, rfl⟩))⟩
                      · exact ⟨true, by simp [Hid, rnx, hk1], .inr (.inr (.inl ⟨rfl, rfl, by omega, rfl⟩))⟩
                obtain ⟨B, hBe, hcs⟩ := hcs
                unfold vaS at ev
                by_cases hva : DV = true ∧ more = false
                · obtain ⟨rfl, rfl⟩ := hva
                  have HO : Hid (O = false) := unhide HOK
                  go_wp2
                  go_ret
                  exact ⟨by rw [unhide hf (unhide HO)]; rfl, unhide HBw⟩
                · have HO : Hid (O = !B) := by
                    rw [Hid, unhide HOK, unhide hBe]
                    cases DV <;> cases more <;> simp at hva ⊢
                  have hrest : DV = false ∨ (DV = true ∧ more = true) := by cases DV <;> cases more <;> simp at hva ⊢
                  clear HOK hva hBe
                  have hbd : Hid (Below (w.heap.size + 1) W1 wr.drew) := (unhide hbb).drew
                  go_upto_region 8 with fail
                  go_cut [52] from 42 to 52 (fun c wx => c = .bool false ∧ wx = wr)
                  case first =>
                    clear hbd HO hcs hnx hf HF1 HR4 HBV HPV
                    rcases hrest with rfl | ⟨rfl, rfl⟩
                    all_goals
                      go_wp2_with fail
                      go_meet
                      case rel => exact ⟨rfl, rfl⟩
                  case rest =>
                    obtain ⟨rfl, hww⟩ := hcut
                    obtain rfl := hww.symm
                    clear hrest ev
                    rcases hcs with ⟨rfl, rfl⟩ | ⟨rfl, rfl, rfl⟩ | ⟨rfl, rfl, hk1, rfl⟩ | ⟨rfl, rfl, hk1, rfl⟩
                    · go_upto_region 10 with fail
                      go_quiet (fail)
                      go_wp2
                      go_roundg (l.length - (k + 1))
                      case measure => omega
                      case rel => exact ⟨k + 1, rfl, by go_num, by omega, unhide hnx (unhide HO), below_drewK (unhide hbb) _⟩
                    · go_upto_region 10 with fail
                      go_quiet (fail)
                      go_wp2
                      go_roundg (l.length - (k + 1))
                      case measure => omega
                      case rel => exact ⟨k + 1, rfl, by go_num, by omega, unhide hnx (unhide HO), below_drewK (unhide hbb) _⟩
                    · have i2 : (((k : Int) + 1) == (l.length : Int)) = true := by rw [beq_iff_eq]; omega
                      clear hk1
                      go_upto_region 10 with fail
                      go_quiet (fail)
                      go_wp2
                      go_ret
                      exact ⟨by rw [unhide hf (unhide HO)]; rfl, below_drewK (unhide HBw) _⟩
                    · have i2 : (((k : Int) + 1) == (l.length : Int)) = false := by rw [beq_eq_false_iff_ne]; omega
                      have i3 : ((k : Int) + 1) < (l.length : Int) := by omega
                      have i4 : ((k : Int) + 1).toNat = k + 1 := by omega
                      have i5' : (0 : Int) ≤ (k : Int) + 1 := by omega
                      have HPA := hide (rParam_any nm pv (.slice (some ⟨g, o, none⟩) l.length cap) true more ps l[k + 1] wr.drew hp (((unhide HPV).below (hBw.drew)).mono (by show _ ≤ wr.heap.size; omega)))
                      obtain ⟨g', o', hgo, _, b0, b1, b2, b3, b4, b5⟩ := ((unhide HBV).below hBw).at (k + 1) hk1
                      obtain ⟨rfl, rfl⟩ : g = g' ∧ o = o' := by simpa using hgo
                      clear hgo
                      generalize hV : rparB more ps l[k + 1] = V at *
                      clear hV
                      generalize l[k + 1] = t at *
                      simp only [gC] at HPA
                      go_upto_region 10 with fail
                      go_cut [78] from 53 to 78 (fun c wx => c = .bool (!V) ∧ Hid (Below (w.heap.size + 1) W1 wx))
                      case first =>
                        clear hnx hf HF1 HR4 HBV HPV HBw HO HB1 hbb hpos hl0 h5 hl
                        refine wp_region_still_plain 22 (by kernel_rfl) (by kernel_rfl) ?_
                        simp only [List.take_succ_cons, List.take_zero, List.drop_succ_cons, List.drop_zero]
                        refine still_first (fun K hK => ?_)
                        iterate 22 (refine still_next hK (fun K1 hK1 => ?_); clear hK K; revert K1 hK1; intro K hK; go_simp)
                        refine still_last hK ?_
                        clear hK K
                        go_wp2_with fail
                        refine (unhide HPA).mono ?_
                        rintro e W5 ⟨⟨r, rfl, hr⟩, hbt⟩
                        have hbt2 : Hid (Below (w.heap.size + 1) W1 W5) := (unhide hbd).trans (hbt.mono (by show _ ≤ wr.heap.size; omega))
                        clear hbt HPA b0 b1 b2 b3 b4 b5
                        go_wp2_with fail
                        go_meet
                        case rel => exact ⟨rfl, hbt2⟩
                      case rest =>
                        obtain ⟨rfl, hbx⟩ := hcut
                        cases V
                        · go_wp2
                          go_ret
                          exact ⟨by rw [unhide hf (unhide HO)]; rfl, (unhide HB1).trans ((unhide hbx).mono (by omega))⟩
                        · go_wp2
                          go_roundg (l.length - (k + 1))
                          case measure => omega
                          case rel => exact ⟨k + 1, rfl, by go_num, by omega, unhide hnx (unhide HO), hbx⟩
              · have i1 : ¬ (k : Int) < (l.length : Int) := by omega
                have HT : Hid (R = true) := by
                  rw [Hid, unhide HR4, List.all_eq_true]
                  intro j hj
                  exact unhide hok j (by have := List.mem_range.1 hj; omega)
                go_wp2
                go_ret
                exact ⟨by rw [unhide HT]; rfl, unhide HBw⟩
          · go_wp2
            go_ret
            exact ⟨by rw [unhide HR3]; rfl, unhide HB1⟩
        · go_wp2
          go_ret
          exact ⟨by rw [unhide HR3]; rfl, unhide HB1⟩
  · have i5 : (500 : Int) < (l.length : Int) := by omega
    have HR2 : Hid (R = false) := by rw [Hid, unhide HRB, decide_eq_false h5, Bool.false_and]
    have c4 := (unhide HF).2.2.2.2
    go_enter Tryz.func44, Tryz.ntmps44
    go_wp2
    go_ret
    exact ⟨by rw [unhide HR2]; rfl, unhide HB0⟩
end Go.Proofs.YticiddcgafhkhaaGreatDoor
