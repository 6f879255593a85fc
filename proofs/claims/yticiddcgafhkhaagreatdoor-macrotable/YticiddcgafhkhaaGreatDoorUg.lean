/-
  The document's answer: isName.
  The document's answer: Equal.
  The document's answer: Bare.
  The document's answer: spelt.
  The document's answer: param.
-/
import Derived.Test.YticiddcgafhkhaaGreatDoorUa
import Derived.Test.YticiddcgafhkhaaGreatDoorR8
import Derived.Test.YticiddcgafhkhaaGreatDoorUF
import Derived.Test.YticiddcgafhkhaaGreatDoorUc
import Derived.Test.YticiddcgafhkhaaGreatDoorK2
import Derived.Test.YticiddcgafhkhaaGreatDoorLa
namespace Go.Proofs.YticiddcgafhkhaaGreatDoor
open Go Go.RowKit
set_option linter.unusedVariables false
set_option linter.unusedSimpArgs false

set_option maxRecDepth 100000 in
set_option maxHeartbeats 2000000 in
theorem rIsName_any (s : ByteArray) (w : World) (hs : s.size ≤ 140737488355328) :
    Calls Tryz.prog 43 #[.string s] w fun e w' => e = .returned (.bool (nmB s)) ∧ Below w.heap.size w w' := by
  have hO := rOne_any s w hs
  obtain ⟨k, a, b, n, p, q, ok, e1, e2⟩ := one_parts s
  rw [e1] at hO
  have HO := hide hO
  clear hO e1
  generalize nmB s = D at *
  have HE := hide e2
  clear e2
  go_enter Tryz.func43, Tryz.ntmps43
  go_wp2_with fail
  refine (unhide HO).mono ?_
  rintro e W1 ⟨rfl, hb1⟩
  have hz1 := hb1.size
  have fin : ∀ o, Below w.heap.size w (W1.alloc o) := fun o => hb1.alloc hz1 o
  have FIN := hide fin
  clear fin
  cases ok
  · go_wp2
    go_ret
    refine ⟨?_, ?_⟩
    · rw [unhide HE]; rfl
    · exact unhide FIN _
  · go_wp2
    go_ret
    refine ⟨?_, ?_⟩
    · rw [unhide HE]; rfl
    · exact unhide FIN _
end Go.Proofs.YticiddcgafhkhaaGreatDoor
namespace Go.Proofs.YticiddcgafhkhaaGreatDoor
open Go Go.RowKit
set_option linter.unusedVariables false
set_option linter.unusedSimpArgs false

theorem below_drewK {B : Nat} {w W : World} (h : Below B w W) (m : Nat) : Below B w (W.drewN m) := ⟨h.os, h.tape, h.output, h.size, h.block⟩

set_option maxRecDepth 100000 in
set_option maxHeartbeats 8000000 in
theorem rEqual_any (x y : Value) (a b : Mc) (w : World) (hp : a.ps.length ≤ 140737488355328) (hb : a.body.length ≤ 140737488355328) (hx : McV w.heap.size w x a) (hy : McV w.heap.size w y b) :
    Calls Tryz.prog 14 #[x, y] w fun e w' => e = .returned (.bool (decide (a = b))) ∧ Below w.heap.size w w' := by
  obtain ⟨pv, bv, rfl, hpv, hbv, _⟩ := hx
  obtain ⟨pu, bu, rfl, hpu, hbu, _⟩ := hy
  obtain ⟨na, fa, psa, ma, ba⟩ := a
  obtain ⟨nb, fb, psb, mb, bb⟩ := b
  simp only at *
  have HR : Hid (decide ((⟨na, fa, psa, ma, ba⟩ : Mc) = ⟨nb, fb, psb, mb, bb⟩) = (decide (na = nb) && ((fa == fb) && ((ma == mb) && (decide (psa = psb) && decide (ba = bb)))))) := by
    rw [Hid, Bool.eq_iff_iff]; simp only [decide_eq_true_eq, Bool.and_eq_true, beq_iff_eq, Mc.mk.injEq]; constructor <;> (rintro ⟨a, b, c, d, e⟩; exact ⟨a, b, d, c, e⟩)
  generalize decide ((⟨na, fa, psa, ma, ba⟩ : Mc) = ⟨nb, fb, psb, mb, bb⟩) = R at *
  have en := beq_list na nb
  have hbw : Below w.heap.size w ((w.alloc (.cells #[.string ⟨na.toArray⟩, .bool fa, pv, .bool ma, bv] 33)).alloc (.cells #[.string ⟨nb.toArray⟩, .bool fb, pu, .bool mb, bu] 33)) := ((Below.refl _ w).alloc (Nat.le_refl _) _).alloc (by simp) _
  have hz : (w.alloc (.cells #[.string ⟨na.toArray⟩, .bool fa, pv, .bool ma, bv] 33)).heap.size = w.heap.size + 1 := by simp
  have HFA := hide (show FiveAt ((w.alloc (.cells #[.string ⟨na.toArray⟩, .bool fa, pv, .bool ma, bv] 33)).alloc (.cells #[.string ⟨nb.toArray⟩, .bool fb, pu, .bool mb, bu] 33)) w.heap.size (.string ⟨na.toArray⟩) pv bv fa ma from
    (five_new w _ pv bv fa ma).below ((Below.refl (w.heap.size + 1) _).alloc (by omega) _) (by omega))
  have HFB := hide (show FiveAt ((w.alloc (.cells #[.string ⟨na.toArray⟩, .bool fa, pv, .bool ma, bv] 33)).alloc (.cells #[.string ⟨nb.toArray⟩, .bool fb, pu, .bool mb, bu] 33)) (w.heap.size + 1) (.string ⟨nb.toArray⟩) pu bu fb mb by
    rw [← hz]; exact five_new _ _ pu bu fb mb)
  have HBW := hide hbw
  have HT := hide (fun W (h : Below w.heap.size w W) => Same_any bv bu ba bb _ _ W hb (hbv.below h) (hbu.below h))
  have HA := hide (hpv.below hbw)
  have HB := hide (hpu.below hbw)
  obtain ⟨p, cap, hpe, _⟩ := hpv
  obtain ⟨q, cbp, hqe, _⟩ := hpu
  subst hpe hqe
  clear hbv hbu hbw hz
  generalize decide (na = nb) = En at *
  generalize decide (ba = bb) = Eb at *
  have hef2 : (fa != fb) = !(fa == fb) := rfl
  have hem2 : (ma != mb) = !(ma == mb) := rfl
  generalize hef : (fa == fb) = Ef at *
  generalize hem : (ma == mb) = Em at *
  cases En
  · go_enter Tryz.func14, Tryz.ntmps14
    go_wp2
    go_ret
    exact ⟨by rw [unhide HR]; rfl, unhide HBW⟩
  · cases Ef
    · go_enter Tryz.func14, Tryz.ntmps14
      go_wp2
      go_ret
      exact ⟨by rw [unhide HR]; rfl, unhide HBW⟩
    · cases Em
      · go_enter Tryz.func14, Tryz.ntmps14
        go_wp2
        go_ret
        exact ⟨by rw [unhide HR]; rfl, unhide HBW⟩
      · by_cases hl : psa.length = psb.length
        · have i0 : (((psa.length : Nat) : Int) != ((psb.length : Nat) : Int)) = false := by rw [bne_eq_false_iff_eq]; omega
          have hd0 : decide (psa = psb) = decide (psa.drop 0 = psb.drop 0) := by simp
          have HR2 : Hid (R = (decide (psa = psb) && Eb)) := by rw [Hid, unhide HR]; simp
          generalize decide (psa = psb) = D at *
          have HD0 := hide hd0
          have HHL := hide hl
          have hbl : psb.length ≤ psa.length := by omega
          clear hd0 hl HR
          go_enter Tryz.func14, Tryz.ntmps14
          go_wp2
          generalize ((w.alloc (.cells #[.string ⟨na.toArray⟩, .bool fa, .slice p psa.length cap, .bool ma, bv] 33)).alloc (.cells #[.string ⟨nb.toArray⟩, .bool fb, .slice q psb.length cbp, .bool mb, bu] 33)) = W0 at *
          go_loopg [5] psa.length (fun gk i wr => ∃ (k m : Nat), gk = psa.length - k ∧ i = .int .i64 k ∧ k ≤ psa.length ∧ Hid (wr = W0.drewN m) ∧ Hid (D = decide (psa.drop k = psb.drop k)))
          case atStart => exact ⟨0, 0, rfl, rfl, by omega, rfl, HD0⟩
          case round =>
            clear HD0
            obtain ⟨k, m, rfl, rfl, hk, hw, hD⟩ := hrel
            have hww : ∀ a v, W0.cell? a = some v → wr.cell? a = some v := fun a v h => by rw [unhide hw]; exact h
            have c2 := hww _ _ (unhide HFA).2.2.1
            have d2 := hww _ _ (unhide HFB).2.2.1
            have c4 := hww _ _ (unhide HFA).2.2.2.2
            have d4 := hww _ _ (unhide HFB).2.2.2.2
            have hBr : Below w.heap.size w wr := by rw [unhide hw]; exact below_drewK (unhide HBW) m
            have HBR := hide hBr
            clear hBr
            by_cases hlt : k < psa.length
            · have hlb : k < psb.length := by rw [← unhide HHL]; exact hlt
              have i1 : (k : Int) < (psa.length : Int) := by omega
              have i2 : (k : Int) < (psb.length : Int) := by omega
              obtain ⟨p', cap', hp', hcs⟩ := unhide HA
              obtain ⟨g, o, rfl, _, a0⟩ := hcs k hlt
              obtain ⟨rfl, rfl⟩ : p = some ⟨g, o, none⟩ ∧ cap = cap' := by simpa using hp'
              obtain ⟨q', cbp', hq', hcs'⟩ := unhide HB
              obtain ⟨g', o', rfl, _, b0⟩ := hcs' k hlb
              obtain ⟨rfl, rfl⟩ : q = some ⟨g', o', none⟩ ∧ cbp = cbp' := by simpa using hq'
              replace a0 := hww _ _ a0
              replace b0 := hww _ _ b0
              have hst := unhide hD
              rw [List.drop_eq_getElem_cons hlt, List.drop_eq_getElem_cons hlb] at hst
              have HST := hide hst
              clear hst hcs hcs' hp' hq' hww hD
              generalize psa[k] = x at *
              generalize psb[k] = y at *
              have hxe := beq_list x y
              have hxy : Hid (D = (decide (x = y) && decide (psa.drop (k + 1) = psb.drop (k + 1)))) := by
                rw [Hid, unhide HST]
                by_cases h1 : x = y <;> simp [h1]
              clear HST
              cases hE : decide (x = y)
              · rw [hE] at hxy hxe
                clear hE
                go_upto_region 6 with fail
                go_quiet (fail)
                go_wp2
                go_ret
                exact ⟨by rw [unhide HR2, unhide hxy]; rfl, below_drewK (unhide HBR) _⟩
              · rw [hE] at hxy hxe
                clear hE
                go_upto_region 6 with fail
                go_quiet (fail)
                go_wp2
                go_roundg (psa.length - (k + 1))
                case measure => omega
                case rel => exact ⟨k + 1, _, rfl, by go_num, by omega, hide (Hdrew hw), by rw [Hid, unhide hxy, Bool.true_and]⟩
            · have i1 : ¬ (k : Int) < (psa.length : Int) := by omega
              have hd : Hid (R = Eb) := by
                rw [Hid, unhide HR2, unhide hD, List.drop_eq_nil_of_le (by omega), List.drop_eq_nil_of_le (by omega)]; simp
              have H1 := hide (unhide HT wr (unhide HBR))
              clear hD
              go_wp2_with fail
              refine (unhide H1).mono ?_
              rintro e W3 ⟨rfl, m3, rfl⟩
              go_wp2
              go_ret
              exact ⟨by rw [unhide hd]; rfl, below_drewK (unhide HBR) _⟩
        · have i0 : (((psa.length : Nat) : Int) != ((psb.length : Nat) : Int)) = true := by rw [bne_iff_ne]; omega
          have hd : Hid (R = false) := by
            rw [Hid, unhide HR, decide_eq_false (fun e => hl (by rw [e]) : ¬ psa = psb)]; simp
          go_enter Tryz.func14, Tryz.ntmps14
          go_wp2
          go_ret
          exact ⟨by rw [unhide hd]; rfl, unhide HBW⟩
end Go.Proofs.YticiddcgafhkhaaGreatDoor
namespace Go.Proofs.YticiddcgafhkhaaGreatDoor
open Go Go.RowKit
set_option linter.unusedVariables false
set_option linter.unusedSimpArgs false

theorem gCells_snoc (l : List Gt) (t : Gt) : gCells (l ++ [t]) = gCells l ++ gL t := by simp [gCells]
theorem TkG.of {W : World} {base n : Nat} {v : Value} {l : List Gt} (h : W.ownsRow base 74 6 v n (gCells l)) (hn : n = l.length) : TkG W.heap.size W v l := by
  subst hn
  rcases h.2 with ⟨rfl, h0⟩ | ⟨g, cap, cur, rfl, hb, hg, hc, hm, hs, ht⟩
  · exact ⟨none, 0, by rw [h0], fun i hi => by omega⟩
  · refine ⟨some ⟨g, 0, none⟩, cap, rfl, fun i hi => ⟨g, 0, rfl, (Array.getElem?_eq_some_iff.1 hg).1, ?_⟩⟩
    have key : ∀ j u, j < 6 → (gL l[i])[j]? = some u → W.cell? ⟨g, 0 + i * 6 + j, none⟩ = some u := fun j u hj hu => by
      have e := gCells_at l i hi j hj
      rw [← ht, List.getElem?_take_of_lt (by omega)] at e
      rw [hu] at e
      rw [Nat.zero_add]
      simp [World.cell?, hg]
      simpa using e
    exact ⟨key 0 _ (by decide) rfl, key 1 _ (by decide) rfl, key 2 _ (by decide) rfl, key 3 _ (by decide) rfl, key 4 _ (by decide) rfl, key 5 _ (by decide) rfl⟩

set_option maxRecDepth 100000 in
set_option maxHeartbeats 8000000 in
theorem rBare_any (v : Value) (l : List Gt) (w : World) (hl : l.length * 56 ≤ 140737488355328) (hv : TkG w.heap.size w v l) :
    Calls Tryz.prog 76 #[v] w fun e w' => ∃ v', e = .returned v' ∧ TkG w'.heap.size w' v' (bareG l) ∧ Below w.heap.size w w' := by
  have HV := hide hv
  obtain ⟨p, cap, rfl, _⟩ := hv
  have u23 : ∀ w, Sem.run Tryz.prog (underlying 31) w = .ok (TypeDesc.slice 74) w := run_underlying Tryz.underlying31
  obtain ⟨i0, hi, hz0, hz1, hz2⟩ := info_parts Tryz.info74
  go_enter Tryz.func76, Tryz.ntmps76
  go_wp2
  go_loopg [3, 4] l.length (fun gk v i wr => ∃ k : Nat, gk = l.length - k ∧ i = .int .i64 k ∧ k ≤ l.length ∧ Hid (wr.ownsRow w.heap.size 74 6 v k (gCells ((bareG l).take k))) ∧ Hid (Below w.heap.size w wr))
  case atStart => exact ⟨0, rfl, rfl, by omega, World.ownsRow_nil _ _ _ _, Below.refl _ _⟩
  case round =>
    obtain ⟨k, rfl, rfl, hk, hown, hbb⟩ := hrel
    by_cases hlt : k < l.length
    · have i1 : (k : Int) < (l.length : Int) := by omega
      have HST : Hid (∀ t, bare1 k l[k] = t → gCells ((bareG l).take (k + 1)) = gCells ((bareG l).take k) ++ gL t) := fun t ht => by
        have hkb : k < (bareG l).length := by rw [bareG_length]; exact hlt
        rw [List.take_succ_eq_append_getElem hkb, gCells_snoc, bareG_at, ht]
      have hws := (unhide hbb).size
      have HOWN : Hid (∀ o1 o2, ((wr.alloc o1).alloc o2).ownsRow w.heap.size 74 6 u3 k (gCells ((bareG l).take k))) := fun o1 o2 => ownsRow_bel (unhide hown) (((Below.refl _ wr).alloc (Nat.le_refl _) o1).alloc (by simp) o2)
      have HLT := hide (unhide hown).lt
      have HBA : Hid (∀ o1 o2, Below w.heap.size w ((wr.alloc o1).alloc o2)) := fun o1 o2 => ((unhide hbb).alloc hws o1).alloc (by simp; omega) o2
      obtain ⟨p', cap', hp', hcs⟩ := (unhide HV).below (unhide hbb)
      obtain ⟨g, o, rfl, _, a0, a1, a2, a3, a4, a5⟩ := hcs k hlt
      obtain ⟨rfl, rfl⟩ : p = some ⟨g, o, none⟩ ∧ cap = cap' := by simpa using hp'
      clear hcs hp' hown
      generalize l[k] = t at *
      generalize gCells ((bareG l).take k) = GK at *
      obtain ⟨kd, S, F, N, sp, fi⟩ := t
      simp only at a0 a1 a2 a3 a4 a5
      cases sp
      · have HNEW : Hid (∀ o1, ∀ j u, (gL ⟨kd, S, [], 0, false, false⟩)[j]? = some u → ((wr.alloc o1).alloc (.cells #[.int .i64 kd, .string ⟨S.toArray⟩, .string ⟨#[]⟩, .int .i64 0, .bool false, .bool false] 74)).cell? ((⟨wr.heap.size + 1, 0, none⟩ : Addr).add j) = some u) := fun o1 j u hj => by
          have hn : ((wr.alloc o1).alloc (.cells #[.int .i64 kd, .string ⟨S.toArray⟩, .string ⟨#[]⟩, .int .i64 0, .bool false, .bool false] 74)).heap[(wr.alloc o1).heap.size]? = some (.cells #[.int .i64 kd, .string ⟨S.toArray⟩, .string ⟨#[]⟩, .int .i64 0, .bool false, .bool false] 74 (0, 0)) := World.alloc_heap_new _ _
          rw [show (wr.alloc o1).heap.size = wr.heap.size + 1 by simp] at hn
          have hj6 : j < 6 := by have := (List.getElem?_eq_some_iff.1 hj).1; simpa [gL] using this
          rw [show (⟨wr.heap.size + 1, 0, none⟩ : Addr).add j = ⟨wr.heap.size + 1, j, none⟩ by unfold Addr.add; split <;> simp_all, World.cell?, hn]
          match j, hj6 with
          | 0, _ => exact hj
          | 1, _ => exact hj
          | 2, _ => exact hj
          | 3, _ => exact hj
          | 4, _ => exact hj
          | 5, _ => exact hj
        go_wp2_with (at_builtin; refine wpList_append_own _ rfl _ _ 31 rfl w.heap.size 74 i0 _ 6 56 Tryz.underlying31 hi hz0 hz1 hz2 rfl (by decide) _ _ _ rfl (unhide HOWN _ _) ⟨wr.heap.size + 1, 0, none⟩ 1 1 (gL ⟨kd, S, [], 0, false, false⟩) rfl rfl (unhide HNEW _) ?qc3 ?qc4 ?qc5 ?qc6 ?_)
        case qc3 => intro u hu; simp only [gL, List.mem_cons, List.not_mem_nil, or_false] at hu; rcases hu with rfl | rfl | rfl | rfl | rfl | rfl <;> rfl
        case qc4 => unfold maxLen; omega
        case qc5 => omega
        case qc6 => first | omega | (simp; omega)
        intro v' w1 hown2 hgrow hnil
        have hb2 : Below w.heap.size w w1 := (unhide HBA _ _).grown hgrow (by simp; omega) (by intro j hj; exact (unhide HLT j hj).1)
        have HN2 := hide hown2
        have HB2 := hide hb2
        clear hown2 hgrow hnil hb2
        go_wp2
        go_roundg (l.length - (k + 1))
        case measure => omega
        case rel => exact ⟨k + 1, rfl, by go_num, by omega, by rw [Hid, unhide HST ⟨kd, S, [], 0, false, false⟩ (by simp [bare1])]; exact unhide HN2, HB2⟩
      · by_cases hk0 : 0 < k
        · have j1 : (0 : Int) < (k : Int) := by omega
          have HNEW : Hid (∀ o1, ∀ j u, (gL ⟨kd, S, [], 0, true, false⟩)[j]? = some u → ((wr.alloc o1).alloc (.cells #[.int .i64 kd, .string ⟨S.toArray⟩, .string ⟨#[]⟩, .int .i64 0, .bool true, .bool false] 74)).cell? ((⟨wr.heap.size + 1, 0, none⟩ : Addr).add j) = some u) := fun o1 j u hj => by
            have hn : ((wr.alloc o1).alloc (.cells #[.int .i64 kd, .string ⟨S.toArray⟩, .string ⟨#[]⟩, .int .i64 0, .bool true, .bool false] 74)).heap[(wr.alloc o1).heap.size]? = some (.cells #[.int .i64 kd, .string ⟨S.toArray⟩, .string ⟨#[]⟩, .int .i64 0, .bool true, .bool false] 74 (0, 0)) := World.alloc_heap_new _ _
            rw [show (wr.alloc o1).heap.size = wr.heap.size + 1 by simp] at hn
            have hj6 : j < 6 := by have := (List.getElem?_eq_some_iff.1 hj).1; simpa [gL] using this
            rw [show (⟨wr.heap.size + 1, 0, none⟩ : Addr).add j = ⟨wr.heap.size + 1, j, none⟩ by unfold Addr.add; split <;> simp_all, World.cell?, hn]
            match j, hj6 with
            | 0, _ => exact hj
            | 1, _ => exact hj
            | 2, _ => exact hj
            | 3, _ => exact hj
            | 4, _ => exact hj
            | 5, _ => exact hj
          go_wp2_with (at_builtin; refine wpList_append_own _ rfl _ _ 31 rfl w.heap.size 74 i0 _ 6 56 Tryz.underlying31 hi hz0 hz1 hz2 rfl (by decide) _ _ _ rfl (unhide HOWN _ _) ⟨wr.heap.size + 1, 0, none⟩ 1 1 (gL ⟨kd, S, [], 0, true, false⟩) rfl rfl (unhide HNEW _) ?qc3 ?qc4 ?qc5 ?qc6 ?_)
          case qc3 => intro u hu; simp only [gL, List.mem_cons, List.not_mem_nil, or_false] at hu; rcases hu with rfl | rfl | rfl | rfl | rfl | rfl <;> rfl
          case qc4 => unfold maxLen; omega
          case qc5 => omega
          case qc6 => first | omega | (simp; omega)
          intro v' w1 hown2 hgrow hnil
          have hb2 : Below w.heap.size w w1 := (unhide HBA _ _).grown hgrow (by simp; omega) (by intro j hj; exact (unhide HLT j hj).1)
          have HN2 := hide hown2
          have HB2 := hide hb2
          clear hown2 hgrow hnil hb2
          go_wp2
          go_roundg (l.length - (k + 1))
          case measure => omega
          case rel => exact ⟨k + 1, rfl, by go_num, by omega, by rw [Hid, unhide HST ⟨kd, S, [], 0, true, false⟩ (by simp [bare1, hk0])]; exact unhide HN2, HB2⟩
        · have j1 : ¬ (0 : Int) < (k : Int) := by omega
          have HNEW : Hid (∀ o1, ∀ j u, (gL ⟨kd, S, [], 0, false, false⟩)[j]? = some u → ((wr.alloc o1).alloc (.cells #[.int .i64 kd, .string ⟨S.toArray⟩, .string ⟨#[]⟩, .int .i64 0, .bool false, .bool false] 74)).cell? ((⟨wr.heap.size + 1, 0, none⟩ : Addr).add j) = some u) := fun o1 j u hj => by
            have hn : ((wr.alloc o1).alloc (.cells #[.int .i64 kd, .string ⟨S.toArray⟩, .string ⟨#[]⟩, .int .i64 0, .bool false, .bool false] 74)).heap[(wr.alloc o1).heap.size]? = some (.cells #[.int .i64 kd, .string ⟨S.toArray⟩, .string ⟨#[]⟩, .int .i64 0, .bool false, .bool false] 74 (0, 0)) := World.alloc_heap_new _ _
            rw [show (wr.alloc o1).heap.size = wr.heap.size + 1 by simp] at hn
            have hj6 : j < 6 := by have := (List.getElem?_eq_some_iff.1 hj).1; simpa [gL] using this
            rw [show (⟨wr.heap.size + 1, 0, none⟩ : Addr).add j = ⟨wr.heap.size + 1, j, none⟩ by unfold Addr.add; split <;> simp_all, World.cell?, hn]
            match j, hj6 with
            | 0, _ => exact hj
            | 1, _ => exact hj
            | 2, _ => exact hj
            | 3, _ => exact hj
            | 4, _ => exact hj
            | 5, _ => exact hj
          go_wp2_with (at_builtin; refine wpList_append_own _ rfl _ _ 31 rfl w.heap.size 74 i0 _ 6 56 Tryz.underlying31 hi hz0 hz1 hz2 rfl (by decide) _ _ _ rfl (unhide HOWN _ _) ⟨wr.heap.size + 1, 0, none⟩ 1 1 (gL ⟨kd, S, [], 0, false, false⟩) rfl rfl (unhide HNEW _) ?qc3 ?qc4 ?qc5 ?qc6 ?_)
          case qc3 => intro u hu; simp only [gL, List.mem_cons, List.not_mem_nil, or_false] at hu; rcases hu with rfl | rfl | rfl | rfl | rfl | rfl <;> rfl
          case qc4 => unfold maxLen; omega
          case qc5 => omega
          case qc6 => first | omega | (simp; omega)
          intro v' w1 hown2 hgrow hnil
          have hb2 : Below w.heap.size w w1 := (unhide HBA _ _).grown hgrow (by simp; omega) (by intro j hj; exact (unhide HLT j hj).1)
          have HN2 := hide hown2
          have HB2 := hide hb2
          clear hown2 hgrow hnil hb2
          go_wp2
          go_roundg (l.length - (k + 1))
          case measure => omega
          case rel => exact ⟨k + 1, rfl, by go_num, by omega, by rw [Hid, unhide HST ⟨kd, S, [], 0, false, false⟩ (by simp [bare1, hk0])]; exact unhide HN2, HB2⟩
    · have i1 : ¬ (k : Int) < (l.length : Int) := by omega
      go_wp2
      go_ret
      have hkl : k = (bareG l).length := by rw [bareG_length]; omega
      have ho := unhide hown
      rw [List.take_of_length_le (by omega)] at ho
      exact ⟨_, rfl, TkG.of ho hkl, unhide hbb⟩
end Go.Proofs.YticiddcgafhkhaaGreatDoor
namespace Go.Proofs.YticiddcgafhkhaaGreatDoor
open Go Go.RowKit
set_option linter.unusedVariables false
set_option linter.unusedSimpArgs false

def rspeltB (l : List Gt) : Bool := decide (l = bareG l) && (((Tk.lex [(1, spG l)]).2.1 == 0) && decide (l = bareG ((Tk.lex [(1, spG l)]).1.map Tk.T.g)))
set_option maxRecDepth 100000 in
set_option maxHeartbeats 4000000 in
theorem rSpelt_any (v : Value) (l : List Gt) (w : World) (hl : l.length * 56 ≤ 140737488355328) (hb : (spG l).length ≤ 140737488355328) (hv : TkG w.heap.size w v l) :
    Calls Tryz.prog 62 #[v] w fun e w' => e = .returned (.bool (rspeltB l)) ∧ Below w.heap.size w w' := by
  have HBR := hide (rBare_any v l w hl hv)
  have HSP := hide (fun W (h : Below w.heap.size w W) => rSpell_any v l W (by omega) hb ((hv.below h).mono h.size))
  have HV := hide hv
  clear hv
  have hsz : (⟨(spG l).toArray⟩ : ByteArray).size ≤ 140737488355328 := by show (spG l).toArray.size ≤ _; simpa using hb
  have hLX := (fun (W : World) => rLex_one ⟨(spG l).toArray⟩ W hsz)
  unfold lex1 at hLX
  simp only [List.toList_toArray] at hLX
  have HLX := hide hLX
  have hle := Tk.lex_len [((1 : Int), spG l)]
  have HR : Hid (rspeltB l = (decide (l = bareG l) && (((Tk.lex [(1, spG l)]).2.1 == 0) && decide (l = bareG ((Tk.lex [(1, spG l)]).1.map Tk.T.g))))) := rfl
  have hD := hide (fun (x : List Gt) => (rfl : decide (l = x) = decide (l = x)))
  clear hLX hsz hD
  generalize rspeltB l = V at *
  generalize (⟨(spG l).toArray⟩ : ByteArray) = T at *
  generalize Tk.lex [((1 : Int), spG l)] = R at *
  obtain ⟨L, er, n⟩ := R
  simp only at HR HLX hle
  go_enter Tryz.func62, Tryz.ntmps62
  go_wp2_with fail
  refine (unhide HBR).mono ?_
  rintro e W1 ⟨v1, rfl, hT1, hb1⟩
  have hs1 := hb1.size
  have H1 := hide (Same_any v v1 l (bareG l) _ _ W1 (by omega) ((unhide HV).below hb1) hT1)
  have HB1 := hide hb1
  clear HBR hT1 hb1
  generalize decide (l = bareG l) = D1 at *
  go_wp2_with fail
  refine (unhide H1).mono ?_
  rintro e W2 ⟨rfl, m2, hw2⟩
  have hb2 : Below w.heap.size w W2 := by rw [hw2]; exact ⟨(unhide HB1).os, (unhide HB1).tape, (unhide HB1).output, (unhide HB1).size, (unhide HB1).block⟩
  have HB2 := hide hb2
  have hs2 := hb2.size
  have H2 := hide (unhide HSP W2 hb2)
  clear HB1 H1 hw2 hb2 HSP hs1
  cases D1
  · go_wp2
    go_ret
    exact ⟨by rw [unhide HR]; rfl, unhide HB2⟩
  · go_wp2_with fail
    refine (unhide H2).mono ?_
    rintro e W3 ⟨rfl, hb3⟩
    have hb3' : Below w.heap.size w W3 := (unhide HB2).trans (hb3.mono hs2)
    have HB3 := hide hb3'
    have hs3 := hb3'.size
    have H3 := hide (unhide HLX W3)
    clear H2 hb3 hb3' HLX
    go_wp2_with fail
    refine (unhide H3).mono ?_
    rintro e W4 ⟨v4, rfl, hT4, hb4⟩
    have hb4' : Below w.heap.size w W4 := ((unhide HB3).alloc hs3 _).trans (hb4.mono (by omega))
    have HB4 := hide hb4'
    have hs4 := hb4'.size
    have H4 := hide (rBare_any v4 (L.map Tk.T.g) W4 (by rw [List.length_map]; omega) hT4.toG)
    clear H3 hT4 hb4 hb4'
    by_cases her : er = 0
    · subst her
      go_wp2_with fail
      refine (unhide H4).mono ?_
      rintro e W5 ⟨v5, rfl, hT5, hb5⟩
      have hb5' : Below w.heap.size w W5 := (unhide HB4).trans (hb5.mono hs4)
      have HB5 := hide hb5'
      have H5 := hide (Same_any v v5 l (bareG (L.map Tk.T.g)) _ _ W5 (by omega) ((unhide HV).below hb5') hT5)
      clear H4 hT5 hb5 hb5'
      generalize decide (l = bareG (L.map Tk.T.g)) = D2 at *
      go_wp2_with fail
      refine (unhide H5).mono ?_
      rintro e W6 ⟨rfl, m6, rfl⟩
      go_wp2
      go_ret
      exact ⟨by rw [unhide HR]; rfl, (unhide HB5).os, (unhide HB5).tape, (unhide HB5).output, (unhide HB5).size, (unhide HB5).block⟩
    · have j1 : (er == 0) = false := by rw [beq_eq_false_iff_ne]; exact her
      have HR2 : Hid (V = false) := by rw [Hid, unhide HR, j1]; rfl
      go_wp2
      go_ret
      exact ⟨by rw [unhide HR2]; rfl, unhide HB4⟩
end Go.Proofs.YticiddcgafhkhaaGreatDoor
namespace Go.Proofs.YticiddcgafhkhaaGreatDoor
open Go Go.RowKit
set_option linter.unusedVariables false
set_option linter.unusedSimpArgs false

def rparB (more : Bool) (ps : List (List UInt8)) (t : Gt) : Bool := decide (t.kind = 1) && (decide (t.s ∈ ps) || (more && decide (t.s = vaS)))
def ParPost (V : Bool) (e : Ending) : Prop := ∃ r : Int, e = .returned (.int .i64 r) ∧ decide (r < 0) = !V
theorem six_new (w : World) (t : Gt) : SixAt (w.alloc (.cells (gC t) 74)) w.heap.size 0 t := by
  have h : (w.alloc (.cells (gC t) 74)).heap[w.heap.size]? = some (.cells (gC t) 74 (0, 0)) := World.alloc_heap_new w _
  refine ⟨?_, ?_, ?_, ?_, ?_, ?_⟩ <;> (rw [World.cell?, h]; rfl)

set_option maxRecDepth 100000 in
set_option maxHeartbeats 8000000 in
theorem rParam_any (nm pv bv : Value) (fn more : Bool) (ps : List (List UInt8)) (t : Gt) (w : World) (hl : ps.length ≤ 140737488355328) (hv : StG w.heap.size w pv ps) :
    Calls Tryz.prog 63 #[.agg #[nm, .bool fn, pv, .bool more, bv], .agg (gC t)] w fun e w' => ParPost (rparB more ps t) e ∧ Below w.heap.size w w' := by
  have hbw : Below w.heap.size w ((w.alloc (.cells #[nm, .bool fn, pv, .bool more, bv] 33)).alloc (.cells (gC t) 74)) := ((Below.refl _ w).alloc (Nat.le_refl _) _).alloc (by simp) _
  have hz : (w.alloc (.cells #[nm, .bool fn, pv, .bool more, bv] 33)).heap.size = w.heap.size + 1 := by simp
  have hfa : FiveAt ((w.alloc (.cells #[nm, .bool fn, pv, .bool more, bv] 33)).alloc (.cells (gC t) 74)) w.heap.size nm pv bv fn more :=
    (five_new w nm pv bv fn more).below ((Below.refl (w.heap.size + 1) _).alloc (by omega) _) (by omega)
  have hfb := six_new (w.alloc (.cells #[nm, .bool fn, pv, .bool more, bv] 33)) t
  rw [hz] at hfb
  have HFA := hide hfa
  have HFB := hide hfb
  have HBW := hide hbw
  have HA := hide (hv.below hbw)
  obtain ⟨p, cap, hpe, _⟩ := hv
  subst hpe
  have HR : Hid (rparB more ps t = (decide (t.kind = 1) && (decide (t.s ∈ ps) || (more && decide (t.s = vaS))))) := rfl
  generalize rparB more ps t = V at *
  have ek : (t.kind == 1) = decide (t.kind = 1) := by rw [Bool.eq_iff_iff]; simp
  have ev := beq_list t.s vaS
  clear hfa hfb hbw hz
  obtain ⟨kd, S, F, N, sp, fi⟩ := t
  simp only [gC] at *
  generalize hK : decide (kd = 1) = K at *
  generalize hC : decide (S = vaS) = C at *
  unfold vaS at ev
  clear hK hC
  go_enter Tryz.func63, Tryz.ntmps63
  go_wp2
  generalize ((w.alloc (.cells #[nm, .bool fn, .slice p ps.length cap, .bool more, bv] 33)).alloc (.cells #[.int .i64 kd, .string ⟨S.toArray⟩, .string ⟨F.toArray⟩, .int .i64 N, .bool sp, .bool fi] 74)) = W0 at *
  go_loopg [5] ps.length (fun gk i wr => ∃ (k m : Nat), gk = ps.length - k ∧ i = .int .i64 k ∧ k ≤ ps.length ∧ Hid (wr = W0.drewN m) ∧ Hid (K = true → ∀ j (h : j < ps.length), j < k → ps[j] ≠ S))
  case atStart => exact ⟨0, 0, rfl, rfl, by omega, rfl, fun _ j h hj => by omega⟩
  case round =>
    obtain ⟨k, m, rfl, rfl, hk, hw, hno⟩ := hrel
    have hww : ∀ a v, W0.cell? a = some v → wr.cell? a = some v := fun a v h => by rw [unhide hw]; exact h
    have c2 := hww _ _ (unhide HFA).2.2.1
    have c3 := hww _ _ (unhide HFA).2.2.2.1
    have d0 := hww _ _ (unhide HFB).1
    have d1 := hww _ _ (unhide HFB).2.1
    have hBr : Below w.heap.size w wr := by rw [unhide hw]; exact below_drewK (unhide HBW) m
    have HBR := hide hBr
    clear hBr
    by_cases hlt : k < ps.length
    · have i1 : (k : Int) < (ps.length : Int) := by omega
      obtain ⟨p', cap', hp', hcs⟩ := unhide HA
      obtain ⟨g, o, rfl, _, a0⟩ := hcs k hlt
      obtain ⟨rfl, rfl⟩ : p = some ⟨g, o, none⟩ ∧ cap = cap' := by simpa using hp'
      replace a0 := hww _ _ a0
      have hxe := beq_list S ps[k]
      have hm : Hid (S = ps[k] → S ∈ ps) := fun h => h ▸ List.getElem_mem hlt
      have hn : Hid (S ≠ ps[k] → K = true → ∀ j (h : j < ps.length), j < k + 1 → ps[j] ≠ S) := fun h hK j hj hjk => by
        by_cases hjk' : j = k
        · subst hjk'; exact fun e => h e.symm
        · exact unhide hno hK j hj (by omega)
      clear hcs hp' hww hno
      generalize ps[k] = x at *
      cases K
      · go_upto_region 4 with fail
        go_quiet (fail)
        go_wp2
        go_roundg (ps.length - (k + 1))
        case measure => omega
        case rel => exact ⟨k + 1, _, rfl, by go_num, by omega, hide (Hdrew hw), fun h => by cases h⟩
      · by_cases hx : S = x
        · rw [decide_eq_true hx] at hxe
          have HVT : Hid (V = true) := by rw [Hid, unhide HR, decide_eq_true (unhide hm hx)]; rfl
          clear hx
          go_upto_region 4 with fail
          go_quiet (fail)
          go_wp2
          go_ret
          exact ⟨⟨_, rfl, by rw [unhide HVT]; simp⟩, below_drewK (unhide HBR) _⟩
        · rw [decide_eq_false hx] at hxe
          have HN := hide (unhide hn hx)
          clear hx
          go_upto_region 4 with fail
          go_quiet (fail)
          go_wp2
          go_roundg (ps.length - (k + 1))
          case measure => omega
          case rel => exact ⟨k + 1, _, rfl, by go_num, by omega, hide (Hdrew hw), unhide HN⟩
    · have i1 : ¬ (k : Int) < (ps.length : Int) := by omega
      have hM : Hid (K = true → decide (S ∈ ps) = false) := fun hK => decide_eq_false fun hm => by
        obtain ⟨j, hj, e⟩ := List.mem_iff_getElem.1 hm
        exact unhide hno hK j hj (by omega) e
      clear hno hww
      cases more
      · have HVF : Hid (V = false) := by
          cases hK : K
          · rw [Hid, unhide HR, hK]; rfl
          · rw [Hid, unhide HR, unhide hM hK, hK]; rfl
        go_wp2
        go_ret
        exact ⟨⟨_, rfl, by rw [unhide HVF]; rfl⟩, unhide HBR⟩
      · cases K
        · have HVF : Hid (V = false) := unhide HR
          go_wp2
          go_ret
          exact ⟨⟨_, rfl, by rw [unhide HVF]; rfl⟩, unhide HBR⟩
        · have HVC : Hid (V = C) := by rw [Hid, unhide HR, unhide hM rfl]; rfl
          cases C
          · go_wp2
            go_ret
            exact ⟨⟨_, rfl, by rw [unhide HVC]; rfl⟩, unhide HBR⟩
          · go_wp2
            go_ret
            exact ⟨⟨_, rfl, by rw [unhide HVC]; simp⟩, unhide HBR⟩
end Go.Proofs.YticiddcgafhkhaaGreatDoor
