/-
  The reference's Right.
-/
import Derived.Test.YticiddcgafhkhaaGreatDoorX1
import Derived.Test.YticiddcgafhkhaaGreatDoorUF
namespace Go.Proofs.YticiddcgafhkhaaGreatDoor
open Go Go.RowKit
set_option linter.unusedVariables false
set_option linter.unusedSimpArgs false

def rrightM (m : Mc) : Bool :=
  nmB ⟨m.name.toArray⟩ && (!decide (m.name = defS) && (!decide (m.name = vaS) && (!(!m.fn && (decide (0 < m.ps.length) || m.more)) && (rpB m.ps && rbodyB m.fn m.more m.ps m.body))))
theorem StG.at {B : Nat} {W : World} {p : Option Addr} {n cap : Nat} {l : List (List UInt8)} (h : StG B W (.slice p n cap) l) (k : Nat) (hk : k < l.length) : ∃ g o, p = some ⟨g, o, none⟩ ∧ g < B ∧ W.cell? ⟨g, o + k, none⟩ = some (.string ⟨l[k].toArray⟩) := by
  obtain ⟨p', cap', e, hc⟩ := h
  obtain ⟨rfl, _, _⟩ : p = p' ∧ n = l.length ∧ cap = cap' := by simpa using e
  exact hc k hk
theorem okP_at {l : List (List UInt8)} {i : Nat} (h : i < l.length) : okP l i = (nmB ⟨l[i].toArray⟩ && !decide (l[i] = vaS) && !decide (l[i] ∈ l.take i)) := by
  simp [okP, h]

set_option maxRecDepth 100000 in
set_option maxHeartbeats 8000000 in
theorem rRight_pos (x : Value) (m : Mc) (w : World) (hf : McFits m) (hx : McV w.heap.size w x m) (hpos : 0 < m.ps.length) :
    Calls Tryz.prog 25 #[x] w fun e w' => e = .returned (.bool (rrightM m)) ∧ Below w.heap.size w w' := by
  obtain ⟨pv, bv, rfl, hpv, hbv, hcap⟩ := hx
  obtain ⟨name, fn, ps, more, body⟩ := m
  obtain ⟨hn, hp, he, hb, hs⟩ := hf
  simp only at *
  have HR : Hid (rrightM ⟨name, fn, ps, more, body⟩ = (nmB ⟨name.toArray⟩ && (!decide (name = defS) && (!decide (name = vaS) && (!(!fn && (decide (0 < ps.length) || more)) && (rpB ps && rbodyB fn more ps body)))))) := rfl
  generalize rrightM ⟨name, fn, ps, more, body⟩ = R at *
  have hb0 : Below w.heap.size w (w.alloc (.cells #[.string ⟨name.toArray⟩, .bool fn, pv, .bool more, bv] 33)) := (Below.refl _ w).alloc (Nat.le_refl _) _
  have hz0 : (w.alloc (.cells #[.string ⟨name.toArray⟩, .bool fn, pv, .bool more, bv] 33)).heap.size = w.heap.size + 1 := by simp
  have HF := hide (five_new w (.string ⟨name.toArray⟩) pv bv fn more)
  have HNM := hide (rIsName_any ⟨name.toArray⟩ (w.alloc (.cells #[.string ⟨name.toArray⟩, .bool fn, pv, .bool more, bv] 33)) (by show name.toArray.size ≤ _; simpa using hn))
  have HRB := hide (fun W (hB : Below w.heap.size w W) => rbody_any (.string ⟨name.toArray⟩) pv bv fn more ps body W hs hb hp ((hpv.below hB).mono hB.size) ((hbv.below hB).mono hB.size))
  have HIN := hide (fun (i : Nat) (hi : i < ps.length) (W : World) => rIsName_any ⟨(ps[i]).toArray⟩ W (by show (ps[i]).toArray.size ≤ _; simpa using he _ (List.getElem_mem hi)))
  have HB0 := hide hb0
  have HPV := hide hpv
  have ed := beq_list name defS
  have ev := beq_list name vaS
  obtain ⟨pp, pc, hpe, _⟩ := hpv
  subst hpe
  have HRP : Hid (rpB ps = (decide (ps.length ≤ 16) && (List.range ps.length).all (okP ps))) := rfl
  generalize rpB ps = RP at *
  generalize rbodyB fn more ps body = RB at *
  clear hcap hbv hb0 hn he hb hs
  generalize nmB ⟨name.toArray⟩ = N at *
  generalize decide (name = defS) = D at *
  generalize decide (name = vaS) = V at *
  unfold defS at ed
  unfold vaS at ev
  have c0 := (unhide HF).1
  go_enter Tryz.func25, Tryz.ntmps25
  go_wp2_with fail
  refine (unhide HNM).mono ?_
  rintro e W1 ⟨rfl, hb1⟩
  have hz1 := hb1.size
  rw [hz0] at hz1 hb1
  have hF1 := (unhide HF).below hb1 (by omega)
  have HF1 := hide hF1
  have HB1 : Hid (Below w.heap.size w W1) := (unhide HB0).trans (hb1.mono (by omega))
  obtain ⟨d0, d1, d2, d3, d4⟩ := hF1
  clear c0 HNM HF HB0 hb1
  have i0 : (0 : Int) < (ps.length : Int) := by omega
  have hcs : ∃ B : Bool, Hid (R = (!B && ((List.range ps.length).all (okP ps) && RB))) ∧ ((N = false ∧ B = true) ∨ (N = true ∧ D = true ∧ B = true) ∨ (N = true ∧ D = false ∧ V = true ∧ B = true) ∨
      (N = true ∧ D = false ∧ V = false ∧ fn = false ∧ B = true) ∨
      (N = true ∧ D = false ∧ V = false ∧ fn = true ∧ (16 : Int) < (ps.length : Int) ∧ B = true) ∨ (N = true ∧ D = false ∧ V = false ∧ fn = true ∧ ¬ (16 : Int) < (ps.length : Int) ∧ B = false)) := by
    rw [unhide HRP] at HR
    cases N
    · exact ⟨true, unhide HR, .inl ⟨rfl, rfl⟩⟩
    · cases D
      · cases V
        · cases fn
          · rw [decide_eq_true hpos] at HR
            exact ⟨true, unhide HR, .inr (.inr (.inr (.inl ⟨rfl, rfl, rfl, rfl, rfl⟩)))⟩
          · by_cases h2 : ps.length ≤ 16
            · rw [decide_eq_true h2] at HR
              exact ⟨false, unhide HR, .inr (.inr (.inr (.inr (.inr ⟨rfl, rfl, rfl, rfl, by omega, rfl⟩))))⟩
            · rw [decide_eq_false h2] at HR
              exact ⟨true, unhide HR, .inr (.inr (.inr (.inr (.inl ⟨rfl, rfl, rfl, rfl, by omega, rfl⟩))))⟩
        · exact ⟨true, unhide HR, .inr (.inr (.inl ⟨rfl, rfl, rfl, rfl⟩))⟩
      · exact ⟨true, unhide HR, .inr (.inl ⟨rfl, rfl, rfl⟩)⟩
  obtain ⟨B, HRR, hcs⟩ := hcs
  clear HR HRP
  go_upto_region 2 with fail
  go_cut [42] from 10 to 42 (fun c wx => c = .bool B ∧ wx = W1)
  case first =>
    clear HRR HRB HIN HPV HB1 HF1
    rcases hcs with ⟨rfl, rfl⟩ | ⟨rfl, rfl, rfl⟩ | ⟨rfl, rfl, rfl, rfl⟩ | ⟨rfl, rfl, rfl, rfl, rfl⟩ | ⟨rfl, rfl, rfl, rfl, h1, rfl⟩ | ⟨rfl, rfl, rfl, rfl, h1, rfl⟩
    all_goals
      go_wp2_with fail
      go_meet
      case rel => exact ⟨by first | rfl | (congr 1; exact decide_eq_false (by omega)), rfl⟩
  case rest =>
    obtain ⟨rfl, hww⟩ := hcut
    obtain rfl := hww.symm
    clear ed ev
    cases B
    · have HR4 : Hid (R = ((List.range ps.length).all (okP ps) && RB)) := unhide HRR
      clear HRR hcs
      go_wp2
      go_loopg [4] ps.length (fun gk i wr => ∃ k : Nat, gk = ps.length - k ∧ i = .int .i64 k ∧ k ≤ ps.length ∧ Hid (∀ j, j < k → okP ps j = true) ∧ Hid (Below (w.heap.size + 1) W1 wr))
      case atStart => exact ⟨0, rfl, rfl, by omega, fun j hj => by omega, Below.refl _ _⟩
      case round =>
        obtain ⟨k, rfl, rfl, hk, hok, hbb⟩ := hrel
        have hwr := (unhide hbb).size
        have hBw : Below w.heap.size w wr := (unhide HB1).trans ((unhide hbb).mono (by omega))
        have HBw := hide hBw
        clear d0 d1 d2 d3 d4
        obtain ⟨d0, d1, d2, d3, d4⟩ := (unhide HF1).below (unhide hbb) (by omega)
        by_cases hlt : k < ps.length
        · have i1 : (k : Int) < (ps.length : Int) := by omega
          obtain ⟨g, o, rfl, hg, a0⟩ := ((unhide HPV).below hBw).at k hlt
          have hna := hide (unhide HIN k hlt wr)
          have hoe := okP_at hlt
          have hf : Hid (okP ps k = false → R = false) := fun h => by
            rw [unhide HR4, show (List.range ps.length).all (okP ps) = false from List.all_eq_false.2 ⟨k, List.mem_range.2 hlt, by simp [h]⟩]; rfl
          have hnx : Hid (okP ps k = true → ∀ j, j < k + 1 → okP ps j = true) := fun h j hj => by
            by_cases hjk : j = k
            · subst hjk; exact h
            · exact unhide hok j (by omega)
          have HOE := hide hoe
          have evp := beq_list ps[k] vaS
          have hmem : Hid (decide (ps[k] ∈ ps.take k) = (List.range k).any (fun j => decide (ps[j]? = some ps[k]))) := by
            rw [Hid, Bool.eq_iff_iff]
            simp only [decide_eq_true_eq, List.any_eq_true, List.mem_range]
            constructor
            · intro h
              obtain ⟨j, hj, e⟩ := List.mem_iff_getElem.1 h
              simp at hj e
              exact ⟨j, by omega, by rw [List.getElem?_eq_getElem (by omega)]; exact congrArg some e⟩
            · rintro ⟨j, hj, e⟩
              rw [List.getElem?_eq_getElem (by omega)] at e
              exact List.mem_iff_getElem.2 ⟨j, by simp; omega, by simpa using Option.some.inj e⟩
          rw [unhide hmem] at HOE
          clear hok hoe hmem hBw
          generalize hpk : ps[k] = P at *
          have HPK := hide hpk
          clear hpk
          generalize okP ps k = O at *
          generalize nmB ⟨P.toArray⟩ = NP at *
          generalize decide (P = vaS) = DV at *
          unfold vaS at evp
          go_wp2_with fail
          refine (unhide hna).mono ?_
          rintro e W2 ⟨rfl, hb2⟩
          have hz2 := hb2.size
          have hbb2 := hide ((unhide hbb).trans (hb2.mono (by omega)))
          have HBw2 := hide ((unhide HBw).trans (hb2.mono (by omega)))
          have a2 := (hb2.cell (p := ⟨g, o + k, none⟩) (by show g < wr.heap.size; omega)).trans a0
          clear d0 d1 d2 d3 d4 a0
          obtain ⟨d0, d1, d2, d3, d4⟩ := (unhide HF1).below (unhide hbb2) (by omega)
          cases NP
          · go_wp2
            go_ret
            exact ⟨by rw [unhide hf (by rw [unhide HOE]; rfl)]; rfl, unhide HBw2⟩
          · cases DV
            · have HO3 : Hid (O = !(List.range k).any (fun j => decide (ps[j]? = some P))) := by rw [Hid, unhide HOE]; rfl
              go_wp2
              go_loopg [6] k (fun gk i wx => ∃ (j m : Nat), gk = k - j ∧ i = .int .i64 j ∧ j ≤ k ∧ Hid (∀ i, i < j → ps[i]? ≠ some P) ∧ Hid (wx = W2.drewN m))
              case atStart => exact ⟨0, 0, rfl, rfl, by omega, fun j hj => by omega, rfl⟩
              case round =>
                obtain ⟨j, m, rfl, rfl, hj, hne, hwx⟩ := hrel
                have hBx : Hid (Below w.heap.size w wr) := by rw [unhide hwx]; exact below_drewK (unhide HBw2) m
                have hww : ∀ a v, W2.cell? a = some v → wr.cell? a = some v := fun a v h => by rw [unhide hwx]; exact h
                have d2' := hww _ _ d2
                have a2' := hww _ _ a2
                by_cases hjk : j < k
                · have j1 : (j : Int) < (k : Int) := by omega
                  obtain ⟨g', o', hgo, _, b0⟩ := ((unhide HPV).below (unhide hBx)).at j (by omega)
                  obtain ⟨rfl, rfl⟩ : g = g' ∧ o = o' := by simpa using hgo
                  have hbe := beq_list (ps[j]'(by omega)) P
                  have hPj : Hid (ps[j]? = some (ps[j]'(by omega))) := List.getElem?_eq_getElem (by omega)
                  have j2 : (j : Int) < (ps.length : Int) := by omega
                  clear hgo hww
                  generalize (ps[j]'(by omega)) = Pj at *
                  by_cases heq : Pj = P
                  · have HO4 : Hid (O = false) := by
                      rw [Hid, unhide HO3, show (List.range k).any (fun j => decide (ps[j]? = some P)) = true from List.any_eq_true.2 ⟨j, List.mem_range.2 hjk, by rw [unhide hPj, heq]; simp⟩]; rfl
                    rw [decide_eq_true heq] at hbe
                    clear heq
                    go_upto_region 13 with fail
                    go_quiet (fail)
                    go_wp2
                    go_ret
                    exact ⟨by rw [unhide hf (unhide HO4)]; rfl, below_drewK (unhide hBx) _⟩
                  · have hne2 : Hid (∀ i, i < j + 1 → ps[i]? ≠ some P) := fun i hi => by
                      by_cases hij : i = j
                      · subst hij; rw [unhide hPj]; intro e; exact heq (Option.some.inj e)
                      · exact unhide hne i (by omega)
                    rw [decide_eq_false heq] at hbe
                    clear heq
                    go_upto_region 13 with fail
                    go_quiet (fail)
                    go_wp2
                    go_roundg (k - (j + 1))
                    case measure => omega
                    case rel => exact ⟨j + 1, _, rfl, by go_num, by omega, hne2, Hdrew hwx⟩
                · have j1 : ¬ (j : Int) < (k : Int) := by omega
                  have HO4 : Hid (O = true) := by
                    rw [Hid, unhide HO3, show (List.range k).any (fun j => decide (ps[j]? = some P)) = false from List.any_eq_false.2 (fun i hi => by have := unhide hne i (by have := List.mem_range.1 hi; omega); simpa using this)]; rfl
                  have hbx : Hid (Below (w.heap.size + 1) W1 wr) := by rw [unhide hwx]; exact below_drewK (unhide hbb2) m
                  go_wp2
                  go_roundg (ps.length - (k + 1))
                  case measure => omega
                  case rel => exact ⟨k + 1, rfl, by go_num, by omega, unhide hnx (unhide HO4), hbx⟩
            · go_wp2
              go_ret
              exact ⟨by rw [unhide hf (by rw [unhide HOE]; rfl)]; rfl, unhide HBw2⟩
        · have i1 : ¬ (k : Int) < (ps.length : Int) := by omega
          have HT : Hid (R = RB) := by
            rw [Hid, unhide HR4, show (List.range ps.length).all (okP ps) = true from List.all_eq_true.2 (fun j hj => unhide hok j (by have := List.mem_range.1 hj; omega))]; rfl
          have HRB2 := hide (unhide HRB wr hBw)
          go_wp2_with fail
          refine (unhide HRB2).mono ?_
          rintro e W2 ⟨rfl, hb2⟩
          go_wp2
          go_ret
          exact ⟨by rw [unhide HT]; rfl, (unhide HBw).trans (hb2.mono (by omega))⟩
    · go_wp2
      go_ret
      exact ⟨by rw [unhide HRR]; rfl, unhide HB1⟩

set_option maxRecDepth 100000 in
set_option maxHeartbeats 8000000 in
theorem rRight_nil (x : Value) (name : List UInt8) (fn more : Bool) (body : List Gt) (w : World) (hf : McFits ⟨name, fn, [], more, body⟩) (hx : McV w.heap.size w x ⟨name, fn, [], more, body⟩) :
    Calls Tryz.prog 25 #[x] w fun e w' => e = .returned (.bool (rrightM ⟨name, fn, [], more, body⟩)) ∧ Below w.heap.size w w' := by
  obtain ⟨pv, bv, rfl, hpv, hbv, hcap⟩ := hx
  obtain ⟨hn, hp, he, hb, hs⟩ := hf
  simp only at *
  have HR : Hid (rrightM ⟨name, fn, [], more, body⟩ = (nmB ⟨name.toArray⟩ && (!decide (name = defS) && (!decide (name = vaS) && (!(!fn && more) && rbodyB fn more [] body))))) := by
    rw [Hid, rrightM]
    simp [rpB]
  generalize rrightM ⟨name, fn, [], more, body⟩ = R at *
  have hb0 : Below w.heap.size w (w.alloc (.cells #[.string ⟨name.toArray⟩, .bool fn, pv, .bool more, bv] 33)) := (Below.refl _ w).alloc (Nat.le_refl _) _
  have hz0 : (w.alloc (.cells #[.string ⟨name.toArray⟩, .bool fn, pv, .bool more, bv] 33)).heap.size = w.heap.size + 1 := by simp
  have HF := hide (five_new w (.string ⟨name.toArray⟩) pv bv fn more)
  have HNM := hide (rIsName_any ⟨name.toArray⟩ (w.alloc (.cells #[.string ⟨name.toArray⟩, .bool fn, pv, .bool more, bv] 33)) (by show name.toArray.size ≤ _; simpa using hn))
  have HRB := hide (fun W (hB : Below w.heap.size w W) => rbody_any (.string ⟨name.toArray⟩) pv bv fn more [] body W hs hb hp ((hpv.below hB).mono hB.size) ((hbv.below hB).mono hB.size))
  have HB0 := hide hb0
  have ed := beq_list name defS
  have ev := beq_list name vaS
  obtain ⟨pp, pc, hpe, _⟩ := hpv
  subst hpe
  simp only [List.length_nil] at *
  generalize rbodyB fn more [] body = RB at *
  clear hcap hbv hb0 hn he hb hs hp
  generalize nmB ⟨name.toArray⟩ = N at *
  generalize decide (name = defS) = D at *
  generalize decide (name = vaS) = V at *
  unfold defS at ed
  unfold vaS at ev
  have c0 := (unhide HF).1
  go_enter Tryz.func25, Tryz.ntmps25
  go_wp2_with fail
  refine (unhide HNM).mono ?_
  rintro e W1 ⟨rfl, hb1⟩
  have hz1 := hb1.size
  rw [hz0] at hz1 hb1
  have hF1 := (unhide HF).below hb1 (by omega)
  have HF1 := hide hF1
  have HB1 : Hid (Below w.heap.size w W1) := (unhide HB0).trans (hb1.mono (by omega))
  obtain ⟨d0, d1, d2, d3, d4⟩ := hF1
  clear c0 HNM HF HB0 hb1
  have hcs : ∃ B : Bool, Hid (R = (!B && RB)) ∧ ((N = false ∧ B = true) ∨ (N = true ∧ D = true ∧ B = true) ∨ (N = true ∧ D = false ∧ V = true ∧ B = true) ∨
      (N = true ∧ D = false ∧ V = false ∧ fn = false ∧ more = true ∧ B = true) ∨ (N = true ∧ D = false ∧ V = false ∧ fn = false ∧ more = false ∧ B = false) ∨ (N = true ∧ D = false ∧ V = false ∧ fn = true ∧ B = false)) := by
    cases N
    · exact ⟨true, unhide HR, .inl ⟨rfl, rfl⟩⟩
    · cases D
      · cases V
        · cases fn
          · cases more
            · exact ⟨false, unhide HR, .inr (.inr (.inr (.inr (.inl ⟨rfl, rfl, rfl, rfl, rfl, rfl⟩))))⟩
            · exact ⟨true, unhide HR, .inr (.inr (.inr (.inl ⟨rfl, rfl, rfl, rfl, rfl, rfl⟩)))⟩
          · exact ⟨false, unhide HR, .inr (.inr (.inr (.inr (.inr ⟨rfl, rfl, rfl, rfl, rfl⟩))))⟩
        · exact ⟨true, unhide HR, .inr (.inr (.inl ⟨rfl, rfl, rfl, rfl⟩))⟩
      · exact ⟨true, unhide HR, .inr (.inl ⟨rfl, rfl, rfl⟩)⟩
  obtain ⟨B, HRR, hcs⟩ := hcs
  clear HR
  go_upto_region 2 with fail
  go_cut [42] from 10 to 42 (fun c wx => c = .bool B ∧ wx = W1)
  case first =>
    clear HRR HRB HB1 HF1
    rcases hcs with ⟨rfl, rfl⟩ | ⟨rfl, rfl, rfl⟩ | ⟨rfl, rfl, rfl, rfl⟩ | ⟨rfl, rfl, rfl, rfl, rfl, rfl⟩ | ⟨rfl, rfl, rfl, rfl, rfl, rfl⟩ | ⟨rfl, rfl, rfl, rfl, rfl⟩
    all_goals
      go_wp2_with fail
      go_meet
      case rel => exact ⟨rfl, rfl⟩
  case rest =>
    obtain ⟨rfl, hww⟩ := hcut
    obtain rfl := hww.symm
    clear ed ev
    cases B
    · have HR4 : Hid (R = RB) := unhide HRR
      clear HRR hcs
      go_wp2
      go_loopg [4] 0 (fun gk i wr => i = .int .i64 0 ∧ wr = W1)
      case atStart => exact ⟨rfl, rfl⟩
      case round =>
        obtain ⟨rfl, hww⟩ := hrel
        obtain rfl := hww.symm
        have HRB2 := hide (unhide HRB _ (unhide HB1))
        go_wp2_with fail
        refine (unhide HRB2).mono ?_
        rintro e W2 ⟨rfl, hb2⟩
        go_wp2
        go_ret
        exact ⟨by rw [unhide HR4]; rfl, (unhide HB1).trans (hb2.mono (by omega))⟩
    · go_wp2
      go_ret
      exact ⟨by rw [unhide HRR]; rfl, unhide HB1⟩
theorem rRight_any (x : Value) (m : Mc) (w : World) (hf : McFits m) (hx : McV w.heap.size w x m) :
    Calls Tryz.prog 25 #[x] w fun e w' => e = .returned (.bool (rrightM m)) ∧ Below w.heap.size w w' := by
  by_cases h : 0 < m.ps.length
  · exact rRight_pos x m w hf hx h
  · obtain ⟨name, fn, ps, more, body⟩ := m
    obtain rfl : ps = [] := List.eq_nil_of_length_eq_zero (by simp at h; simpa using h)
    exact rRight_nil x name fn more body w hf hx
end Go.Proofs.YticiddcgafhkhaaGreatDoor
