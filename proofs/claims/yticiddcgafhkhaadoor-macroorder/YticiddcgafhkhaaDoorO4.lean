/-
  burinlaw03.MacroOrder answers true for every lines: the walk.
-/
import Derived.Test.YticiddcgafhkhaaDoorO3
namespace Go.Proofs.YticiddcgafhkhaaDoor
open Go Go.RowKit
set_option linter.unusedVariables false
set_option linter.unusedSimpArgs false

/-- What lies when both tables stand, and nothing is in them. -/
structure Od (w W : World) (ta ma tb mb : Nat) : Prop where
  below : Below w.heap.size w W
  a : Tab W ta ma []
  b : Tab W tb mb []
  ha : w.heap.size ≤ ma
  hb : ta < mb
/-- The names read so far, in their slice. -/
structure Nr (W3 wr : World) (v : Value) (k : Nat) (ms : List Mc) : Prop where
  below : Below W3.heap.size W3 wr
  row : wr.ownsRow W3.heap.size 9 1 v k (sCells (ms.map Mc.name))
  nd : (ms.map Mc.name).Nodup
theorem Nr.len {W3 wr : World} {v : Value} {k : Nat} {ms : List Mc} (h : Nr W3 wr v k ms) : k = ms.length := by
  have := h.row.1
  simp [sCells] at this
  omega
theorem Nr.next {W3 wr wr' : World} {v : Value} {k : Nat} {ms : List Mc} (h : Nr W3 wr v k ms) (hb : Below wr.heap.size wr wr') : Nr W3 wr' v k ms :=
  ⟨h.below.trans (hb.mono h.below.size), ownsRow_bel h.row hb, h.nd⟩
theorem MBox.frM {W W' : World} {M t mb n : Nat} {D : DataW Value} {nm pv bv : Value} {fn more : Bool} (h : MBox W M nm fn pv more bv) (hf : Fr W W' mb) (hT : Tbl W t mb n D) : MBox W' M nm fn pv more bv :=
  h.fr hf (fun e => by
    obtain ⟨es, clock, e1, _⟩ := hT.2.1
    subst e
    have h' : W.heap[M]? = _ := h
    rw [h'] at e1
    cases e1)
/-- Both tables, half filled, and the names. -/
structure Ot (w wr : World) (ta ma tb mb : Nat) (v : Value) (k : Nat) (es A B : List Mc) : Prop where
  below : Below w.heap.size w wr
  a : Tab wr ta ma A
  b : Tab wr tb mb B
  row : wr.ownsRow 0 9 1 v k (sCells (es.map Mc.name))
  ha : w.heap.size ≤ ma
  hb : ta < mb
theorem Ot.next {w wr wr' : World} {ta ma tb mb k : Nat} {v : Value} {es A B : List Mc} (h : Ot w wr ta ma tb mb v k es A B) (hb : Below wr.heap.size wr wr') : Ot w wr' ta ma tb mb v k es A B :=
  ⟨h.below.trans (hb.mono h.below.size), h.a.next hb, h.b.next hb, ownsRow_bel h.row hb, h.ha, h.hb⟩
theorem Ot.defA {w wr wr' : World} {ta ma tb mb k : Nat} {v : Value} {es A B A' : List Mc} (h : Ot w wr ta ma tb mb v k es A B) (hT : Tab wr' ta ma A') (hb : Below ma wr wr') (hf : Fr wr wr' ma) : Ot w wr' ta ma tb mb v k es A' B := by
  obtain ⟨n, D, hA⟩ := h.a
  have h1 := h.a.ord
  have h2 := h.b.ord
  have h3 := h.hb
  exact ⟨h.below.trans (hb.mono h.ha), hT, h.b.other hf hA.tbl (by omega) (by omega), ownsRow_frM h.row hf hA.tbl, h.ha, h.hb⟩
theorem Ot.defB {w wr wr' : World} {ta ma tb mb k : Nat} {v : Value} {es A B B' : List Mc} (h : Ot w wr ta ma tb mb v k es A B) (hT : Tab wr' tb mb B') (hb : Below mb wr wr') (hf : Fr wr wr' mb) : Ot w wr' ta ma tb mb v k es A B' := by
  obtain ⟨n, D, hB⟩ := h.b
  have h1 := h.a.ord
  have h2 := h.b.ord
  have h3 := h.hb
  have h4 := h.ha
  exact ⟨h.below.trans (hb.mono (by omega)), h.a.other hf hB.tbl (by omega) (by omega), hT, ownsRow_frM h.row hf hB.tbl, h.ha, h.hb⟩
set_option maxRecDepth 100000 in
set_option maxHeartbeats 8000000 in
theorem order_walk (p : Option Addr) (cap : Nat) (l : List (List UInt8)) (w : World) (hcap : l.length ≤ cap) (hcm : cap ≤ maxLen) (hl : ∀ s ∈ l, s.length ≤ 140737488351232) (hv : StG w.heap.size w (.slice p l.length cap) l) (hw0 : 1 < w.heap.size) (hsg : Sg w) :
    Calls Tryd.prog 9 #[.slice p l.length cap] w fun e w' => e = .returned (.bool true) ∧ Below w.heap.size w w' := by
  have HSH := hide (shown_any w hw0 hsg)
  have hcm' : cap ≤ 9223372036854775807 := hcm
  have HM : Hid (∃ n : Nat, min (l.length : Int) 30 = (n : Int) ∧ (n : Int) ≤ (cap : Int) ∧ l.take 30 = l.take n ∧ n ≤ l.length ∧ n ≤ 30) := by
    by_cases h : l.length ≤ 30
    · exact ⟨l.length, by omega, by omega, by rw [List.take_of_length_le h, List.take_length], Nat.le_refl _, h⟩
    · exact ⟨30, by omega, by omega, rfl, by omega, by omega⟩
  obtain ⟨n, hmin, hnc, hta, hnl, hn30⟩ := unhide HM
  have hT := StG.take hv n hnl
  have htl : (l.take n).length = n := by simp; omega
  have hls : ∀ s ∈ l.take n, s.length ≤ 140737488351232 := fun s hs => hl s (List.mem_of_mem_take hs)
  have HT := hide hT
  have HLS := hide hls
  have HSG := hide hsg
  clear HM hta hT hsg hv hls hl
  generalize l.take n = ws at *
  have hn0 : (0 : Int) ≤ (n : Int) := by omega
  go_enter Tryd.func9, Tryd.ntmps9
  go_wp2_with fail
  refine (unhide HSH).mono ?_
  rintro e W1 ⟨rfl, hb1⟩
  have hs1 := hb1.size
  go_wp2_with fail
  refine (New_any W1).mono ?_
  rintro e W2 ⟨rfl, hT2, hb2, hz2⟩
  go_wp2_with fail
  refine (New_any W2).mono ?_
  rintro e W3 ⟨rfl, hT3, hb3, hz3⟩
  have HOD : Hid (Od w W3 (W1.heap.size + 1) W1.heap.size (W2.heap.size + 1) W2.heap.size) :=
    ⟨(hb1.trans (hb2.mono hs1)).trans (hb3.mono (by omega)), (Tab.new hT2).next hb3, Tab.new hT3, hs1, by omega⟩
  have hs3 : w.heap.size ≤ W3.heap.size := by omega
  generalize hta : W1.heap.size + 1 = ta at *
  generalize hma : W1.heap.size = ma at *
  generalize htb : W2.heap.size + 1 = tb at *
  generalize hmb : W2.heap.size = mb at *
  clear hb1 hb2 hb3 hT2 hT3 hta hma htb hmb HSH hz2 hz3
  go_wp2
  go_loopg [7, 6] n (fun gk vi vn wr => ∃ (i k : Nat) (q : Option Addr) (c : Nat), gk = n - i ∧ vi = .int .i64 i ∧ vn = .slice q k c ∧ i ≤ n ∧ k ≤ i ∧ Hid (Nr W3 wr (.slice q k c) k (msOf (ws.take i))))
  case atStart => exact ⟨0, 0, none, 0, rfl, rfl, rfl, by omega, by omega, ⟨Below.refl _ _, World.ownsRow_nil _ _ _ _, by simp [msOf]⟩⟩
  case round =>
    obtain ⟨i, k, q, c, rfl, rfl, rfl, hi, hk, HN⟩ := hrel
    have HB := hide ((unhide HOD).below.trans ((unhide HN).below.mono (unhide HOD).below.size))
    by_cases hlt : i < n
    · have i1 : (i : Int) < (n : Int) := by omega
      have hlw : i < ws.length := by omega
      obtain ⟨g, o, rfl, hg, c0⟩ := (unhide HT).at i hlw
      replace c0 := ((unhide HB).cell (p := ⟨g, o + i, none⟩) hg).trans c0
      have HLX := hide (lexS_any ws[i] wr (unhide HLS _ (List.getElem_mem _)) (Nat.lt_of_lt_of_le hw0 (unhide HB).size) ((unhide HSG).below (unhide HB) hw0))
      have HMS := hide (msOf_take hlw)
      have HPF := hide (fun m => pmS_fit (m := m) (unhide HLS _ (List.getElem_mem hlw)))
      generalize ws[i] = x at *
      go_wp2_with fail
      refine (unhide HLX).mono ?_
      rintro e V1 ⟨q1, n1, c1, rfl, hP, hb1⟩
      have HP := hide (hP V1 (Below.refl _ _))
      have HN1 := hide ((unhide HN).next hb1)
      clear HN HLX hP hb1 c0
      go_wp2_with fail
      refine (unhide HP).mono ?_
      intro e V2 hp
      obtain ⟨s, fn, mq, mn, mc, more, bp, bn, bc, rfl, hx, hb2⟩ := hp.xv
      have hal := (Below.refl _ V2).alloc (Nat.le_refl _) (.cells #[.string s, .bool fn, .slice mq mn mc, .bool more, .slice bp bn bc] 25)
      have HN3 := hide (((unhide HN1).next hb2).next hal)
      have hM : MBox (V2.alloc (.cells #[.string s, .bool fn, .slice mq mn mc, .bool more, .slice bp bn bc] 25)) V2.heap.size (.string s) fn (.slice mq mn mc) more (.slice bp bn bc) := World.alloc_heap_new V2 _
      have HM3 := hide hM
      clear HP HN1 hp hb2 hal hM
      generalize pmS x = R at *
      cases R with
      | none =>
        simp only [errOf, Option.isSome] at *
        have HN4 : Hid (Nr W3 (V2.alloc (.cells #[.string s, .bool fn, .slice mq mn mc, .bool more, .slice bp bn bc] 25)) (.slice q k c) k (msOf (ws.take (i + 1)))) := by
          rw [Hid, unhide HMS]; simpa using unhide HN3
        clear HMS HN3 HM3 hx HPF
        go_wp2
        go_roundg (n - (i + 1))
        case measure => omega
        case rel => exact ⟨i + 1, k, q, c, rfl, by go_num, rfl, by omega, by omega, HN4⟩
      | some m =>
        simp only [errOf, Option.isSome] at *
        rcases hx with ⟨hx, _⟩ | ⟨m', hm', hx⟩
        · cases hx
        obtain rfl : m = m' := by simpa using hm'
        have hsn : s = ⟨m.name.toArray⟩ := by obtain ⟨pv, bv, e, _⟩ := hx; simp at e; exact e.1
        subst hsn
        generalize hV3 : V2.alloc (.cells #[.string ⟨m.name.toArray⟩, .bool fn, .slice mq mn mc, .bool more, .slice bp bn bc] 25) = V3 at *
        have hkl := (unhide HN3).len
        have HST := hide (StG.of (unhide HN3).row (by rw [List.length_map]; exact hkl))
        have HAL : Hid (k = ((msOf (ws.take i)).map Mc.name).length) := by rw [Hid, List.length_map]; exact hkl
        have HAC : Hid (∀ j, j < k → ((msOf (ws.take i)).map Mc.name)[j]? = ((msOf (ws.take i)).map Mc.name)[j]?) := fun _ _ => rfl
        clear hm' hx HPF hkl HAC
        go_wp2
        clear hV3
        go_loopg [10] k (fun gk vk wr2 => ∃ (j mm : Nat), gk = k - j ∧ vk = .int .i64 j ∧ j ≤ k ∧ Hid (wr2 = V3.drewN mm) ∧ Hid (m.name ∉ ((msOf (ws.take i)).map Mc.name).take j))
        case atStart => exact ⟨0, 0, rfl, rfl, by omega, rfl, by simp [Hid]⟩
        case round =>
          obtain ⟨j, mm, rfl, rfl, hj, hww, HNO⟩ := hrel
          have hcl : ∀ a v, V3.cell? a = some v → wr.cell? a = some v := fun a v h => by rw [unhide hww]; exact h
          have m0 := hcl _ _ (unhide HM3).five.1
          have HNb : Hid (Nr W3 wr (.slice q k c) k (msOf (ws.take i))) := by
            rw [Hid, unhide hww]; exact (unhide HN3).next (below_drewK (Below.refl _ _) mm)
          by_cases hjk : j < k
          · have i2 : (j : Int) < (k : Int) := by omega
            obtain ⟨gn, on, rfl, _, y0⟩ := (unhide HST).at j (by have := unhide HAL; omega)
            replace y0 := hcl _ _ y0
            have htk : Hid (((msOf (ws.take i)).map Mc.name).take (j + 1) = ((msOf (ws.take i)).map Mc.name).take j ++ [((msOf (ws.take i)).map Mc.name)[j]'(by have := unhide HAL; omega)]) := by
              rw [Hid, List.take_add_one, List.getElem?_eq_getElem (by have := unhide HAL; omega)]; rfl
            generalize ((msOf (ws.take i)).map Mc.name)[j]'(by have := unhide HAL; omega) = y at *
            have hxe := beq_list y m.name
            clear hcl
            cases hE : decide (y = m.name)
            · rw [hE] at hxe
              have HNO2 : Hid (m.name ∉ ((msOf (ws.take i)).map Mc.name).take (j + 1)) := by
                rw [Hid, unhide htk]
                intro h
                rcases List.mem_append.1 h with h | h
                · exact unhide HNO h
                · exact of_decide_eq_false hE (by simp at h; exact h.symm)
              clear hE htk HNO HST HMS HM3 HN3 HNb
              go_upto_region 14 with fail
              go_quiet (fail)
              go_wp2
              go_roundg (k - (j + 1))
              case measure => omega
              case rel => exact ⟨j + 1, _, rfl, by go_num, by omega, hide (Hdrew hww), HNO2⟩
            · rw [hE] at hxe
              clear hE htk HNO HST HMS HM3 HN3
              have HBx := hide ((unhide HOD).below.trans ((unhide HNb).below.mono (unhide HOD).below.size))
              go_upto_region 14 with fail
              go_quiet (fail)
              go_wp2
              go_ret
              exact ⟨rfl, below_drewK (unhide HBx) _⟩
          · have i2 : ¬ (j : Int) < (k : Int) := by omega
            have HNEW : Hid (((msOf (ws.take (i + 1))).map Mc.name).Nodup ∧ sCells ((msOf (ws.take (i + 1))).map Mc.name) = sCells ((msOf (ws.take i)).map Mc.name) ++ [.string ⟨m.name.toArray⟩]) := by
              have h1 := unhide HNO
              rw [List.take_of_length_le (by have := unhide HAL; omega)] at h1
              rw [Hid, unhide HMS]
              simp only [Option.toList, List.map_append, List.map_cons, List.map_nil]
              refine ⟨List.nodup_append.2 ⟨(unhide HNb).nd, by simp, fun a ha b hb => ?_⟩, by simp [sCells]⟩
              have hb' : b = m.name := by simpa using hb
              subst hb'
              exact fun e => h1 (e ▸ ha)
            obtain ⟨i0, hi0, hz0', hz1', hz2'⟩ := info_parts Tryd.info9
            have hba : Below wr.heap.size wr (wr.alloc (.cells #[.string ⟨m.name.toArray⟩] 9)) := (Below.refl _ wr).alloc (Nat.le_refl _) _
            have HRow := hide (ownsRow_bel (unhide HNb).row hba)
            have hsw := (unhide HNb).below.size
            have HBA := hide ((unhide HNb).below.trans (hba.mono hsw))
            have HOWN := hide (unhide HNb).row.lt
            clear hba hcl HNO HST HMS HM3 HN3 HNb HAL
            go_wp2_with (at_builtin; refine wpList_append_own _ rfl _ _ 22 rfl W3.heap.size 9 i0 _ 1 16 Tryd.underlying22 hi0 hz0' hz1' hz2' rfl (by decide) _ _ _ rfl (unhide HRow) ⟨wr.heap.size, 0, none⟩ 1 1 [.string ⟨m.name.toArray⟩] rfl rfl ?qc2 ?qc3 ?qc4 ?qc5 ?qc6 ?_)
            case qc3 => rfl
            case qc4 => unfold maxLen; omega
            case qc5 => omega
            case qc6 => omega
            intro v' w1 hown2 hgrow hnil
            obtain ⟨q', c', rfl⟩ := row_slice hown2
            have HF : Hid (Nr W3 w1 (.slice q' (k + 1) c') (k + 1) (msOf (ws.take (i + 1)))) :=
              ⟨(unhide HBA).grown hgrow (by simp; omega) (by intro k hk; have := (unhide HOWN k hk).1; omega), by rw [(unhide HNEW).2]; exact hown2, (unhide HNEW).1⟩
            clear HBA HRow HOWN HNEW hown2 hgrow hnil
            go_wp2
            go_roundg (n - (i + 1))
            case measure => omega
            case rel => exact ⟨i + 1, k + 1, q', c', rfl, by go_num, rfl, by omega, by omega, HF⟩
    · have i1 : ¬ (i : Int) < (n : Int) := by omega
      obtain rfl : i = n := by omega
      have htn : ws.take i = ws := List.take_of_length_le (by omega)
      have hN := unhide HN
      rw [htn] at hN
      have hkl := hN.len
      have hnd := hN.nd
      have HOT : Hid (Ot w wr ta ma tb mb (.slice q k c) k (msOf ws) (msOf (ws.take 0)) (msOf (ws.reverse.take 0))) :=
        ⟨unhide HB, (unhide HOD).a.next hN.below, (unhide HOD).b.next hN.below, ownsRow_base hN.row (Nat.zero_le _), (unhide HOD).ha, (unhide HOD).hb⟩
      have HND := hide hnd
      have HNDR : Hid (((msOf ws.reverse).map Mc.name).Nodup) := by
        rw [Hid, msOf_rev, List.map_reverse]; exact (List.reverse_perm _).nodup_iff.2 hnd
      have HKL := hide hkl
      clear hN hnd hkl HN htn HB HOD
      go_wp2
      go_loopg [11] i (fun gk vi wr => ∃ j : Nat, gk = i - j ∧ vi = .int .i64 j ∧ j ≤ i ∧ Hid (Ot w wr ta ma tb mb (.slice q k c) k (msOf ws) (msOf (ws.take j)) (msOf (ws.reverse.take j))))
      case atStart => exact ⟨0, rfl, rfl, by omega, HOT⟩
      case round =>
        clear HOT
        obtain ⟨j, rfl, rfl, hj, HOT⟩ := hrel
        by_cases hlt2 : j < i
        · have i2 : (j : Int) < (i : Int) := by omega
          have hlw : j < ws.length := by omega
          have hlr : j < ws.reverse.length := by simp; omega
          have hre : ws.reverse[j] = ws[i - 1 - j] := by rw [List.getElem_reverse]; congr 1; omega
          obtain ⟨g, o, rfl, hg, c0⟩ := (unhide HT).at j hlw
          obtain ⟨g', o', hgo, _, d0⟩ := (unhide HT).at (i - 1 - j) (by omega)
          obtain ⟨rfl, rfl⟩ : g = g' ∧ o = o' := by simpa using hgo
          rw [← hre] at d0
          have hr : ((i : Int) - 1 - (j : Int)) = ((i - 1 - j : Nat) : Int) := by omega
          have hr2 : ((i - 1 - j : Nat) : Int) < (i : Int) := by omega
          have HD0 := hide d0
          replace c0 := ((unhide HOT).below.cell (p := ⟨g, o + j, none⟩) hg).trans c0
          have hs0 := (unhide HOT).below.size
          have HLX := hide (lexS_any ws[j] wr (unhide HLS _ (List.getElem_mem _)) (Nat.lt_of_lt_of_le hw0 hs0) ((unhide HSG).below (unhide HOT).below hw0))
          have HMA := hide (msOf_take hlw)
          have HMB := hide (msOf_take hlr)
          have HPA : Hid (∀ m, pmS ws[j] = some m → rightM m = true ∧ McFits m ∧ m.name ∉ (msOf (ws.take j)).map Mc.name) := fun m hm =>
            ⟨(pmS_fit (unhide HLS _ (List.getElem_mem hlw)) hm).1, (pmS_fit (unhide HLS _ (List.getElem_mem hlw)) hm).2, (msOf_next hlw (unhide HND) hm).1⟩
          have hlb : ws.reverse[j].length ≤ 140737488351232 := unhide HLS _ (List.mem_reverse.1 (List.getElem_mem hlr))
          have HPB : Hid (∀ m, pmS ws.reverse[j] = some m → rightM m = true ∧ McFits m ∧ m.name ∉ (msOf (ws.reverse.take j)).map Mc.name) := fun m hm =>
            ⟨(pmS_fit hlb hm).1, (pmS_fit hlb hm).2, (msOf_next hlr (unhide HNDR) hm).1⟩
          have HLB := hide hlb
          generalize ws[j] = x at *
          generalize ws.reverse[j] = y at *
          clear hre hlb d0 hgo
          go_wp2_with fail
          refine (unhide HLX).mono ?_
          rintro e V1 ⟨q1, n1, c1, rfl, hP, hb1⟩
          have HP := hide (hP V1 (Below.refl _ _))
          have HO1 := hide ((unhide HOT).next hb1)
          clear HOT HLX hP hb1 c0
          go_wp2_with fail
          refine (unhide HP).mono ?_
          intro e V2 hp
          obtain ⟨s, fn, mq, mn, mc, more, bp, bn, bc, rfl, hx, hb2⟩ := hp.xv
          have hal := (Below.refl _ V2).alloc (Nat.le_refl _) (.cells #[.string s, .bool fn, .slice mq mn mc, .bool more, .slice bp bn bc] 25)
          have HO3 := hide (((unhide HO1).next hb2).next hal)
          have hM : MBox (V2.alloc (.cells #[.string s, .bool fn, .slice mq mn mc, .bool more, .slice bp bn bc] 25)) V2.heap.size (.string s) fn (.slice mq mn mc) more (.slice bp bn bc) := World.alloc_heap_new V2 _
          have HX3 := hide (hx.next hal)
          have HM3 := hide hM
          have c0 := ((unhide HO3).below.cell (p := ⟨g, o + (i - 1 - j), none⟩) hg).trans (unhide HD0)
          have HLY := hide (lexS_any y _ (unhide HLB) (Nat.lt_of_lt_of_le hw0 (unhide HO3).below.size) ((unhide HSG).below (unhide HO3).below hw0))
          clear HP HO1 hp hb2 hal hM hx
          go_wp2_with fail
          refine (unhide HLY).mono ?_
          rintro e V4 ⟨q4, n4, c4, rfl, hP, hb4⟩
          have HP := hide (hP V4 (Below.refl _ _))
          have HO4 := hide ((unhide HO3).next hb4)
          have HX4 := hide ((unhide HX3).next hb4)
          have HM4 := hide ((unhide HM3).below hb4 (unhide HM3).lt)
          clear HO3 HX3 HM3 HLY hP hb4 c0
          go_wp2_with fail
          refine (unhide HP).mono ?_
          intro e V5 hp
          obtain ⟨s', fn', mq', mn', mc', more', bp', bn', bc', rfl, hx, hb5⟩ := hp.xv
          have hal := (Below.refl _ V5).alloc (Nat.le_refl _) (.cells #[.string s', .bool fn', .slice mq' mn' mc', .bool more', .slice bp' bn' bc'] 25)
          have HO6 := hide (((unhide HO4).next hb5).next hal)
          have hM : MBox (V5.alloc (.cells #[.string s', .bool fn', .slice mq' mn' mc', .bool more', .slice bp' bn' bc'] 25)) V5.heap.size (.string s') fn' (.slice mq' mn' mc') more' (.slice bp' bn' bc') := World.alloc_heap_new V5 _
          have HY6 := hide (hx.next hal)
          have HX6 := hide (((unhide HX4).next hb5).next hal)
          have hlm := (unhide HM4).lt
          have hM6 := ((unhide HM4).below hb5 hlm).below hal (Nat.lt_of_lt_of_le hlm hb5.size)
          have HN6 := hide hM
          obtain ⟨m0, m1, m2, m3, m4⟩ := hM6.five
          have hlA : (msOf (ws.take j)).length < 1000 := by have := msOf_len (ws.take j); simp at this; omega
          have hlB : (msOf (ws.reverse.take j)).length < 1000 := by have := msOf_len (ws.reverse.take j); simp at this; omega
          have HDA := hide (Define_opt ta ma (msOf (ws.take j)) (pmS x) s fn more mq bp mn mc bn bc _ (unhide HPA) (unhide HO6).a hlA (msOf_take_nodup j (unhide HND)) (unhide HX6) (Nat.lt_of_lt_of_le hw0 (unhide HO6).below.size) ((unhide HSG).below (unhide HO6).below hw0))
          rw [← unhide HMA] at HDA
          clear HP HO4 hp hb5 hal hM hx HX4 HM4 hM6 HPA hlA
          go_wp2_with fail
          refine (unhide HDA).mono ?_
          rintro e V7 ⟨⟨z7, rfl⟩, hT7, hb7, hf7⟩
          obtain ⟨na, Da, hTa⟩ := (unhide HO6).a
          have HO7 := hide ((unhide HO6).defA hT7 hb7 hf7)
          have hN7 := (unhide HN6).frM hf7 hTa.tbl
          have HY7 := hide ((unhide HY6).frM hf7 hTa.tbl)
          clear m0 m1 m2 m3 m4
          obtain ⟨m0, m1, m2, m3, m4⟩ := hN7.five
          have HDB := hide (Define_opt tb mb (msOf (ws.reverse.take j)) (pmS y) s' fn' more' mq' bp' mn' mc' bn' bc' V7 (unhide HPB) (unhide HO7).b hlB (msOf_take_nodup j (unhide HNDR)) (unhide HY7) (Nat.lt_of_lt_of_le hw0 (unhide HO7).below.size) ((unhide HSG).below (unhide HO7).below hw0))
          rw [← unhide HMB] at HDB
          clear HDA HO6 HN6 HY6 HX6 hT7 hb7 hf7 hTa hN7 HPB hlB
          go_wp2_with fail
          refine (unhide HDB).mono ?_
          rintro e V8 ⟨⟨z8, rfl⟩, hT8, hb8, hf8⟩
          have HO8 := hide ((unhide HO7).defB hT8 hb8 hf8)
          clear HDB HO7 HY7 hT8 hb8 hf8 m0 m1 m2 m3 m4
          go_wp2
          go_roundg (i - (j + 1))
          case measure => omega
          case rel => exact ⟨j + 1, rfl, by go_num, by omega, HO8⟩
        · have i2 : ¬ (j : Int) < (i : Int) := by omega
          obtain rfl : j = i := by omega
          have hO := unhide HOT
          rw [List.take_of_length_le (show ws.length ≤ j by omega), List.take_of_length_le (show ws.reverse.length ≤ j by simp; omega), msOf_rev] at hO
          have hel : (msOf ws).length < 1000 := by have := msOf_len ws; omega
          have HFT := hide (fun m (hm : m ∈ msOf ws) => msOf_fit (unhide HLS) hm)
          have hkl := unhide HKL
          have hnd := unhide HND
          generalize msOf ws = es at *
          have hNA := Names_tab ta ma es wr hO.a hnd hel
          rw [← hkl] at hNA
          have HNA := hide hNA
          have HO := hide hO
          have HEL := hide hel
          have HKL := hide hkl
          have HNDD := hide hnd
          clear HOT hO hNA HNDR HLS HT hel hkl hnd HND
          go_wp2_with fail
          refine (unhide HNA).mono ?_
          rintro e V1 ⟨v1, rfl, r1, hb1⟩
          obtain ⟨q1, c1, rfl⟩ := row_slice r1
          have HO1 := hide ((unhide HO).next hb1)
          have hNA2 := Names_tab ta ma es V1 (unhide HO1).a (unhide HNDD) (unhide HEL)
          rw [← unhide HKL] at hNA2
          have HNA2 := hide hNA2
          clear HNA r1 hb1 HO hNA2
          go_wp2_with fail
          refine (unhide HNA2).mono ?_
          rintro e V2 ⟨v2, rfl, r2, hb2⟩
          obtain ⟨q2, c2, rfl⟩ := row_slice r2
          have HO2 := hide ((unhide HO1).next hb2)
          have hndr : (es.reverse.map Mc.name).Nodup := by rw [List.map_reverse]; exact (List.reverse_perm _).nodup_iff.2 (unhide HNDD)
          have hNB := Names_tab tb mb es.reverse V2 (unhide HO2).b hndr (by rw [List.length_reverse]; exact unhide HEL)
          rw [List.length_reverse, ← unhide HKL, show (es.reverse.map Mc.name).mergeSort leB = (es.map Mc.name).mergeSort leB from mergeSort_of_perm (by rw [List.map_reverse]; exact List.reverse_perm _)] at hNB
          have HNB := hide hNB
          have HR2 := hide r2
          clear HNA2 HO1 r2 hb2 hNB hndr
          go_wp2_with fail
          refine (unhide HNB).mono ?_
          rintro e V3 ⟨v3, rfl, r3, hb3⟩
          obtain ⟨q3, c3, rfl⟩ := row_slice r3
          have HO3 := hide ((unhide HO2).next hb3)
          have hk30 : k ≤ 1000 := by have := unhide HEL; have := unhide HKL; omega
          have hml : ((es.map Mc.name).mergeSort leB).length = k := by simp; exact (unhide HKL).symm
          have HSN := hide (SameNames_eq q2 q3 c2 c3 k ((es.map Mc.name).mergeSort leB) V3 hml hk30 (StG.of (ownsRow_bel (unhide HR2) hb3) hml.symm) (StG.of r3 hml.symm))
          clear HNB HO2 HR2 r3 hb3 hml
          go_wp2_with fail
          refine (unhide HSN).mono ?_
          rintro e V4 ⟨rfl, hb4⟩
          have HO4 := hide ((unhide HO3).next hb4)
          clear HSN HO3 hb4
          go_wp2
          go_loopg [16] k (fun gk vi wr => ∃ j : Nat, gk = k - j ∧ vi = .int .i64 j ∧ j ≤ k ∧ Hid (Ot w wr ta ma tb mb (.slice q k c) k es es es.reverse))
          case atStart => exact ⟨0, rfl, rfl, by omega, HO4⟩
          case round =>
            clear HO4
            obtain ⟨jj, rfl, rfl, hjj, HO⟩ := hrel
            by_cases hlt3 : jj < k
            · have i3 : (jj : Int) < (k : Int) := by omega
              have hje : jj < es.length := by have := unhide HKL; omega
              obtain ⟨gn, on, rfl, hgn, y0⟩ := (StG.of (unhide HO).row (by rw [List.length_map]; exact unhide HKL)).at jj (by rw [List.length_map]; exact hje)
              simp only [List.getElem_map] at y0
              have hmem : es[jj] ∈ es := List.getElem_mem hje
              generalize es[jj] = m at *
              obtain ⟨hr, hf⟩ := unhide HFT m hmem
              have HGA := hide (Get_tab ta ma es m wr hmem hf hr (unhide HO).a)
              have HY0 := hide y0
              have hsm := rightM_small hr
              go_wp2_with fail
              refine (unhide HGA).mono ?_
              rintro e X1 ⟨aq, ac, ar, ak, rfl, hva, hx1⟩
              have hal := (Below.refl _ X1).alloc (Nat.le_refl _) (.cells #[.string ⟨m.name.toArray⟩, .bool m.fn, .slice aq m.ps.length ac, .bool m.more, .slice ar m.body.length ak] 25)
              have HX2 := hide (((unhide HO).next hx1).next hal)
              have HVA := hide (hva.below hal)
              have hbx := hx1.trans (hal.mono hx1.size)
              have y1 := (hbx.cell (p := ⟨gn, on + jj, none⟩) hgn).trans (unhide HY0)
              have hMa : MBox (X1.alloc (.cells #[.string ⟨m.name.toArray⟩, .bool m.fn, .slice aq m.ps.length ac, .bool m.more, .slice ar m.body.length ak] 25)) X1.heap.size (.string ⟨m.name.toArray⟩) m.fn (.slice aq m.ps.length ac) m.more (.slice ar m.body.length ak) := World.alloc_heap_new X1 _
              have HMA := hide hMa
              have HGB := hide (Get_tab tb mb es.reverse m _ (List.mem_reverse.2 hmem) hf hr (unhide HX2).b)
              clear HGA HO hva hx1 hal hbx hMa HY0 y0
              go_wp2_with fail
              refine (unhide HGB).mono ?_
              rintro e X3 ⟨bq, bc, br, bk, rfl, hvb, hx3⟩
              have hal := (Below.refl _ X3).alloc (Nat.le_refl _) (.cells #[.string ⟨m.name.toArray⟩, .bool m.fn, .slice bq m.ps.length bc, .bool m.more, .slice br m.body.length bk] 25)
              have HX4 := hide (((unhide HX2).next hx3).next hal)
              have hla := (unhide HMA).lt
              have hMa := ((unhide HMA).below hx3 hla).below hal (Nat.lt_of_lt_of_le hla hx3.size)
              have hMb : MBox (X3.alloc (.cells #[.string ⟨m.name.toArray⟩, .bool m.fn, .slice bq m.ps.length bc, .bool m.more, .slice br m.body.length bk] 25)) X3.heap.size (.string ⟨m.name.toArray⟩) m.fn (.slice bq m.ps.length bc) m.more (.slice br m.body.length bk) := World.alloc_heap_new X3 _
              have HE := hide (rEqual_any _ _ m m _ (by omega) (by omega) (((unhide HVA).below hx3).below hal) (hvb.below hal))
              have hdd : decide (m = m) = true := decide_eq_true rfl
              rw [hdd] at HE
              obtain ⟨a0, a1, a2, a3, a4⟩ := hMa.five
              obtain ⟨b0, b1, b2, b3, b4⟩ := hMb.five
              clear hdd HGB HX2 HVA HMA hvb hx3 hal hMa hMb y1
              go_wp2_with fail
              refine (unhide HE).mono ?_
              rintro e X5 ⟨rfl, hx5⟩
              have HX5 := hide ((unhide HX4).next hx5)
              clear HE HX4 hx5 a0 a1 a2 a3 a4 b0 b1 b2 b3 b4
              go_wp2
              go_roundg (k - (jj + 1))
              case measure => omega
              case rel => exact ⟨jj + 1, rfl, by go_num, by omega, HX5⟩
            · have i3 : ¬ (jj : Int) < (k : Int) := by omega
              go_wp2
              go_ret
              exact ⟨rfl, (unhide HO).below⟩
end Go.Proofs.YticiddcgafhkhaaDoor
