/-
  burinlaw03.MacroKeeps answers true for every string and byte: the walk.
-/
import Derived.Test.YticiddcgafhkhaaDoorT5
import Derived.Test.YticiddcgafhkhaaDoorV8
import Derived.Laws.BytesArg
namespace Go.Proofs.YticiddcgafhkhaaDoor
open Go Go.RowKit
set_option linter.unusedVariables false
set_option linter.unusedSimpArgs false

theorem und47 : Tryd.prog.underlying 47 = some (.slice 5) := by kernel_rfl
theorem und5b : Tryd.prog.underlying 5 = some (.int .u8) := by kernel_rfl
theorem conv_byte (w : World) (c : Int) : (convert 47 9 (.slice (some ⟨w.heap.size, 0, none⟩) 1 1)).run Tryd.prog (w.alloc (.cells #[.int .u8 c] 5)) = .ok (.string (strOfNums [c])) (w.alloc (.cells #[.int .u8 c] 5)) :=
  run_convert_bytes_arg (P := Tryd.prog) (w.alloc (.cells #[.int .u8 c] 5)) 47 5 und47 und5b w.heap.size 0 1 1 [c] rfl (fun i hi => by
    obtain rfl : i = 0 := by omega
    rw [World.cell?, World.alloc_heap_new w _]
    rfl) 9 und9s
theorem rightM_small {m : Mc} (h : rightM m = true) : m.ps.length ≤ 16 ∧ m.body.length ≤ 500 := by
  unfold rightM at h
  simp only [Bool.and_eq_true] at h
  obtain ⟨_, _, _, _, h1, h2⟩ := h
  unfold rpB at h1
  unfold rbB at h2
  simp only [Bool.and_eq_true, decide_eq_true_eq] at h1 h2
  exact ⟨h1.1, h2.1⟩
theorem parseM_fit {s : List UInt8} (hs : s.length ≤ 140737488351232) {m : Mc} (h : parseM ((Tk.lex [(1, s)]).1.map Tk.T.g) = some m) : rightM m = true ∧ McFits m := by
  unfold parseM at h
  split at h
  · cases h
  · rename_i nm fn ps more body hh
    have hf := (fit_lexed 1 s hs hh).1
    split at h
    · rename_i hr
      cases h
      exact ⟨hr, hf⟩
    · cases h
theorem McV.belowB {B : Nat} {W W' : World} {x : Value} {m : Mc} (h : McV B W x m) (hb : Below B W W') : McV B W' x m := by
  obtain ⟨pv, bv, e, a, b, c⟩ := h
  exact ⟨pv, bv, e, a.below hb, b.below hb, c⟩
theorem McV.monoB {B B' : Nat} {W : World} {x : Value} {m : Mc} (h : McV B W x m) (hb : B ≤ B') : McV B' W x m := by
  obtain ⟨pv, bv, e, a, b, c⟩ := h
  exact ⟨pv, bv, e, a.mono hb, b.mono hb, c⟩
theorem McV.frB {W W' : World} {m : Mc} {g B S qn rn cc kk : Nat} {q r : Option Addr} (h : McV W.heap.size W (.agg #[.string ⟨m.name.toArray⟩, .bool m.fn, .slice q qn cc, .bool m.more, .slice r rn kk]) m) (hf : Fr W W' g) (ha : ∀ b, B ≤ b → b < S → b ≠ g)
    (h1 : NewS B (.slice q qn cc)) (h2 : NewS B (.slice r rn kk)) (h3 : ∀ g o n c, (.slice q qn cc : Value) = .slice (some ⟨g, o, none⟩) n c → g < S) (h4 : ∀ g o n c, (.slice r rn kk : Value) = .slice (some ⟨g, o, none⟩) n c → g < S) :
    McV W'.heap.size W' (.agg #[.string ⟨m.name.toArray⟩, .bool m.fn, .slice q qn cc, .bool m.more, .slice r rn kk]) m := by
  obtain ⟨pv, bv, e, a, b, c⟩ := h
  simp at e
  obtain ⟨rfl, rfl⟩ := e
  exact ⟨_, _, rfl, a.fr hf (fun b o hb => ha b (h1 b o _ _ (by rw [hb])) (h3 b o _ _ (by rw [hb]))), b.fr hf (fun b o hb => ha b (h2 b o _ _ (by rw [hb])) (h4 b o _ _ (by rw [hb]))), c⟩
/-- What lies at the end of Define, as the rest of the walk needs it. -/
structure Kv (w0 W : World) (M t mb : Nat) (D : DataW Value) (m : Mc) (x v : Value) : Prop where
  below : Below w0.heap.size w0 W
  tbl : Tbl W t mb 1 D
  atk : D.atKey (.string m.name) (.held (.agg zeroM)) = .held v
  has : Maps.has D (.string m.name) = true
  own : McV W.heap.size W x m
  ent : McV W.heap.size W v m
theorem Kv.next {w0 W W' : World} {M t mb : Nat} {D : DataW Value} {m : Mc} {x v : Value} (h : Kv w0 W M t mb D m x v) (hb : Below W.heap.size W W') : Kv w0 W' M t mb D m x v :=
  ⟨h.below.trans (hb.mono h.below.size), h.tbl.below hb h.tbl.lt, h.atk, h.has, h.own.below hb, h.ent.below hb⟩
theorem Kv.get {w0 W : World} {M t mb : Nat} {D : DataW Value} {m : Mc} {x v : Value} (h : Kv w0 W M t mb D m x v) (hf : McFits m) (hr : rightM m = true) :
    Calls Tryd.prog 24 #[.pointer (some ⟨t, 0, none⟩), .string ⟨m.name.toArray⟩] W fun e w' => ∃ q c r k, e = .returned (.tuple #[.agg #[.string ⟨m.name.toArray⟩, .bool m.fn, .slice q m.ps.length c, .bool m.more, .slice r m.body.length k], .bool true]) ∧
      w'.ownsRow W.heap.size 9 1 (.slice q m.ps.length c) m.ps.length (sCells m.ps) ∧ w'.ownsRow W.heap.size 49 6 (.slice r m.body.length k) m.body.length (gCells m.body) ∧ Below W.heap.size W w' := by
  have := rightM_small hr
  exact Get_ent t mb 1 D m v W hf.name (by omega) (by omega) h.tbl h.atk h.has h.ent

set_option maxRecDepth 100000 in
set_option maxHeartbeats 8000000 in
theorem keeps_walk (s : ByteArray) (c : Int) (w : World) (hs : s.size ≤ 140737488351232) (hw0 : 1 < w.heap.size) (hsg : Sg w) :
    Calls Tryd.prog 7 #[.string s, .int .u8 c] w fun e w' => e = .returned (.bool true) ∧ Below w.heap.size w w' := by
  have hsl : s.data.toList.length ≤ 140737488351232 := by
    have e : s.data.toList.length = s.size := by simp
    omega
  have HSH := hide (shown_any w hw0 hsg)
  have HLX := hide (fun W (hB : Below w.heap.size w W) => lexedR_any s W (by omega) (Nat.lt_of_lt_of_le hw0 hB.size) (Sg.below hsg hB hw0))
  have HP1 := hide (fun (v : Value) (base : Nat) (W : World) (hB : Below w.heap.size w W) (hr : W.ownsRow base 49 6 v (Tk.lex [(1, s.data.toList)]).1.length (tokCells (Tk.lex [(1, s.data.toList)]).1)) => ParseLex_any 1 s.data.toList v base W hsl hr (Nat.lt_of_lt_of_le hw0 hB.size) (Sg.below hsg hB hw0))
  have HFT := hide (fun m => parseM_fit (m := m) hsl)
  have HSG := hide hsg
  clear hsg hsl
  have hlx : lex1 s = Tk.lex [(1, s.data.toList)] := rfl
  rw [hlx] at HLX
  clear hlx
  generalize parseM ((Tk.lex [(1, s.data.toList)]).1.map Tk.T.g) = PM at *
  generalize Tk.lex [(1, s.data.toList)] = LX at *
  obtain ⟨L, er, ln⟩ := LX
  simp only at HLX HP1
  go_enter Tryd.func7, Tryd.ntmps7
  go_wp2_with fail
  refine (unhide HSH).mono ?_
  rintro e W1 ⟨rfl, hb1⟩
  have HB1 := hide hb1
  have H1 := hide (unhide HLX W1 hb1)
  clear HSH hb1 HLX
  go_wp2_with fail
  refine (unhide H1).mono ?_
  rintro e W2 ⟨v2, rfl, hr2, hb2⟩
  have HB2 := hide ((unhide HB1).trans (hb2.mono (unhide HB1).size))
  have H2 := hide (unhide HP1 _ _ W2 (unhide HB2) hr2)
  obtain ⟨p2, c2, rfl⟩ := ownsRow_slice hr2
  clear H1 hb2 hr2 HB1 HP1
  go_wp2_with fail
  refine (unhide H2).mono ?_
  rintro e W3 ⟨hb3, (⟨rfl, rfl⟩ | ⟨m, x, rfl, rfl, hx⟩)⟩
  · have HB3 := hide (((unhide HB2).trans (hb3.mono (unhide HB2).size)).alloc (Nat.le_trans (unhide HB2).size hb3.size) (.cells #[.string ⟨#[]⟩, .bool false, .slice none 0 0, .bool false, .slice none 0 0] 25))
    rw [zero_agg]
    clear H2 hb3 HB2 HFT
    go_wp2
    go_ret
    exact ⟨rfl, unhide HB3⟩
  obtain ⟨hright, hfit⟩ := unhide HFT m rfl
  have HX := hide hx
  obtain ⟨pv, bv, rfl, s1, s2, hroom⟩ := hx
  obtain ⟨q, k, rfl, _⟩ := id s1
  obtain ⟨r, j, rfl, _⟩ := id s2
  have HB3 := hide ((unhide HB2).trans (hb3.mono (unhide HB2).size))
  have hal := (Below.refl _ W3).alloc (Nat.le_refl _) (.cells #[.string ⟨m.name.toArray⟩, .bool m.fn, .slice q m.ps.length k, .bool m.more, .slice r m.body.length j] 25)
  have hm : MBox (W3.alloc (.cells #[.string ⟨m.name.toArray⟩, .bool m.fn, .slice q m.ps.length k, .bool m.more, .slice r m.body.length j] 25)) W3.heap.size (.string ⟨m.name.toArray⟩) m.fn (.slice q m.ps.length k) m.more (.slice r m.body.length j) := World.alloc_heap_new W3 _
  have HBa := hide ((unhide HB3).trans (hal.mono (unhide HB3).size))
  have HX3 := hide (McV.below (unhide HX) hal)
  have hz3 : (W3.alloc (.cells #[.string ⟨m.name.toArray⟩, .bool m.fn, .slice q m.ps.length k, .bool m.more, .slice r m.body.length j] 25)).heap.size = W3.heap.size + 1 := by simp
  have HN := hide (New_any (W3.alloc (.cells #[.string ⟨m.name.toArray⟩, .bool m.fn, .slice q m.ps.length k, .bool m.more, .slice r m.body.length j] 25)))
  have HM3 := hide hm
  have HRM := hide (hroom _ _ _ rfl)
  have HF := hide hfit
  have HRT := hide hright
  clear H2 hb3 HB2 HFT hal hm HX HB3 s1 s2 hroom hfit hright
  go_wp2_with fail
  refine (unhide HN).mono ?_
  rintro e W4 ⟨rfl, hT4, hb4, hz4⟩
  rw [hz3] at hT4 hz4
  have hsw3 : w.heap.size ≤ W3.heap.size + 1 := hz3 ▸ (unhide HBa).size
  have hB4 := (unhide HBa).trans (hb4.mono (unhide HBa).size)
  have hX4 := McV.below (unhide HX3) hb4
  have hM4 := (unhide HM3).below hb4 (by rw [hz3]; omega)
  have hD := Define_new (W3.heap.size + 1 + 1) (W3.heap.size + 1) 0 (.map []) m q r k j W4 (unhide HF) (unhide HRM) (unhide HRT) (by unfold maxLen; omega) (by have := rightM_small (unhide HRT); omega) (by have := rightM_small (unhide HRT); omega) hT4 rfl rfl (by decide) (by obtain ⟨pv, bv, e', a, b, _⟩ := hX4; simp at e'; rw [e'.1]; exact a) (by obtain ⟨pv, bv, e', a, b, _⟩ := hX4; simp at e'; rw [e'.2]; exact b) (Nat.lt_of_lt_of_le hw0 hB4.size) (Sg.below (unhide HSG) hB4 hw0)
  have HD := hide hD
  have HB4 := hide hB4
  have HX4 := hide hX4
  have HM4 := hide hM4
  obtain ⟨m0, m1, m2, m3, m4⟩ := hM4.five
  have HX3' : Hid (McV (W3.heap.size + 1) W4 (.agg #[.string ⟨m.name.toArray⟩, .bool m.fn, .slice q m.ps.length k, .bool m.more, .slice r m.body.length j]) m) := by
    have a := unhide HX3
    rw [hz3] at a hb4
    exact a.belowB hb4
  clear HX3 HX4 hX4 hM4 hB4 HN hD HM3 HBa hb4 hT4
  rw [hz3]
  go_wp2_with fail
  refine (unhide HD).mono ?_
  rintro e W5 ⟨pv, bv, rfl, hT5, o1, o2, hb5, _⟩
  have hK5 : Kv w W5 W3.heap.size (W3.heap.size + 1 + 1) (W3.heap.size + 1) _ m (.agg #[.string ⟨m.name.toArray⟩, .bool m.fn, .slice q m.ps.length k, .bool m.more, .slice r m.body.length j]) (.agg #[.string ⟨m.name.toArray⟩, .bool m.fn, pv, .bool m.more, bv]) :=
    ⟨(unhide HB4).trans (hb5.mono hsw3), hT5, Maps.atKey_put_same Maps.isMap_empty (show WideAt.IsKeyLit (.string m.name) from trivial) _ _, Maps.has_put_same Maps.isMap_empty (show WideAt.IsKeyLit (.string m.name) from trivial) _, ((unhide HX3').belowB hb5).monoB (by have := hT5.lt; omega), McV.ofRows o1 o2⟩
  have hM5 := (unhide HM4).below hb5 (by omega)
  have HK5 := hide hK5
  have HM5 := hide hM5
  have HG5 := hide (hK5.get (unhide HF) (unhide HRT))
  have hl5 : W3.heap.size < W5.heap.size := hM5.lt
  clear m0 m1 m2 m3 m4
  obtain ⟨m0, m1, m2, m3, m4⟩ := hM5.five
  clear hb5 HX3' HD HB4 HM4 o1 o2 hT5 hM5 hK5
  go_wp2_with fail
  refine (unhide HG5).mono ?_
  rintro e W6 ⟨qa, ca, ra, ka, rfl, oa1, oa2, hb6⟩
  have hs6 := hb6.size
  have hal6 := (Below.refl _ W6).alloc (Nat.le_refl _) (.cells #[.string ⟨m.name.toArray⟩, .bool m.fn, .slice qa m.ps.length ca, .bool m.more, .slice ra m.body.length ka] 25)
  have hz6 : (W6.alloc (.cells #[.string ⟨m.name.toArray⟩, .bool m.fn, .slice qa m.ps.length ca, .bool m.more, .slice ra m.body.length ka] 25)).heap.size = W6.heap.size + 1 := by simp
  have hA6 : MBox (W6.alloc (.cells #[.string ⟨m.name.toArray⟩, .bool m.fn, .slice qa m.ps.length ca, .bool m.more, .slice ra m.body.length ka] 25)) W6.heap.size (.string ⟨m.name.toArray⟩) m.fn (.slice qa m.ps.length ca) m.more (.slice ra m.body.length ka) := World.alloc_heap_new W6 _
  have HA6 := hide hA6
  have hB6 := hb6.trans (hal6.mono hs6)
  have HB6 := hide hB6
  have hM6 := (unhide HM5).below hB6 hl5
  clear m0 m1 m2 m3 m4
  obtain ⟨m0, m1, m2, m3, m4⟩ := hM6.five
  have HG6 := hide (((unhide HK5).next hB6).get (unhide HF) (unhide HRT))
  have HLT1 := hide (row_lt oa1)
  have HLT2 := hide (row_lt oa2)
  have HOA1 := hide (ownsRow_bel oa1 hal6)
  have HOA2 := hide (ownsRow_bel oa2 hal6)
  clear hb6 hal6 oa1 oa2 hA6 hM6 hB6 HG5
  go_wp2_with fail
  refine (unhide HG6).mono ?_
  rintro e W7 ⟨qb, cb, rb, kb, rfl, ob1, ob2, hb7⟩
  rw [hz6] at hb7 ob1 ob2
  have hs7 : W6.heap.size + 1 ≤ W7.heap.size := hz6 ▸ hb7.size
  have hal7 := (Below.refl _ W7).alloc (Nat.le_refl _) (.cells #[.string ⟨m.name.toArray⟩, .bool m.fn, .slice qb m.ps.length cb, .bool m.more, .slice rb m.body.length kb] 25)
  have hz7 : (W7.alloc (.cells #[.string ⟨m.name.toArray⟩, .bool m.fn, .slice qb m.ps.length cb, .bool m.more, .slice rb m.body.length kb] 25)).heap.size = W7.heap.size + 1 := by simp
  have hQ7 : MBox (W7.alloc (.cells #[.string ⟨m.name.toArray⟩, .bool m.fn, .slice qb m.ps.length cb, .bool m.more, .slice rb m.body.length kb] 25)) W7.heap.size (.string ⟨m.name.toArray⟩) m.fn (.slice qb m.ps.length cb) m.more (.slice rb m.body.length kb) := World.alloc_heap_new W7 _
  have hA7 := ((unhide HA6).below hb7 (by omega)).below hal7 (by omega)
  have hB7 := ((unhide HB6).trans (hb7.mono (by omega))).trans (hal7.mono (by omega))
  have hoa1 := ownsRow_bel (ownsRow_bel (unhide HOA1) (by rw [hz6]; exact hb7)) hal7
  have hoa2 := ownsRow_bel (ownsRow_bel (unhide HOA2) (by rw [hz6]; exact hb7)) hal7
  have hob1 := ownsRow_bel ob1 hal7
  have hob2 := ownsRow_bel ob2 hal7
  have HNB1 := hide (newS_of ob1)
  have HNB2 := hide (newS_of ob2)
  have HLB1 := hide (row_lt ob1)
  have HLB2 := hide (row_lt ob2)
  have HVB := hide (McV.ofRows hob1 hob2)
  clear ob1 ob2 hob1 hob2 hal7 hb7 HG6 HA6 HB6 HOA1 HOA2 hz6 m0 m1 m2 m3 m4
  obtain ⟨hpl, hbl⟩ := rightM_small (unhide HRT)
  obtain ⟨g1, q1, c1, he1, hq1, hap1, hty1, hwr1⟩ := Wr.of hoa2 hB7 (Nat.le_refl _) (unhide HLT2)
  obtain ⟨rfl, rfl⟩ : ra = q1 ∧ ka = c1 := by simpa using he1
  have HW1 := hide hwr1
  have HAP1 := hide hap1
  have HTY1 := hide hty1
  have HQ7 := hide hQ7
  have HA7 := hide hA7
  have HOA1 := hide hoa1
  clear hoa1 hoa2 hQ7 hA7 hB7 hwr1 hap1 hty1 he1 HLT2
  go_wp2
  generalize W7.alloc (.cells #[.string ⟨m.name.toArray⟩, .bool m.fn, .slice qb m.ps.length cb, .bool m.more, .slice rb m.body.length kb] 25) = V at *
  go_loopg [14] m.body.length (fun gk i wr => ∃ k : Nat, gk = m.body.length - k ∧ i = .int .i64 k ∧ k ≤ m.body.length ∧ Hid (Wr W5 V wr g1 (m.body.length * 6)))
  case atStart => exact ⟨0, rfl, rfl, by omega, HW1⟩
  case round =>
    clear HW1
    obtain ⟨i, rfl, rfl, hi, HWR⟩ := hrel
    have hA := (unhide HA7).fr (unhide HWR).fr (unhide HAP1 _ (Nat.le_refl _) (by omega))
    by_cases hlt : i < m.body.length
    · have i1 : (i : Int) < (m.body.length : Int) := by omega
      obtain rfl := hq1 (by omega)
      obtain ⟨a0, a1, a2, a3, a4⟩ := hA.five
      have hl1 := (unhide HWR).lt (j := i * 6 + 1) (by omega)
      have hwr' := (unhide HWR).alloc (.cells #[.int .u8 c] 5)
      obtain ⟨u1, x1⟩ := hwr'.at_ (i * 6 + 1) (by omega)
      have f1 := hwr'.free (i * 6 + 1) (by omega)
      have hcv := conv_byte wr c
      generalize strOfNums [c] = sc at *
      have HN := hide (((unhide HWR).set (j := i * 6 + 1) (by omega) (.string sc)).alloc (.cells #[.int .u8 c] 5))
      clear hA hwr' HAP1 HTY1 HK5 HM5 HVB HQ7 HA7 HOA1 HLT1 HNB1 HNB2 HLB1 HLB2 HF HRT HRM HSG
      go_wp2
      go_roundg (m.body.length - (i + 1))
      case measure => omega
      case rel => exact ⟨i + 1, rfl, by go_num, by omega, HN⟩
    · have i1 : ¬ (i : Int) < (m.body.length : Int) := by omega
      obtain ⟨a0, a1, a2, a3, a4⟩ := hA.five
      obtain ⟨g2, q2, c2', he2, hq2, hap2, hty2, hwr2⟩ := Wr.of (W0 := W5) (S := W6.heap.size) (ownsRow_fr (unhide HOA1) (unhide HWR).fr (fun b cur h => unhide HTY1 b cur 9 h (by decide))) (unhide HWR).below (Nat.le_refl _) (unhide HLT1)
      obtain ⟨rfl, rfl⟩ : qa = q2 ∧ ca = c2' := by simpa using he2
      have HQ := hide ((unhide HQ7).fr (unhide HWR).fr (unhide HAP1 _ (by omega) (by omega)))
      have HA := hide hA
      have hsV := (unhide HWR).fr.1
      rw [hz7] at hsV
      have HV := hide (McV.frB (unhide HVB) (unhide HWR).fr (fun b h1 h2 => unhide HAP1 b (by omega) (by omega)) (unhide HNB1) (unhide HNB2) (unhide HLB1) (unhide HLB2))
      have HW2 := hide hwr2
      have HAP2 := hide hap2
      clear hA HWR HAP1 HTY1 HQ7 HA7 HOA1 hwr2 hap2 hty2 he2 HVB
      go_wp2
      go_loopg [15] m.ps.length (fun gk i wr2 => ∃ k : Nat, gk = m.ps.length - k ∧ i = .int .i64 k ∧ k ≤ m.ps.length ∧ Hid (Wr W5 wr wr2 g2 (m.ps.length * 1)))
      case atStart => exact ⟨0, rfl, rfl, by omega, HW2⟩
      case round =>
        clear HW2
        obtain ⟨i', rfl, rfl, hi', HWR⟩ := hrel
        have hA := (unhide HA).fr (unhide HWR).fr (unhide HAP2 _ (Nat.le_refl _) (by omega))
        by_cases hlt2 : i' < m.ps.length
        · have i2 : (i' : Int) < (m.ps.length : Int) := by omega
          obtain rfl := hq2 (by omega)
          clear a0 a1 a2 a3 a4
          obtain ⟨a0, a1, a2, a3, a4⟩ := hA.five
          obtain ⟨u1, x1⟩ := (unhide HWR).at_ i' (by omega)
          have f1 := (unhide HWR).free i' (by omega)
          have HN := hide ((unhide HWR).set (j := i') (by omega) (.string ⟨#[]⟩))
          clear hA HAP2 HK5 HM5 HV HQ HA HLT1 HNB1 HNB2 HLB1 HLB2 HF HRT HRM HSG
          go_wp2
          go_roundg (m.ps.length - (i' + 1))
          case measure => omega
          case rel => exact ⟨i' + 1, rfl, by go_num, by omega, HN⟩
        · have i2 : ¬ (i' : Int) < (m.ps.length : Int) := by omega
          clear a0 a1 a2 a3 a4
          obtain ⟨a0, a1, a2, a3, a4⟩ := hA.five
          have HK8 := hide ((unhide HK5).next (unhide HWR).below)
          have hM8 := (unhide HM5).below (unhide HWR).below hl5
          obtain ⟨m0, m1, m2, m3, m4⟩ := hM8.five
          have HG8 := hide ((unhide HK8).get (unhide HF) (unhide HRT))
          have HQ8 := hide ((unhide HQ).fr (unhide HWR).fr (unhide HAP2 _ (by omega) (by omega)))
          have HV8 := hide (McV.frB (unhide HV) (unhide HWR).fr (fun b h1 h2 => unhide HAP2 b (by omega) (by omega)) (unhide HNB1) (unhide HNB2) (unhide HLB1) (unhide HLB2))
          have HM8 := hide hM8
          clear hA hM8 HAP2 HK5 HM5 HV HQ HA HLT1 HNB1 HNB2 HLB1 HLB2 HRM HSG HWR
          go_wp2_with fail
          refine (unhide HG8).mono ?_
          rintro e W9 ⟨qc, cc, rc, kc, rfl, oc1, oc2, hb9⟩
          have hl8 := (unhide HQ8).lt
          have hl8' := (unhide HM8).lt
          have hs9 := hb9.size
          have hal9 := (Below.refl _ W9).alloc (Nat.le_refl _) (.cells #[.string ⟨m.name.toArray⟩, .bool m.fn, .slice qc m.ps.length cc, .bool m.more, .slice rc m.body.length kc] 25)
          have hQ9 := ((unhide HQ8).below hb9 hl8).below hal9 (by omega)
          have hM9 := ((unhide HM8).below hb9 hl8').below hal9 (by omega)
          have hX9 : MBox (W9.alloc (.cells #[.string ⟨m.name.toArray⟩, .bool m.fn, .slice qc m.ps.length cc, .bool m.more, .slice rc m.body.length kc] 25)) W9.heap.size (.string ⟨m.name.toArray⟩) m.fn (.slice qc m.ps.length cc) m.more (.slice rc m.body.length kc) := World.alloc_heap_new W9 _
          have HQ9 := hide hQ9
          have HM9 := hide hM9
          have HX9 := hide hX9
          have HK9 := hide (((unhide HK8).next hb9).next hal9)
          have HVX := hide ((McV.ofRows (W := W9) oc1 oc2).below hal9)
          have HVB := hide ((((unhide HV8).below hb9)).below hal9)
          have HE1 := hide (rEqual_any _ _ m m _ (by omega) (by omega) (unhide HVB) (unhide HVX))
          have hdd : decide (m = m) = true := decide_eq_true rfl
          rw [hdd] at HE1
          clear m0 m1 m2 m3 m4
          obtain ⟨m0, m1, m2, m3, m4⟩ := hM9.five
          obtain ⟨b0, b1, b2, b3, b4⟩ := hQ9.five
          obtain ⟨x0, x1, x2, x3, x4⟩ := hX9.five
          have hz9 : (W9.alloc (.cells #[.string ⟨m.name.toArray⟩, .bool m.fn, .slice qc m.ps.length cc, .bool m.more, .slice rc m.body.length kc] 25)).heap.size = W9.heap.size + 1 := by simp
          clear a0 a1 a2 a3 a4 hb9 hal9 oc1 oc2 hQ9 hM9 hX9 HG8 HK8 HV8 HQ8 HM8 HVB
          go_wp2_with fail
          refine (unhide HE1).mono ?_
          rintro e W10 ⟨rfl, hb10⟩
          have HE2 := hide (rEqual_any _ _ m m _ (by omega) (by omega) (((unhide HK9).next hb10).own) ((unhide HVX).below hb10))
          have hdd2 : decide (m = m) = true := decide_eq_true rfl
          rw [hdd2] at HE2
          clear hdd2 hdd
          have hM10 := (unhide HM9).below hb10 (unhide HM9).lt
          have hX10 := (unhide HX9).below hb10 (unhide HX9).lt
          have HB10 := hide (((unhide HK9).next hb10).below)
          clear m0 m1 m2 m3 m4 x0 x1 x2 x3 x4 b0 b1 b2 b3 b4
          obtain ⟨m0, m1, m2, m3, m4⟩ := hM10.five
          obtain ⟨x0, x1, x2, x3, x4⟩ := hX10.five
          clear hM10 hX10 HE1 HK9 HVX HM9 HX9 HQ9 hb10
          go_wp2_with fail
          refine (unhide HE2).mono ?_
          rintro e W11 ⟨rfl, hb11⟩
          have HB11 := hide ((unhide HB10).trans (hb11.mono (unhide HB10).size))
          go_wp2
          go_ret
          exact ⟨rfl, unhide HB11⟩
end Go.Proofs.YticiddcgafhkhaaDoor
