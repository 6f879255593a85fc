/-
  burinlaw03.MacroReads answers true for every string: the walk.
-/
import Derived.Test.YticiddcgafhkhaaDoorXd
import Derived.Test.YticiddcgafhkhaaDoorV8
namespace Go.Proofs.YticiddcgafhkhaaDoor
open Go Go.RowKit
set_option linter.unusedVariables false
set_option linter.unusedSimpArgs false

/-- What both Parses tell, laid out. -/
theorem ParseP.parts {w : World} {R : Option Mc} {e : Ending} {w' : World} (h : ParseP w R e w') : ∃ (m : Mc) (er : Int) (s : ByteArray) (fn : Bool) (q : Option Addr) (n c : Nat) (more : Bool) (bp : Option Addr) (bn bc : Nat),
    Below w.heap.size w w' ∧ e = .returned (.tuple #[.agg #[.string s, .bool fn, .slice q n c, .bool more, .slice bp bn bc], .int .i64 er]) ∧ McV w'.heap.size w' (.agg #[.string s, .bool fn, .slice q n c, .bool more, .slice bp bn bc]) m ∧
    m = R.getD ⟨[], false, [], false, []⟩ ∧ er = (if R.isSome then 0 else 30) := by
  obtain ⟨hb, (⟨rfl, rfl⟩ | ⟨m, x, rfl, rfl, hx⟩)⟩ := h
  · exact ⟨⟨[], false, [], false, []⟩, 30, ⟨#[]⟩, false, none, 0, 0, false, none, 0, 0, hb, rfl, ⟨_, _, rfl, ⟨none, 0, rfl, fun i hi => by simp at hi⟩, ⟨none, 0, rfl, fun i hi => by simp at hi⟩, fun p n c hh => by cases hh; exact ⟨Nat.le_refl _, Nat.zero_le _⟩⟩, rfl, rfl⟩
  · have hx' := hx
    obtain ⟨pv, bv, rfl, s1, s2, _⟩ := hx
    obtain ⟨pp, pc, rfl, _⟩ := s1
    obtain ⟨bp, bc, rfl, _⟩ := s2
    exact ⟨m, 0, _, _, _, _, _, _, _, _, _, hb, rfl, hx', rfl, rfl⟩

set_option maxRecDepth 100000 in
set_option maxHeartbeats 8000000 in
theorem reads_walk (s : ByteArray) (w : World) (hs : s.size ≤ 140737488351232) (hw0 : 1 < w.heap.size) (hsg : Sg w) :
    Calls Tryd.prog 5 #[.string s] w fun e w' => e = .returned (.bool true) ∧ Below w.heap.size w w' := by
  have hsl : s.data.toList.length ≤ 140737488351232 := by
    have e : s.data.toList.length = s.size := by simp
    omega
  have HSH := hide (shown_any w hw0 hsg)
  have HLX := hide (fun W (hB : Below w.heap.size w W) => LexR_one 1 s W (by omega) (Nat.lt_of_lt_of_le hw0 hB.size) (Sg.below hsg hB hw0))
  have HP1 := hide (fun (v : Value) (base : Nat) (W : World) (hB : Below w.heap.size w W) (hr : W.ownsRow base 49 6 v (Tk.lex [(1, s.data.toList)]).1.length (tokCells (Tk.lex [(1, s.data.toList)]).1)) => ParseLex_any 1 s.data.toList v base W hsl hr (Nat.lt_of_lt_of_le hw0 hB.size) (Sg.below hsg hB hw0))
  have HP2 := hide (fun (v : Value) (base : Nat) (W : World) (hr : W.ownsRow base 49 6 v (Tk.lex [(1, s.data.toList)]).1.length (tokCells (Tk.lex [(1, s.data.toList)]).1)) => rParseLex_any 1 s.data.toList v base W hsl hr)
  have hbd : Hid (∀ m, m = (parseM ((Tk.lex [(1, s.data.toList)]).1.map Tk.T.g)).getD ⟨[], false, [], false, []⟩ → m.ps.length ≤ 140737488355328 ∧ m.body.length ≤ 140737488355328) := by
    intro m hm
    cases hp : parseM ((Tk.lex [(1, s.data.toList)]).1.map Tk.T.g) with
    | none => rw [hp] at hm; rw [hm]; simp
    | some m' =>
      rw [hp] at hm
      obtain rfl : m = m' := hm
      unfold parseM at hp
      split at hp
      · cases hp
      · rename_i nm fn ps more body hh
        have hf := (fit_lexed 1 s.data.toList hsl hh).1
        split at hp
        · cases hp; exact ⟨hf.ps, hf.body⟩
        · cases hp
  clear hsg hsl
  generalize parseM ((Tk.lex [(1, s.data.toList)]).1.map Tk.T.g) = PM at *
  generalize Tk.lex [(1, s.data.toList)] = LX at *
  obtain ⟨L, er, ln⟩ := LX
  simp only at HLX HP1 HP2
  go_enter Tryd.func5, Tryd.ntmps5
  go_wp2_with fail
  refine (unhide HSH).mono ?_
  rintro e W1 ⟨rfl, hb1⟩
  have HB1 := hide hb1
  have H1 := hide (unhide HLX W1 hb1)
  clear HSH hb1 HLX
  go_wp2_with fail
  refine (unhide H1).mono ?_
  rintro e W2 ⟨v2, rfl, hr2, hb2⟩
  have hs1 := (unhide HB1).size
  have hs2 := hb2.size
  have HB2 : Hid (Below w.heap.size w W2) := ((unhide HB1).trans ((Below.refl _ W1).alloc hs1 _)).trans (hb2.mono (by omega))
  have HR2 := hide hr2
  have hrow := hr2
  obtain ⟨p2, c2, rfl⟩ := ownsRow_slice hrow
  clear H1 hb2 hr2 hrow HB1
  by_cases her : er = 0
  · subst her
    have H2 := hide (unhide HP1 _ _ W2 (unhide HB2) (unhide HR2))
    go_wp2_with fail
    refine (unhide H2).mono ?_
    intro e W3 hp3
    obtain ⟨m, e3, s3, fn3, q3, n3, c3, mo3, bp3, bn3, bc3, hb3, rfl, hx3, hm3, he3⟩ := hp3.parts
    have hs3 := hb3.size
    have hal3 := (Below.refl _ W3).alloc (Nat.le_refl _) (.cells #[.string s3, .bool fn3, .slice q3 n3 c3, .bool mo3, .slice bp3 bn3 bc3] 25)
    have HBa3 : Hid (Below w.heap.size w (W3.alloc (.cells #[.string s3, .bool fn3, .slice q3 n3 c3, .bool mo3, .slice bp3 bn3 bc3] 25))) := ((unhide HB2).trans (hb3.mono (unhide HB2).size)).trans (hal3.mono (Nat.le_trans (unhide HB2).size hs3))
    have HR3 := hide (ownsRow_bel (ownsRow_bel (unhide HR2) hb3) hal3)
    have HX3 := hide (McV.below hx3 hal3)
    have HF3 := hide (five_new W3 (.string s3) (.slice q3 n3 c3) (.slice bp3 bn3 bc3) fn3 mo3)
    have hz3 : (W3.alloc (.cells #[.string s3, .bool fn3, .slice q3 n3 c3, .bool mo3, .slice bp3 bn3 bc3] 25)).heap.size = W3.heap.size + 1 := by simp
    have H3 := hide (unhide HP2 _ _ _ (unhide HR3))
    have HM3 := hide hm3
    have HE3 := hide he3
    clear H2 hp3 hb3 hx3 hal3 hm3 he3 HR3
    go_wp2_with fail
    refine (unhide H3).mono ?_
    intro e W4 hp4
    obtain ⟨m', e4, s4, fn4, q4, n4, c4, mo4, bp4, bn4, bc4, hb4, rfl, hx4, hm4, he4⟩ := hp4.parts
    have hs4 := hb4.size
    obtain rfl : m = m' := by rw [unhide HM3, hm4]
    obtain rfl : e3 = e4 := by rw [unhide HE3, he4]
    have hal4 := (Below.refl _ W4).alloc (Nat.le_refl _) (.cells #[.string s4, .bool fn4, .slice q4 n4 c4, .bool mo4, .slice bp4 bn4 bc4] 25)
    have HBa4 : Hid (Below w.heap.size w (W4.alloc (.cells #[.string s4, .bool fn4, .slice q4 n4 c4, .bool mo4, .slice bp4 bn4 bc4] 25))) := ((unhide HBa3).trans (hb4.mono (unhide HBa3).size)).trans (hal4.mono (Nat.le_trans (unhide HBa3).size hs4))
    rw [hz3] at hs4
    have HX4 := hide (McV.below hx4 hal4)
    have HX3' := hide (McV.below (McV.below (unhide HX3) hb4) hal4)
    have HF3' := hide (((unhide HF3).below hb4 (by rw [hz3]; omega)).below hal4 (by omega))
    have HF4 := hide (five_new W4 (.string s4) (.slice q4 n4 c4) (.slice bp4 bn4 bc4) fn4 mo4)
    have hbd' := unhide hbd m (unhide HM3)
    have H4 := hide (rEqual_any _ _ m m _ hbd'.1 hbd'.2 (unhide HX3') (unhide HX4))
    have hdd : decide (m = m) = true := decide_eq_true rfl
    rw [hdd] at H4
    obtain ⟨c0, c1, c2', c3', c4'⟩ := unhide HF3'
    obtain ⟨d0, d1, d2, d3, d4⟩ := unhide HF4
    have hne : W3.heap.size ≠ W4.heap.size := by omega
    have eee : (e3 == e3) = true := by simp
    clear H3 hp4 hb4 hx4 hal4 hm4 he4 HX3 HF3 HX3' HX4 hbd' hbd hdd HBa3 hz3 HE3 HM3 HP1 HP2
    go_wp2_with fail
    refine (unhide H4).mono ?_
    rintro e W5 ⟨rfl, hb5⟩
    have HB5 := hide ((unhide HBa4).trans (hb5.mono (unhide HBa4).size))
    go_wp2
    go_ret
    exact ⟨rfl, unhide HB5⟩
  · have i1 : ((er : Int) != 0) = true := by rw [bne_iff_ne]; exact her
    go_wp2
    go_ret
    exact ⟨rfl, unhide HB2⟩
end Go.Proofs.YticiddcgafhkhaaDoor
