/-
  burinlaw03.MacroBack answers true for every macro: the walk.
-/
import Derived.Test.YticiddcgafhkhaaDoorZ2
import Derived.Test.YticiddcgafhkhaaDoorV8
namespace Go.Proofs.YticiddcgafhkhaaDoor
open Go Go.RowKit
set_option linter.unusedVariables false
set_option linter.unusedSimpArgs false

set_option maxRecDepth 100000 in
set_option maxHeartbeats 8000000 in
theorem back_walk (x : Value) (m : Mc) (w : World) (hf : McFits m) (hx : McV w.heap.size w x m) (hw0 : 1 < w.heap.size) (hsg : Sg w)
    (hz : m.name.length + (Lib.join (listedS m.more m.ps) [44, 32]).length + (spG m.body).length + 10 ≤ 140737488351232) (hpl : m.ps.length * 16 ≤ 100000000000000) :
    Calls Tryd.prog 6 #[x] w fun e w' => e = .returned (.bool true) ∧ Below w.heap.size w w' := by
  have hsl : (showM m).length ≤ 140737488351232 := by
    unfold showM
    rw [List.length_append, List.length_append]
    split <;> split <;> simp <;> omega
  have HSH := hide (fun W (hB : Below w.heap.size w W) => shown_any W (Nat.lt_of_lt_of_le hw0 hB.size) (Sg.below hsg hB hw0))
  have HS1 := hide (fun W (hB : Below w.heap.size w W) => Show_any x m W hf (hx.below hB) (Nat.lt_of_lt_of_le hw0 hB.size) (Sg.below hsg hB hw0) (by omega) hpl)
  have HR1 := hide (fun W (hB : Below w.heap.size w W) => Right_any x m W hf (hx.below hB) (Nat.lt_of_lt_of_le hw0 hB.size) (Sg.below hsg hB hw0))
  have HLX := hide (fun W (hB : Below w.heap.size w W) => lexParse (showM m) hsl hB hw0 hsg)
  have HPA := hide (fun (v : Value) (base : Nat) (W : World) (hB : Below w.heap.size w W) (hr : W.ownsRow base 49 6 v (Tk.lex [(1, showM m)]).1.length (tokCells (Tk.lex [(1, showM m)]).1)) => ParseLex_any 1 (showM m) v base W hsl hr (Nat.lt_of_lt_of_le hw0 hB.size) (Sg.below hsg hB hw0))
  have HE1 := hide (fun (y : Value) (W : World) (hB : Below w.heap.size w W) (hy : McV W.heap.size W y m) => SameM_any x y m m W hf hf (hx.below hB) hy (Nat.lt_of_lt_of_le hw0 hB.size) (Sg.below hsg hB hw0))
  have HE2 := hide (fun (y : Value) (W : World) (hB : Below w.heap.size w W) (hy : McV W.heap.size W y m) => rEqual_any x y m m W hf.ps hf.body (hx.below hB) hy)
  have HPS : Hid (rightM m = true → parseM ((Tk.lex [(1, showM m)]).1.map Tk.T.g) = some m) := fun h => parse_show h
  obtain ⟨pv, bv, rfl, _⟩ := hx
  have hbw : Below w.heap.size w (w.alloc (.cells #[.string ⟨m.name.toArray⟩, .bool m.fn, pv, .bool m.more, bv] 25)) := (Below.refl _ w).alloc (Nat.le_refl _) _
  have hz1 : (w.alloc (.cells #[.string ⟨m.name.toArray⟩, .bool m.fn, pv, .bool m.more, bv] 25)).heap.size = w.heap.size + 1 := by simp
  have HFA := hide (five_new w (.string ⟨m.name.toArray⟩) pv bv m.fn m.more)
  have HBW := hide hbw
  have H0 := hide (unhide HSH _ hbw)
  clear hbw HSH hsg hz hpl hsl
  have hdd : decide (m = m) = true := decide_eq_true rfl
  simp only [hdd, Bool.and_true, Bool.and_self] at HE1 HE2
  clear hdd
  generalize Tk.lex [(1, showM m)] = LX at *
  generalize showM m = V at *
  generalize hR : rightM m = R at *
  clear hR
  go_enter Tryd.func6, Tryd.ntmps6
  go_wp2_with fail
  refine (unhide H0).mono ?_
  rintro e W1 ⟨rfl, hb1⟩
  have hs1 := hb1.size
  rw [hz1] at hb1 hs1
  have HB1 : Hid (Below w.heap.size w W1) := (unhide HBW).trans (hb1.mono (by omega))
  have HFA1 := hide ((unhide HFA).below hb1 (by omega))
  obtain ⟨c0, c1, c2, c3, c4⟩ := unhide HFA1
  have H1 := hide (unhide HS1 W1 (unhide HB1))
  clear H0 HFA HS1 hz1 HBW hb1
  go_wp2_with fail
  refine (unhide H1).mono ?_
  rintro e W2 ⟨rfl, hb2⟩
  have hs2 := hb2.size
  have HB2 : Hid (Below w.heap.size w W2) := (unhide HB1).trans (hb2.mono (by omega))
  have HFA2 := hide ((unhide HFA1).below hb2 (by omega))
  clear c0 c1 c2 c3 c4 H1 HFA1 HB1 hb2
  obtain ⟨c0, c1, c2, c3, c4⟩ := unhide HFA2
  cases R
  · have H2 := hide (unhide HR1 W2 (unhide HB2))
    simp only [Bool.false_eq_true, if_false]
    go_wp2_with fail
    refine (unhide H2).mono ?_
    rintro e W3 ⟨rfl, hb3⟩
    have HB3 : Hid (Below w.heap.size w W3) := (unhide HB2).trans (hb3.mono (by omega))
    go_wp2
    go_ret
    exact ⟨rfl, unhide HB3⟩
  · have H2 := hide (unhide HLX W2 (unhide HB2))
    simp only [if_true]
    go_wp2_with fail
    refine (unhide H2).mono ?_
    rintro e W3 ⟨v3, rfl, hr3, hb3⟩
    have hs3 := hb3.size
    have HB3 : Hid (Below w.heap.size w W3) := (unhide HB2).trans (hb3.mono (by omega))
    have HFA3 := hide ((unhide HFA2).below hb3 (by omega))
    have H3 := hide (unhide HPA v3 _ W3 (unhide HB3) hr3)
    rw [unhide HPS trivial] at H3
    obtain ⟨p3, k3, rfl⟩ := ownsRow_slice hr3
    clear c0 c1 c2 c3 c4 H2 HFA2 HB2 hb3 hr3 HPS HPA HLX
    go_wp2_with fail
    refine (unhide H3).mono ?_
    rintro e W4 ⟨hb4, (⟨hn, _⟩ | ⟨m', y, hm', rfl, hy⟩)⟩
    · cases hn
    obtain rfl : m = m' := by simpa using hm'
    have hs4 := hb4.size
    have HB4 : Hid (Below w.heap.size w W4) := (unhide HB3).trans (hb4.mono (by omega))
    have HFA4 := hide ((unhide HFA3).below hb4 (by omega))
    have HY := hide hy
    obtain ⟨pu, bu, rfl, s1, s2, _⟩ := hy
    obtain ⟨pp, pc, rfl, _⟩ := s1
    obtain ⟨bp, bc, rfl, _⟩ := s2
    have hal := (Below.refl _ W4).alloc (Nat.le_refl _) (.cells #[.string ⟨m.name.toArray⟩, .bool m.fn, .slice pp m.ps.length pc, .bool m.more, .slice bp m.body.length bc] 25)
    have HBa : Hid (Below w.heap.size w (W4.alloc (.cells #[.string ⟨m.name.toArray⟩, .bool m.fn, .slice pp m.ps.length pc, .bool m.more, .slice bp m.body.length bc] 25))) := (unhide HB4).trans (hal.mono (by omega))
    have hza : (W4.alloc (.cells #[.string ⟨m.name.toArray⟩, .bool m.fn, .slice pp m.ps.length pc, .bool m.more, .slice bp m.body.length bc] 25)).heap.size = W4.heap.size + 1 := by simp
    have HYa := hide (McV.below (unhide HY) hal)
    have HFa := hide ((unhide HFA4).below hal (by omega))
    have HGa := hide (five_new W4 (.string ⟨m.name.toArray⟩) (.slice pp m.ps.length pc) (.slice bp m.body.length bc) m.fn m.more)
    have H4 := hide (unhide HE1 _ _ (unhide HBa) (unhide HYa))
    obtain ⟨c0, c1, c2, c3, c4⟩ := unhide HFa
    obtain ⟨d0, d1, d2, d3, d4⟩ := unhide HGa
    clear H3 HFA3 HB3 hb4 hal HFA4 HY HB4 hm'
    go_wp2_with fail
    refine (unhide H4).mono ?_
    rintro e W5 ⟨rfl, hb5⟩
    have hs5 := hb5.size
    rw [hza] at hb5 hs5
    have HB5 : Hid (Below w.heap.size w W5) := (unhide HBa).trans (hb5.mono (by omega))
    have HY5 := hide (McV.below (unhide HYa) (by rw [hza]; exact hb5))
    have HF5 := hide ((unhide HFa).below hb5 (by omega))
    have HG5 := hide ((unhide HGa).below hb5 (by omega))
    have H5 := hide (unhide HE2 _ _ (unhide HB5) (unhide HY5))
    clear c0 c1 c2 c3 c4 d0 d1 d2 d3 d4 H4 HFa HGa HYa hza HBa hb5
    obtain ⟨c0, c1, c2, c3, c4⟩ := unhide HF5
    obtain ⟨d0, d1, d2, d3, d4⟩ := unhide HG5
    go_wp2_with fail
    refine (unhide H5).mono ?_
    rintro e W6 ⟨rfl, hb6⟩
    have HB6 : Hid (Below w.heap.size w W6) := (unhide HB5).trans (hb6.mono (by omega))
    go_wp2
    go_ret
    exact ⟨rfl, unhide HB6⟩
end Go.Proofs.YticiddcgafhkhaaDoor
