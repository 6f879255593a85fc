/-
  burinlaw03.shown answers true.
-/
import Derived.Test.YticiddcgafhkhaaDoorV7
import Derived.Test.YticiddcgafhkhaaDoorUc
namespace Go.Proofs.YticiddcgafhkhaaDoor
open Go Go.RowKit
set_option linter.unusedVariables false
set_option linter.unusedSimpArgs false

def shF : List UInt8 := [70, 40, 97, 44, 98, 41, 32, 32, 97, 32, 35, 35, 32, 98]
def shX : List UInt8 := [88, 43, 49]
def shM : Mc := ⟨[70], true, [[97], [98]], false, [⟨1, [97], [], 0, false, false⟩, ⟨5, [35, 35], [], 0, true, false⟩, ⟨1, [98], [], 0, true, false⟩]⟩
theorem sh_parse : parseM ((Tk.lex [(1, shF)]).1.map Tk.T.g) = some shM := by kernel_rfl
theorem sh_none : parseM ((Tk.lex [(1, shX)]).1.map Tk.T.g) = none := by kernel_rfl
theorem sh_show : showM shM = [70, 40, 97, 44, 32, 98, 41, 32, 97, 32, 35, 35, 32, 98] := by kernel_rfl
theorem sh_right : rightM shM = true := by kernel_rfl
theorem sh_fits : McFits shM := ⟨by decide, by decide, by decide, by decide, fun _ => by show (spG shM.body).length ≤ _; rw [show (spG shM.body).length = 6 by kernel_rfl]; decide⟩
theorem lexParse (T : List UInt8) (hT : T.length ≤ 140737488351232) {w W : World} (hB : Below w.heap.size w W) (hw0 : 1 < w.heap.size) (hsg : Sg w) :
    Calls Tryd.prog 21 #[.string ⟨T.toArray⟩] W fun e w' => ∃ v', e = .returned v' ∧ w'.ownsRow W.heap.size 49 6 v' (Tk.lex [(1, T)]).1.length (tokCells (Tk.lex [(1, T)]).1) ∧ Below W.heap.size W w' :=
  lexedR_any ⟨T.toArray⟩ W (by show T.toArray.size ≤ _; simp; omega) (Nat.lt_of_lt_of_le hw0 hB.size) (Sg.below hsg hB hw0)
theorem zero_agg : Value.agg zeroM = .agg #[.string ⟨#[]⟩, .bool false, .slice none 0 0, .bool false, .slice none 0 0] := rfl

set_option maxRecDepth 100000 in
set_option maxHeartbeats 8000000 in
theorem shown_any (w : World) (hw0 : 1 < w.heap.size) (hsg : Sg w) : Calls Tryd.prog 10 #[] w fun e w' => e = .returned (.bool true) ∧ Below w.heap.size w w' := by
  have HSG := hide hsg
  have HL := hide (fun (T : List UInt8) (hT : T.length ≤ 140737488351232) (W : World) (hB : Below w.heap.size w W) => lexParse T hT hB hw0 hsg)
  clear hsg
  have HL1 := hide (unhide HL shF (by decide) w (Below.refl _ _))
  simp only [shF] at HL1
  go_enter Tryd.func10, Tryd.ntmps10
  go_wp2_with fail
  refine (unhide HL1).mono ?_
  rintro e W1 ⟨v1, rfl, hr1, hb1⟩
  have HP1 := hide (ParseLex_any 1 shF v1 w.heap.size W1 (by decide) hr1 (Nat.lt_of_lt_of_le hw0 hb1.size) (Sg.below (unhide HSG) hb1 hw0))
  rw [sh_parse] at HP1
  have HB1 := hide hb1
  obtain ⟨p1, c1, rfl⟩ := ownsRow_slice hr1
  clear HL1 hr1 hb1
  go_wp2_with fail
  refine (unhide HP1).mono ?_
  rintro e W2 ⟨hb2, (⟨hR, _⟩ | ⟨m, x, hR, rfl, hx⟩)⟩
  · cases hR
  obtain rfl : shM = m := by simpa using hR
  have HX := hide hx
  obtain ⟨pv, bv, rfl, s1, s2, _⟩ := hx
  obtain ⟨pp, pc, rfl, _⟩ := s1
  obtain ⟨bp, bc, rfl, _⟩ := s2
  have HB2 := hide ((unhide HB1).trans (hb2.mono (unhide HB1).size))
  clear HP1 HB1 hR hb2
  have hal := (Below.refl _ W2).alloc (Nat.le_refl _) (.cells #[.string ⟨#[70]⟩, .bool true, .slice pp 2 pc, .bool false, .slice bp 3 bc] 25)
  have HBa := hide ((unhide HB2).trans (hal.mono (unhide HB2).size))
  have hza := (unhide HBa).size
  have HSH := hide (Show_any _ shM (W2.alloc (.cells #[.string ⟨#[70]⟩, .bool true, .slice pp 2 pc, .bool false, .slice bp 3 bc] 25)) sh_fits (McV.below (unhide HX) hal) (Nat.lt_of_lt_of_le hw0 hza) (Sg.below (unhide HSG) (unhide HBa) hw0)
    (by show 1 + (Lib.join (listedS false [[97], [98]]) [44, 32]).length + (spG shM.body).length + 10 ≤ _; rw [show (Lib.join (listedS false [[97], [98]]) [44, 32]).length = 4 by kernel_rfl, show (spG shM.body).length = 6 by kernel_rfl]; decide) (by decide))
  rw [sh_right, sh_show, if_pos rfl] at HSH
  have hm : MBox (W2.alloc (.cells #[.string ⟨#[70]⟩, .bool true, .slice pp 2 pc, .bool false, .slice bp 3 bc] 25)) W2.heap.size (.string ⟨#[70]⟩) true (.slice pp 2 pc) false (.slice bp 3 bc) := World.alloc_heap_new W2 _
  have HM := hide hm
  have hzz : (W2.alloc (.cells #[.string ⟨#[70]⟩, .bool true, .slice pp 2 pc, .bool false, .slice bp 3 bc] 25)).heap.size = W2.heap.size + 1 := by simp
  simp only [shM, List.length_cons, List.length_nil, Nat.reduceAdd] at HX HSH ⊢
  generalize (Tk.lex [(1, shF)]).1.length = n1 at *
  clear hal hm hza
  go_wp2_with fail
  refine (unhide HSH).mono ?_
  rintro e W3 ⟨rfl, hb3⟩
  have hm3 := (unhide HM).below hb3 (by omega)
  have HM3 := hide hm3
  have HB3 := hide ((unhide HBa).trans (hb3.mono (unhide HBa).size))
  have HL2 := hide (unhide HL shX (by decide) W3 (unhide HB3))
  simp only [shX] at HL2
  clear HSH HM hm3 hb3 HX HBa HB2 hzz
  go_wp2_with fail
  refine (unhide HL2).mono ?_
  rintro e W4 ⟨v4, rfl, hr4, hb4⟩
  have hs4 := hb4.size
  have HB4 := hide ((unhide HB3).trans (hb4.mono (unhide HB3).size))
  have HP4 := hide (ParseLex_any 1 shX v4 W3.heap.size W4 (by decide) hr4 (Nat.lt_of_lt_of_le hw0 (unhide HB4).size) (Sg.below (unhide HSG) (unhide HB4) hw0))
  rw [sh_none] at HP4
  have HM4 := hide ((unhide HM3).below hb4 (unhide HM3).lt)
  obtain ⟨p4, c4, rfl⟩ := ownsRow_slice hr4
  generalize (Tk.lex [(1, shX)]).1.length = n4 at *
  clear HL2 hr4 hb4 HM3
  go_wp2_with fail
  refine (unhide HP4).mono ?_
  rintro e W5 ⟨hb5, (⟨_, rfl⟩ | ⟨m, x, hR, _⟩)⟩
  rotate_left
  · cases hR
  have hm5 := (unhide HM4).below hb5 (unhide HM4).lt
  have HB5 := hide ((unhide HB4).trans (hb5.mono (unhide HB4).size))
  have hl5 : W2.heap.size < W5.heap.size := hm5.lt
  obtain ⟨m0, m1, m2, m3, m4⟩ := hm5.five
  have HBF := hide ((unhide HB5).alloc (unhide HB5).size (.cells #[.string ⟨#[]⟩, .bool false, .slice none 0 0, .bool false, .slice none 0 0] 25))
  have hne : W2.heap.size ≠ W5.heap.size := by omega
  rw [zero_agg]
  clear HP4 HM4 hb5 hm5
  go_wp2
  go_ret
  exact ⟨rfl, unhide HBF⟩
end Go.Proofs.YticiddcgafhkhaaDoor
