/-
  burinlaw02.TokenSpells answers true for every tokens whose text is not too long: the walk.
-/
import Derived.Test.YtaoekfokpbebfaaDoorK2
import Derived.Test.YtaoekfokpbebfaaDoorS2
namespace Go.Proofs.YtaoekfokpbebfaaDoor
open Go Go.RowKit
set_option linter.unusedVariables false
set_option linter.unusedSimpArgs false

theorem TkG.take {B : Nat} {W : World} {p : Option Addr} {cap : Nat} {l : List Gt} (h : TkG B W (.slice p l.length cap) l) (n : Nat) (hn : n ≤ l.length) : TkG B W (.slice p (l.take n).length cap) (l.take n) := by
  obtain ⟨p', cap', he, hc⟩ := h
  obtain ⟨rfl, rfl⟩ : p = p' ∧ cap = cap' := by simpa using he
  refine ⟨p, cap, rfl, fun i hi => ?_⟩
  have hi' : i < n := by simp at hi; omega
  obtain ⟨g, o, hg, hr⟩ := hc i (by omega)
  refine ⟨g, o, hg, ?_⟩
  rw [List.getElem_take]
  exact hr
set_option maxRecDepth 100000 in
set_option maxHeartbeats 4000000 in
theorem spells_walk (p : Option Addr) (cap : Nat) (l : List Gt) (w : World) (hcap : l.length ≤ cap) (hcm : cap ≤ maxLen) (hl : l.length ≤ 1048576) (hb : (spG (l.take 5000)).length ≤ 140737488355328) (hw0 : 0 < w.heap.size) (hv : TkG w.heap.size w (.slice p l.length cap) l) (hsg : Sg w) :
    Calls Tryd.prog 6 #[.slice p l.length cap] w fun e w' => e = .returned (.bool true) ∧ Below w.heap.size w w' := by
  have HSH := hide (shown_any w hw0 hsg)
  have hcm' : cap ≤ 9223372036854775807 := hcm
  have HM : Hid (∃ n : Nat, min (l.length : Int) 5000 = (n : Int) ∧ (n : Int) ≤ (cap : Int) ∧ l.take 5000 = l.take n ∧ n ≤ l.length) := by
    by_cases h : l.length ≤ 5000
    · exact ⟨l.length, by omega, by omega, by rw [List.take_of_length_le h, List.take_length], Nat.le_refl _⟩
    · exact ⟨5000, by omega, by omega, rfl, by omega⟩
  obtain ⟨n, hmin, hnc, hta, hnl⟩ := unhide HM
  have hT := TkG.take hv n hnl
  have htl : (l.take n).length = n := by simp; omega
  rw [hta] at hb
  rw [htl] at hT
  have htl2 : (l.take n).length ≤ 140737488355328 := by omega
  have HT := hide hT
  have HB := hide hb
  have HTL := hide htl2
  clear HM hta hT htl hsg hv hb htl2
  generalize l.take n = L at *
  go_enter Tryd.func6, Tryd.ntmps6
  go_wp2_with fail
  refine (unhide HSH).mono ?_
  rintro e W1 ⟨rfl, hb1⟩
  have hz1 := hb1.size
  have HS1 := hide (Spell_any (.slice p n cap) L W1 (unhide HTL) (unhide HB) (((unhide HT).below hb1).mono hz1))
  have hn0 : (0 : Int) ≤ (n : Int) := by omega
  go_wp2_with fail
  refine (unhide HS1).mono ?_
  rintro e W2 ⟨rfl, hb2⟩
  have hz2 := hb2.size
  have hbb2 : Below w.heap.size w W2 := hb1.trans (hb2.mono hz1)
  have HS2 := hide (rSpell_any (.slice p n cap) L W2 (unhide HTL) (unhide HB) (((unhide HT).below hbb2).mono (by omega)))
  clear HS1 HT HB HTL
  go_wp2_with fail
  refine (unhide HS2).mono ?_
  rintro e W3 ⟨rfl, hb3⟩
  have hbb3 : Below w.heap.size w W3 := hbb2.trans (hb3.mono (by omega))
  clear HS2
  generalize (spG L).toArray = A at *
  go_wp2
  go_ret
  exact ⟨rfl, hbb3⟩
end Go.Proofs.YtaoekfokpbebfaaDoor
