/-
  burinref11.walk along any path; a path that is handed in.
-/
import Derived.Test.YtkiebejidpebdaaTx
import Derived.Test.YtkiebejidpebdaaOv
namespace Go.Proofs.Ytkiebejidpebdaa
open Go Go.RowKit Go.Shelf
set_option linter.unusedVariables false
set_option linter.unusedSimpArgs false

theorem rwalk_any : ∀ path : List Int, RwA path
  | [] => fun d x fr deep p cap w hd h hin hle hp hcap hpl h0 h1 hdp0 hdp1 => by
    cases hn : (x.1.sh == 1 || x.1.sh == 2)
    · simp only [Bool.or_eq_false_iff] at hn
      exact rwalk_none d x fr deep p cap [] w hd h hin hle hn.1 hn.2 hpl hp (.inl rfl)
    · exact rwalk_num d x fr deep p cap [] w hd h hin hle h0 h1 hn hpl
  | s :: r => fun d x fr deep p cap w hd h hin hle hp hcap hpl h0 h1 hdp0 hdp1 => by
    cases hn : (x.1.sh == 1 || x.1.sh == 2)
    · simp only [Bool.or_eq_false_iff] at hn
      by_cases hs : s < 0
      · exact rwalk_none d x fr deep p cap (s :: r) w hd h hin hle hn.1 hn.2 hpl hp (.inr ⟨s, r, rfl, hs⟩)
      · cases h3 : x.1.sh == 3
        · have hsh : x.1.sh = 4 ∨ x.1.sh = 5 := by
            cases d with
            | zero => have := h.1; cases this
            | succ d =>
              have := (form_struct (rig_form h.1).1 hn.1 hn.2 h3).1
              simpa using this
          exact rwalk_mem d x fr deep p cap s r w hd h hin hle hp hcap hpl h0 h1 hdp0 hdp1 hsh (by omega) (rwalk_any r)
        · exact rwalk_arr d x fr deep p cap s r w hd h hin hle hp hcap hpl h0 h1 hdp0 hdp1 h3 (by omega) (rwalk_any r)
    · exact rwalk_num d x fr deep p cap (s :: r) w hd h hin hle h0 h1 hn hpl
theorem open_pathL {H : Type} {enc : TypeId × Value → H} {W : World} {fuel : Nat} {cs : List Value} {x : DataW H × List MemPlace} (h : DataW.trod enc Try.prog W 0 (fun _ => true) true fuel 47 cs = some x) :
    ∃ (p : Option Addr) (cap : Nat) (path : List Int), cs = [.slice p path.length cap] ∧ PaG W.heap.size W p path ∧ path.length ≤ maxLen ∧ path.length ≤ cap := by
  rcases ChangeShapes.open_ints Try.underlying47 Try.underlying3 cellsT3 h with ⟨hc, _⟩ | ⟨a, len, cap, zs, hc, _, hl, hm, hz, _, hcell, _⟩
  · exact ⟨none, 0, [], hc, fun i hi => absurd hi (Nat.not_lt_zero _), Nat.zero_le _, Nat.zero_le _⟩
  · simp only [if_true] at hz
    have hlen : (zs.take len).length = len := by rw [List.length_take]; omega
    refine ⟨some a, cap, zs.take len, by rw [hlen]; exact hc, fun i hi => ?_, by rw [hlen]; omega, by rw [hlen]; omega⟩
    rw [hlen] at hi
    have h0 := hcell 0 (by omega)
    have hi' := hcell i (by omega)
    obtain ⟨bb, off, spot⟩ := a
    have hspot : spot = none := by simpa [Addr.add] using World.cell?_spot h0
    subst hspot
    rw [add_plainS] at hi'
    refine ⟨bb, off, rfl, World.block_lt_of_cell? W _ hi', ?_⟩
    rw [hi']
    congr 2
    rw [List.getElem_take, List.getD_eq_getElem?_getD, List.getElem?_eq_getElem (by omega), Option.getD_some]
end Go.Proofs.Ytkiebejidpebdaa
