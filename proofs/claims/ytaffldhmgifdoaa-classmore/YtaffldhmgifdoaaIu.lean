/-
  Lists of types that are handed in.
-/
import Derived.Test.YtaffldhmgifdoaaIn
import Derived.OpenShut
import Derived.Carry
namespace Go.Proofs.Ytaffldhmgifdoaa
open Go Go.RowKit Go.Shelf
set_option linter.unusedVariables false
set_option linter.unusedSimpArgs false

theorem cellsTy7 : Try.prog.cellsOf 25 = 7 := by kernel_rfl
theorem pick_funT {α : Type} {P : Nat → α → Prop} (h : ∀ i, ∃ x, P i x) : ∃ f : Nat → α, ∀ i, P i (f i) := ⟨fun i => (h i).choose, fun i => (h i).choose_spec⟩
set_option maxRecDepth 100000 in
theorem open_types {H : Type} {enc : TypeId × Value → H} {W : World} {fuel : Nat} {cs : List Value} {x : DataW H × List MemPlace} (h : DataW.trod enc Try.prog W 0 (fun _ => true) true fuel 22 cs = some x) :
    ∃ (q : Option Addr) (cap : Nat) (l : List ShT), cs = [.slice q l.length cap] ∧ TyLs W.heap.size W q l ∧ (∀ t ∈ l, t.Len) ∧ l.length ≤ cap ∧ cap ≤ maxLen := by
  rcases Go.Deep.open_slice Try.underlying22 h with ⟨hc, hx⟩ | ⟨a, len, cap, m, n, D, Pl, hc, _, hl, hm, hmm, hx, hall⟩
  · exact ⟨none, 0, [], by simpa using hc, fun i hi => absurd hi (Nat.not_lt_zero _), fun t ht => absurd ht (by simp), Nat.zero_le _, Nat.zero_le _⟩
  · simp only [if_true] at hmm
    subst hmm
    have key : ∀ i, ∃ t : ShT, i < len → (∀ j, j < 7 → W.cell? (a.add (i * 7 + j)) = t.cs[j]?) ∧ t.In W.heap.size W ∧ t.Len := fun i => by
      by_cases hi : i < len
      · obtain ⟨cs', h1, h2⟩ := hall i (by omega)
        rw [cellsTy7] at h1
        obtain ⟨_, hlen, hcell⟩ := World.cells?_some h1
        obtain ⟨t, ht, hin, hle⟩ := open_typeL _ _ _ _ (Nat.le_refl _) h2
        refine ⟨t, fun _ => ⟨fun j hj => ?_, hin, hle⟩⟩
        have := hcell j (by omega)
        rw [Go.Deep.add_add] at this
        rw [this, ht]
        rw [Array.getElem?_toList]
      · exact ⟨.mk 0 0 0 none 0 [] none 0 [] false 0, fun h => absurd h hi⟩
    obtain ⟨G, hG⟩ := pick_funT key
    have hlen : ((List.range len).map G).length = len := by simp
    refine ⟨some a, m, (List.range len).map G, by rw [hlen]; simpa using hc, fun i hi => ?_, fun t ht => ?_, by rw [hlen]; exact hl, hm⟩
    · have hi' : i < len := by simpa using hi
      obtain ⟨bb, off, spot⟩ := a
      have c0 := (hG 0 (by omega)).1 0 (by omega)
      have hspot : spot = none := by simpa [Addr.add] using World.cell?_spot (c0.trans (by rfl : _ = some (Value.int .i64 (G 0).sh)))
      subst hspot
      obtain ⟨e0, e1, e2⟩ := hG i hi'
      have hadd : ∀ k, (⟨bb, off, none⟩ : Addr).add k = ⟨bb, off + k, none⟩ := fun k => by unfold Addr.add; split <;> simp_all
      simp only [List.getElem_map, List.getElem_range]
      have f0 := e0 0 (by omega)
      rw [hadd] at f0
      refine ⟨bb, off, rfl, World.block_lt_of_cell? W _ (f0.trans (by rfl : _ = some (Value.int .i64 (G i).sh))), fun j hj => ?_, e1⟩
      have := e0 j hj
      rw [hadd] at this
      rw [Nat.add_assoc]
      exact this
    · obtain ⟨i, hi, rfl⟩ := List.mem_map.1 ht
      exact (hG i (List.mem_range.1 hi)).2.2
theorem TyLs.take {B : Nat} {W : World} {q : Option Addr} {l : List ShT} (h : TyLs B W q l) (n : Nat) : TyLs B W q (l.take n) := fun i hi => by
  have hi' : i < l.length := by rw [List.length_take] at hi; omega
  rw [List.getElem_take]
  exact h i hi'
end Go.Proofs.Ytaffldhmgifdoaa
