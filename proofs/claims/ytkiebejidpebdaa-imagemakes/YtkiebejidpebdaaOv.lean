/-
  Paths and sets that are handed in.
-/
import Derived.Test.YtkiebejidpebdaaOs
import Derived.Test.YtkiebejidpebdaaZ6
import Derived.OpenShut
import Derived.Carry
namespace Go.Proofs.Ytkiebejidpebdaa
open Go Go.RowKit Go.Shelf
set_option linter.unusedVariables false
set_option linter.unusedSimpArgs false

theorem cellsTi : Try.prog.cellsOf 47 = 1 := by kernel_rfl
theorem cellsTe : Try.prog.cellsOf 64 = 2 := by kernel_rfl
theorem open_path {H : Type} {enc : TypeId × Value → H} {W : World} {fuel : Nat} {cs : List Value} {x : DataW H × List MemPlace} (h : DataW.trod enc Try.prog W 0 (fun _ => true) true fuel 47 cs = some x) :
    ∃ (p : Option Addr) (cap : Nat) (path : List Int), cs = [.slice p path.length cap] ∧ PaG W.heap.size W p path ∧ path.length ≤ maxLen := by
  rcases ChangeShapes.open_ints Try.underlying47 Try.underlying3 cellsT3 h with ⟨hc, _⟩ | ⟨a, len, cap, zs, hc, _, hl, hm, hz, _, hcell, _⟩
  · exact ⟨none, 0, [], hc, fun i hi => absurd hi (Nat.not_lt_zero _), Nat.zero_le _⟩
  · simp only [if_true] at hz
    have hlen : (zs.take len).length = len := by rw [List.length_take]; omega
    refine ⟨some a, cap, zs.take len, by rw [hlen]; exact hc, fun i hi => ?_, by rw [hlen]; omega⟩
    rw [hlen] at hi
    have h0 := hcell 0 (by omega)
    have hi' := hcell i (by omega)
    obtain ⟨bb, off, spot⟩ := a
    have hspot : spot = none := by simpa [Addr.add] using World.cell?_spot h0
    subst hspot
    rw [add_plainS] at hi'
    refine ⟨bb, off, rfl, World.block_lt_of_cell? W _ hi', ?_⟩
    rw [hi']
    congr 2
    rw [List.getElem_take, List.getD_eq_getElem?_getD, List.getElem?_eq_getElem (by omega), Option.getD_some]
set_option maxRecDepth 100000 in
theorem open_sets {H : Type} {enc : TypeId × Value → H} {W : World} {fuel : Nat} {cs : List Value} {x : DataW H × List MemPlace} (h : DataW.trod enc Try.prog W 0 (fun _ => true) true fuel 51 cs = some x) :
    ∃ (q : Option Addr) (cap : Nat) (l : List SetT), cs = [.slice q l.length cap] ∧ SeG W.heap.size W q l ∧ l.length ≤ cap ∧ cap ≤ maxLen := by
  rcases Go.Deep.open_slice Try.underlying51 h with ⟨hc, hx⟩ | ⟨a, len, cap, m, n, D, Pl, hc, _, hl, hm, hmm, hx, hall⟩
  · exact ⟨none, 0, [], by simpa using hc, fun i hi => absurd hi (Nat.not_lt_zero _), Nat.zero_le _, Nat.zero_le _⟩
  · simp only [if_true] at hmm
    subst hmm
    have key : ∀ i, ∃ t : SetT, i < len → W.cell? (a.add (i * 2)) = some (.slice t.p t.path.length t.cap) ∧ W.cell? (a.add (i * 2 + 1)) = some (.int .i64 t.v) ∧ PaG W.heap.size W t.p t.path ∧ t.path.length ≤ maxLen := fun i => by
      by_cases hi : i < len
      · obtain ⟨cs', h1, h2⟩ := hall i (by omega)
        rw [cellsTe] at h1
        obtain ⟨_, hlen, hcell⟩ := World.cells?_some h1
        obtain ⟨zs, kz, _, hzy, hzl, hzx, hzf⟩ := DataW.trod_struct Try.underlying64 h2
        rw [cellsTe] at hzl
        match zs, hzx, cs', hzl with
        | [z0, z1], _, [u0, u1], _ =>
        have r0 := hzf 0 _ rfl
        have r1 := hzf 1 _ rfl
        simp [cellsTi, cellsT2] at r0 r1
        obtain ⟨v, q1, _, _⟩ := DataW.trod_int Try.underlying2 r1
        obtain ⟨p, cp, path, q0, hp, hpl⟩ := open_path r0
        simp only [List.cons.injEq, and_true] at q0 q1
        refine ⟨⟨p, cp, path, v⟩, fun _ => ⟨?_, ?_, hp, hpl⟩⟩
        · have := hcell 0 (by omega)
          rw [Go.Deep.add_add, Nat.add_zero] at this
          rw [this, q0]
          rfl
        · have := hcell 1 (by omega)
          rw [Go.Deep.add_add] at this
          rw [this, q1]
          rfl
      · exact ⟨⟨none, 0, [], 0⟩, fun h => absurd h hi⟩
    obtain ⟨G, hG⟩ := pick_funS key
    have hlen : ((List.range len).map G).length = len := by simp
    refine ⟨some a, m, (List.range len).map G, by rw [hlen]; simpa using hc, fun i hi => ?_, by rw [hlen]; exact hl, hm⟩
    have hi' : i < len := by simpa using hi
    obtain ⟨bb, off, spot⟩ := a
    have c0 := (hG 0 (by omega)).1
    have hspot : spot = none := by simpa [Addr.add] using World.cell?_spot c0
    subst hspot
    obtain ⟨e0, e1, e2, e3⟩ := hG i hi'
    rw [add_plainS] at e0 e1
    simp only [List.getElem_map, List.getElem_range]
    exact ⟨bb, off, rfl, World.block_lt_of_cell? W _ e0, e0, by rw [Nat.add_assoc]; exact e1, e2, e3⟩
section
open Go.ChangeShapes
variable {H : Type} {enc : TypeId × Value → H} {P : Program} {w : World} {base : Nat} {spare : Nat → Bool} {held : Bool}
theorem trodAll_five {t t1 t2 t3 t4 : TypeId} {args : Array Value} {ds : List (DataW H)} {ps : List MemPlace} (h : DataW.TrodAll enc P w base spare held [t, t1, t2, t3, t4] args.toList ds ps) :
    ∃ v v1 v2 v3 v4 d d1 d2 d3 d4 p p1 p2 p3 p4, args = #[v, v1, v2, v3, v4] ∧ ds = [d, d1, d2, d3, d4] ∧ ps = p ++ p1 ++ p2 ++ p3 ++ p4 ∧ DataW.Trod enc P w base spare held t v d p ∧ DataW.Trod enc P w base spare held t1 v1 d1 p1 ∧ DataW.Trod enc P w base spare held t2 v2 d2 p2 ∧ DataW.Trod enc P w base spare held t3 v3 d3 p3 ∧ DataW.Trod enc P w base spare held t4 v4 d4 p4 := by
  obtain ⟨v, vs, d, ds', p, q, hargs, rfl, rfl, hd, hrest⟩ := trodAll_cons h
  obtain ⟨v1, vs1, d1, ds1, p1, q1, rfl, rfl, rfl, hd1, hrest1⟩ := trodAll_cons hrest
  obtain ⟨v2, vs2, d2, ds2, p2, q2, rfl, rfl, rfl, hd2, hrest2⟩ := trodAll_cons hrest1
  obtain ⟨v3, vs3, d3, ds3, p3, q3, rfl, rfl, rfl, hd3, hrest3⟩ := trodAll_cons hrest2
  obtain ⟨v4, vs4, d4, ds4, p4, q4, rfl, rfl, rfl, hd4, hrest4⟩ := trodAll_cons hrest3
  obtain ⟨rfl, rfl, rfl⟩ := trodAll_nil hrest4
  exact ⟨v, v1, v2, v3, v4, d, d1, d2, d3, d4, p, p1, p2, p3, p4, by cases args; simp_all, rfl, by simp, hd, hd1, hd2, hd3, hd4⟩
theorem trodAll_six {t t1 t2 t3 t4 t5 : TypeId} {args : Array Value} {ds : List (DataW H)} {ps : List MemPlace} (h : DataW.TrodAll enc P w base spare held [t, t1, t2, t3, t4, t5] args.toList ds ps) :
    ∃ v v1 v2 v3 v4 v5 d d1 d2 d3 d4 d5 p p1 p2 p3 p4 p5, args = #[v, v1, v2, v3, v4, v5] ∧ ds = [d, d1, d2, d3, d4, d5] ∧ ps = p ++ p1 ++ p2 ++ p3 ++ p4 ++ p5 ∧ DataW.Trod enc P w base spare held t v d p ∧ DataW.Trod enc P w base spare held t1 v1 d1 p1 ∧ DataW.Trod enc P w base spare held t2 v2 d2 p2 ∧ DataW.Trod enc P w base spare held t3 v3 d3 p3 ∧ DataW.Trod enc P w base spare held t4 v4 d4 p4 ∧ DataW.Trod enc P w base spare held t5 v5 d5 p5 := by
  obtain ⟨v, vs, d, ds', p, q, hargs, rfl, rfl, hd, hrest⟩ := trodAll_cons h
  obtain ⟨v1, vs1, d1, ds1, p1, q1, rfl, rfl, rfl, hd1, hrest1⟩ := trodAll_cons hrest
  obtain ⟨v2, vs2, d2, ds2, p2, q2, rfl, rfl, rfl, hd2, hrest2⟩ := trodAll_cons hrest1
  obtain ⟨v3, vs3, d3, ds3, p3, q3, rfl, rfl, rfl, hd3, hrest3⟩ := trodAll_cons hrest2
  obtain ⟨v4, vs4, d4, ds4, p4, q4, rfl, rfl, rfl, hd4, hrest4⟩ := trodAll_cons hrest3
  obtain ⟨v5, vs5, d5, ds5, p5, q5, rfl, rfl, rfl, hd5, hrest5⟩ := trodAll_cons hrest4
  obtain ⟨rfl, rfl, rfl⟩ := trodAll_nil hrest5
  exact ⟨v, v1, v2, v3, v4, v5, d, d1, d2, d3, d4, d5, p, p1, p2, p3, p4, p5, by cases args; simp_all, rfl, by simp, hd, hd1, hd2, hd3, hd4, hd5⟩
end
end Go.Proofs.Ytkiebejidpebdaa
