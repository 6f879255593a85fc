/-
  Arguments opened: a list of strings, a macro that is handed in.
-/
import Derived.Test.YticiddcgafhkhaaGreatDoorVz
import Derived.Test.YticiddcgafhkhaaGreatDoorUF
import Derived.Test.YticiddcgafhkhaaGreatDoorUc
namespace Go.Proofs.YticiddcgafhkhaaGreatDoor
open Go.ChangeShapes Go.WideShapes Go.ChangeAt Go.RowKit
set_option linter.unusedVariables false

theorem cells25 : Tryz.prog.cellsOf 33 = 5 := by kernel_rfl
theorem cells22 : Tryz.prog.cellsOf 30 = 1 := by kernel_rfl
theorem cells23 : Tryz.prog.cellsOf 31 = 1 := by kernel_rfl
def sBulk : List (List UInt8) → Nat
  | [] => 0
  | s :: r => s.length + 1 + sBulk r
theorem sBulk_app (l m : List (List UInt8)) : sBulk (l ++ m) = sBulk l + sBulk m := by
  induction l with
  | nil => simp [sBulk]
  | cons t r ih => simp only [List.cons_append, sBulk, ih]; omega
theorem sBulk_len (l : List (List UInt8)) : l.length ≤ sBulk l := by
  induction l with
  | nil => simp [sBulk]
  | cons t r ih => simp only [List.length_cons, sBulk]; omega
theorem sBulk_mem {l : List (List UInt8)} {p : List UInt8} (h : p ∈ l) : p.length ≤ sBulk l := by
  induction l with
  | nil => cases h
  | cons t r ih =>
    rcases List.mem_cons.1 h with rfl | h
    · simp only [sBulk]; omega
    · have := ih h; simp only [sBulk]; omega
theorem open_strs {H : Type} {enc : TypeId × Value → H} {W : World} {p : Option Addr} {len cap fuel : Nat} {x : DataW H × List MemPlace}
    (h : DataW.trod enc Tryz.prog W 0 (fun _ => true) true fuel 30 [.slice p len cap] = some x) :
    ∃ lf : List (List UInt8), lf.length = len ∧ StG W.heap.size W (.slice p lf.length cap) lf ∧ len ≤ cap ∧ cap ≤ maxLen ∧ sBulk lf ≤ Rows.uptoBulk x.1 := by
  rcases Go.Deep.open_slice Tryz.underlying30 h with ⟨hc, hx⟩ | ⟨a, len', cap', m, k, D, Pl, hc, _, hl, hm, hmm, hx, hall⟩
  · obtain ⟨rfl, rfl, rfl⟩ : p = none ∧ len = 0 ∧ cap = 0 := by simpa using hc
    exact ⟨[], rfl, ⟨none, 0, rfl, fun i hi => by simp at hi⟩, Nat.le_refl _, Nat.zero_le _, by simp [sBulk]⟩
  · obtain ⟨rfl, rfl, rfl⟩ : p = some a ∧ len = len' ∧ cap = cap' := by simpa using hc
    simp only [if_true] at hmm
    subst hmm
    have key : ∀ i, ∃ t : List UInt8, i < m → W.cell? (a.add i) = some (.string ⟨t.toArray⟩) ∧ t.length + 1 ≤ Rows.uptoBulk (D i) := fun i => by
      by_cases hi : i < m
      · obtain ⟨cs', h1, h2⟩ := hall i hi
        rw [cells9] at h1
        obtain ⟨_, hlen, hcell⟩ := World.cells?_some h1
        obtain ⟨s, e1, d1, _⟩ := DataW.trod_string Tryz.underlying9 h2
        subst e1
        refine ⟨s.data.toList, fun _ => ⟨?_, ?_⟩⟩
        · have := hcell 0 (by decide)
          rw [Go.Deep.add_add] at this
          simpa using this
        · have hd1 : D i = .lit (.string s.data.toList) := by simpa using congrArg Prod.fst d1
          rw [hd1]
          simp only [Rows.uptoBulk]
          omega
      · exact ⟨[], fun h => absurd h hi⟩
    obtain ⟨G, hG⟩ := pick_fun key
    refine ⟨(List.range len).map G, by simp, ⟨some a, m, by simp, fun i hi => ?_⟩, hl, hm, ?_⟩
    · have hi' : i < len := by simpa using hi
      obtain ⟨c0, _⟩ := hG i (by omega)
      obtain ⟨b, off, spot⟩ := a
      have c00 := (hG 0 (by omega)).1
      have hspot : spot = none := by simpa [Addr.add] using World.cell?_spot c00
      subst hspot
      rw [add_plain] at c0
      simp only [List.getElem_map, List.getElem_range]
      exact ⟨b, off, rfl, World.block_lt_of_cell? W _ c0, c0⟩
    · rw [hx]
      simp only [Rows.uptoBulk]
      have happ : ∀ (l r : List (DataW H)), Rows.uptoBulkAll (l ++ r) = Rows.uptoBulkAll l + Rows.uptoBulkAll r := by
        intro l r
        induction l with
        | nil => simp [Rows.uptoBulkAll]
        | cons x l ih => simp only [List.cons_append, Rows.uptoBulkAll, ih]; omega
      have hs : ∀ n, n ≤ m → sBulk ((List.range n).map G) ≤ Rows.uptoBulkAll ((List.range n).map D) := by
        intro n
        induction n with
        | zero => intro _; simp [sBulk]
        | succ n ih =>
          intro hn
          have := ih (by omega)
          have h2 := (hG n (by omega)).2
          rw [List.range_succ, List.map_append, List.map_append, sBulk_app, happ]
          simp only [List.map_cons, List.map_nil, sBulk, Rows.uptoBulkAll]
          omega
      have := hs len hl
      omega
set_option maxRecDepth 100000 in
/-- A macro that is handed in. -/
theorem open_macro {H : Type} {enc : TypeId × Value → H} {W : World} {n : Nat} {cs : List Value} {y : DataW H × List MemPlace}
    (h : DataW.trod enc Tryz.prog W 0 (fun _ => true) true n 33 cs = some y) :
    ∃ (m : Mc), McV W.heap.size W (.agg cs.toArray) m ∧ m.name.length + sBulk m.ps + gBulk m.body ≤ Rows.uptoBulk y.1 := by
  obtain ⟨xs, k, _, hxy, hl, hxl, hf⟩ := DataW.trod_struct Tryz.underlying33 h
  rw [cells25] at hl
  match xs, hxl, cs, hl with
  | [y0, y1, y2, y3, y4], _, [v0, v1, v2, v3, v4], _ =>
    have g0 := hf 0 _ rfl
    have g1 := hf 1 _ rfl
    have g2 := hf 2 _ rfl
    have g3 := hf 3 _ rfl
    have g4 := hf 4 _ rfl
    simp [cells9, cells4, cells22, cells23] at g0 g1 g2 g3 g4
    obtain ⟨s, e0, d0, _⟩ := DataW.trod_string Tryz.underlying9 g0
    obtain ⟨b, e1, _⟩ := DataW.trod_bool Tryz.underlying4 g1
    obtain ⟨c, e3, _⟩ := DataW.trod_bool Tryz.underlying4 g3
    have hs2 : ∃ p len cap, v2 = .slice p len cap := by
      rcases Go.Deep.open_slice Tryz.underlying30 g2 with ⟨hc, _⟩ | ⟨a, len', cap', m, k, D, Pl, hc, _⟩
      · exact ⟨none, 0, 0, by simpa using hc⟩
      · exact ⟨_, _, _, by simpa using hc⟩
    have hs4 : ∃ p len cap, v4 = .slice p len cap := by
      rcases Go.Deep.open_slice Tryz.underlying31 g4 with ⟨hc, _⟩ | ⟨a, len', cap', m, k, D, Pl, hc, _⟩
      · exact ⟨none, 0, 0, by simpa using hc⟩
      · exact ⟨_, _, _, by simpa using hc⟩
    obtain ⟨p2, n2, c2, rfl⟩ := hs2
    obtain ⟨p4, n4, c4, rfl⟩ := hs4
    obtain ⟨ps, rfl, hps, hpc, hpm, hpb⟩ := open_strs g2
    obtain ⟨bd, rfl, hbd, hbc, hbm, hbb⟩ := open_toks g4
    simp only [List.cons.injEq, and_true] at e0 e1 e3
    refine ⟨⟨s.data.toList, b, ps, c, bd⟩, ⟨_, _, by rw [e0, e1, e3], hps, hbd, fun p n cc hh => by cases hh; exact ⟨hpc, hpm⟩⟩, ?_⟩
    have hd0 : y0.1 = .lit (.string s.data.toList) := by simpa using congrArg Prod.fst d0
    rw [hxy]
    simp only [List.map_cons, List.map_nil, Rows.uptoBulk, Rows.uptoBulkAll, hd0]
    omega
/-- A macro of little bulk is one that a walk may bear. -/
theorem fits_bulk {m : Mc} (h : m.name.length + sBulk m.ps + gBulk m.body ≤ 1048576) : McFits m := by
  have h1 := sBulk_len m.ps
  have h2 := gBulk_len m.body
  have h3 := spG_bulk m.body
  exact ⟨by omega, by omega, fun p hp => by have := sBulk_mem hp; omega, by omega, fun _ => by omega⟩
theorem join_bulk (ps : List (List UInt8)) : (Lib.join ps [44, 32]).length ≤ 2 * sBulk ps := by
  cases ps with
  | nil => simp [Lib.join_nil, sBulk]
  | cons x r =>
    rw [Lib.join_length]
    have : ∀ l : List (List UInt8), Lib.lens l + l.length = sBulk l := by
      intro l
      induction l with
      | nil => simp [Lib.lens, sBulk]
      | cons y l ih => simp only [Lib.lens, List.map_cons, List.sum_cons, List.length_cons, sBulk] at ih ⊢; omega
    have := this (x :: r)
    simp at this ⊢
    omega
theorem show_bulk {m : Mc} (h : m.name.length + sBulk m.ps + gBulk m.body ≤ 1048576) : m.name.length + (Lib.join (listedS m.more m.ps) [44, 32]).length + (spG m.body).length + 10 ≤ 140737488355328 ∧ m.ps.length * 16 ≤ 100000000000000 := by
  have h1 := sBulk_len m.ps
  have h3 := spG_bulk m.body
  have h4 := join_bulk (listedS m.more m.ps)
  have h5 : sBulk (listedS m.more m.ps) ≤ sBulk m.ps + 4 := by
    unfold listedS
    split
    · rw [sBulk_app]; simp [sBulk]
    · omega
  exact ⟨by omega, by omega⟩
end Go.Proofs.YticiddcgafhkhaaGreatDoor
