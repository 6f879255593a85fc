/-
  The package variables of stage 13, as the program's text lays them; the start at which they hold.
  Words that are handed in, opened (full form).
-/
import Derived.Test.YtmpkgjonbjpohaaGreatDoorY8
import Derived.Test.YtmpkgjonbjpohaaGreatDoorRows
import Derived.Test.YtmpkgjonbjpohaaGreatDoorCards
import Derived.Test.YtmpkgjonbjpohaaGreatDoorTie
import Derived.ProofKit
import Derived.LaidMore
import Derived.OpenShut
import Derived.Stop.Joined
import Derived.LaidLaws
import Derived.SizedLaws
import Derived.SevenTiedAt
import Derived.Deep.Slices
import Derived.Deep.DeepHandedRow
namespace Go.Proofs.YtmpkgjonbjpohaaGreatDoor
open Go.ChangeShapes Go.WideShapes Go.ChangeAt Go.RowKit
set_option linter.unusedVariables false

theorem gSyntax : Tryz.prog.globalNamed "strconv.ErrSyntax" = some 6 := by kernel_rfl
theorem gRange : Tryz.prog.globalNamed "strconv.ErrRange" = some 7 := by kernel_rfl
theorem gSigns : Tryz.prog.globalNamed "burin/token.signs" = some 1 := by kernel_rfl
theorem tSyntax : (Tryz.prog.globals[6]?).map (·.type) = some 182 := by kernel_rfl
theorem tRange : (Tryz.prog.globals[7]?).map (·.type) = some 182 := by kernel_rfl
theorem tSigns : (Tryz.prog.globals[1]?).map (·.type) = some 169 := by kernel_rfl
theorem cells9 : Tryz.prog.cellsOf 9 = 1 := by kernel_rfl
theorem signs_laid {H : Type} : (Rows.laid_burin_token_signs : DataW H) = .agg (Tk.signs.map fun x => .lit (.string x)) := rfl
theorem one_of {α : Type} {cs : List α} {i : Nat} {v : α} (h : (cs.drop (i * 1)).take 1 = [v]) : cs[i]? = some v := by
  rw [Nat.mul_one] at h
  have : ((cs.drop i).take 1)[0]? = some v := by rw [h]; rfl
  simpa using this
/-- The list of what is laid, as the rows have it. -/
abbrev laid8 : List (String × DataW Unit) := [("math/bits.deBruijn32tab", Rows.laid_math_bits_deBruijn32tab), ("math/bits.deBruijn64tab", Rows.laid_math_bits_deBruijn64tab), ("internal/strconv.uint64pow10", Rows.laid_internal_strconv_uint64pow10), ("burin/kind.most", Rows.laid_burin_kind_most), ("burin/arith.operators", Rows.laid_burin_arith_operators), ("strconv.ErrRange", Rows.laid_strconv_ErrRange), ("strconv.ErrSyntax", Rows.laid_strconv_ErrSyntax), ("burin/token.signs", Rows.laid_burin_token_signs)]
theorem iface_cell {W : World} {g : Nat} {n : String} {t : TypeId} {cs : Array Value} {f : Nat} {p : List MemPlace} {name : String} {d : DataW Unit} (hg : Tryz.prog.globalNamed n = some g) (hv : W.var? Tryz.prog n = some cs) (ht : t = 182)
    (hd : DataW.trod (fun _ => ()) Tryz.prog W 0 (fun _ => true) false f t cs.toList = some (.iface name d, p)) : ∃ u v, W.cell? ⟨g, 0, none⟩ = some (.iface u v) := by
  subst ht
  obtain ⟨_, u, v, hc, _, _⟩ := iface_of_trod Tryz.underlying182 hd
  refine ⟨u, v, ?_⟩
  rw [World.var?_cell hg hv 0, ← Array.getElem?_toList, hc]
  rfl
theorem gPow : Tryz.prog.globalNamed "internal/strconv.uint64pow10" = some 8 := by kernel_rfl
theorem gB32 : Tryz.prog.globalNamed "math/bits.deBruijn32tab" = some 9 := by kernel_rfl
theorem gB64 : Tryz.prog.globalNamed "math/bits.deBruijn64tab" = some 10 := by kernel_rfl
theorem var_lt {W : World} {n : String} {g : Nat} {cs : Array Value} (hg : Tryz.prog.globalNamed n = some g) (hv : W.var? Tryz.prog n = some cs) : g < W.heap.size := by
  unfold World.var? at hv
  rw [hg] at hv
  rcases Nat.lt_or_ge g W.heap.size with h | h
  · exact h
  · simp [Array.getElem?_eq_none h] at hv
theorem gOps : Tryz.prog.globalNamed "burin/arith.operators" = some 0 := by kernel_rfl
theorem tOps : (Tryz.prog.globals[0]?).map (·.type) = some 134 := by kernel_rfl
theorem cellsO : Tryz.prog.cellsOf 109 = 2 := by kernel_rfl
theorem cellsI : Tryz.prog.cellsOf 3 = 1 := by kernel_rfl
theorem cellsS : Tryz.prog.cellsOf 9 = 1 := by kernel_rfl
theorem gMost : Tryz.prog.globalNamed "burin/kind.most" = some 5 := by kernel_rfl
theorem tMost : (Tryz.prog.globals[5]?).map (·.type) = some 171 := by kernel_rfl
def opRow (k : Nat) : DataW Unit := .agg [.lit (.string (sigM k)), .lit (.int .i64 (ofM k))]
theorem ops_laid : (Rows.laid_burin_arith_operators : DataW Unit) = .agg ((List.range 18).map opRow) := by kernel_rfl
theorem ops_open {W : World} {cs0 : Array Value} {f0 : Nat} {p0 : List MemPlace} (hv0 : W.var? Tryz.prog "burin/arith.operators" = some cs0) (hd0 : DataW.trod (fun _ => ()) Tryz.prog W 0 (fun _ => true) false f0 134 cs0.toList = some (Rows.laid_burin_arith_operators, p0)) : Ops W := by
  have hg0 := gOps
  obtain ⟨xs, m1, rfl, hx1, hlen, hn, hel⟩ := DataW.trod_array Tryz.underlying134 hd0
  rw [ops_laid] at hx1
  simp only [Prod.mk.injEq, DataW.agg.injEq] at hx1
  intro k hk
  have he := hel k hk
  obtain ⟨y, hy⟩ : ∃ y, xs[k]? = some y := ⟨_, List.getElem?_eq_getElem (by omega)⟩
  rw [hy, cellsO] at he
  have e4 : (xs.map (·.1))[k]? = some y.1 := by rw [List.getElem?_map, hy]; rfl
  rw [← hx1.1, List.getElem?_map, List.getElem?_range hk] at e4
  have ey : y.1 = opRow k := by simpa using e4.symm
  obtain ⟨y0, y1, n, hyy, hl, z0, z1⟩ := trod_struct2 Tryz.underlying109 he
  rw [hyy] at ey
  simp only [opRow, DataW.agg.injEq, List.cons.injEq, and_true] at ey
  obtain ⟨s, e0, d0, _⟩ := DataW.trod_string Tryz.underlying9 (by simpa [cellsS] using z0)
  obtain ⟨i, e1, d1, _⟩ := DataW.trod_int Tryz.underlying3 (by simpa [cellsI] using z1)
  have b0 : (((cs0.toList.drop (k * 2)).take 2))[0]? = some (.string s) := by
    have : ((cs0.toList.drop (k * 2)).take 2).take 1 = [.string s] := by simpa using e0
    have h2 : (((cs0.toList.drop (k * 2)).take 2).take 1)[0]? = some (.string s) := by rw [this]; rfl
    simpa using h2
  have b1 : (((cs0.toList.drop (k * 2)).take 2))[1]? = some (.int .i64 i) := by
    have : (((cs0.toList.drop (k * 2)).take 2).drop 1).take 1 = [.int .i64 i] := by simpa using e1
    have h2 : ((((cs0.toList.drop (k * 2)).take 2).drop 1).take 1)[0]? = some (.int .i64 i) := by rw [this]; rfl
    simpa using h2
  have q0 : s = ⟨(sigM k).toArray⟩ := by
    have := ey.1
    rw [d0] at this
    simp at this
    obtain ⟨⟨s⟩⟩ := s
    simp at this
    rw [this]
  have q1 : i = ofM k := by
    have := ey.2
    rw [d1] at this
    simpa using this
  subst q0 q1
  refine ⟨?_, ?_⟩
  · rw [World.var?_cell hg0 hv0 (k * 2), ← Array.getElem?_toList]
    simpa using b0
  · rw [World.var?_cell hg0 hv0 (k * 2 + 1), ← Array.getElem?_toList]
    simpa using b1
theorem mo_open {W : World} {cs0 : Array Value} {f0 : Nat} {p0 : List MemPlace} (hv0 : W.var? Tryz.prog "burin/kind.most" = some cs0) (hd0 : DataW.trod (fun _ => ()) Tryz.prog W 0 (fun _ => true) false f0 171 cs0.toList = some (Rows.laid_burin_kind_most, p0)) : Mo W := by
  have hg0 := gMost
  obtain ⟨xs, m1, rfl, hx1, hlen, hn, hel⟩ := DataW.trod_array Tryz.underlying171 hd0
  simp only [Prod.mk.injEq, Rows.laid_burin_kind_most, DataW.agg.injEq] at hx1
  have key : ∀ (i : Nat) (x : Int), ([1, 1, 2, 1, 1, 1] : List Int)[i]? = some x → W.cell? ⟨5, i, none⟩ = some (.int .i64 x) := by
    intro i x hx
    have hi : i < 6 := (List.getElem?_eq_some_iff.1 hx).1
    have he := hel i hi
    obtain ⟨y, hy⟩ : ∃ y, xs[i]? = some y := ⟨_, List.getElem?_eq_getElem (by omega)⟩
    rw [hy, cellsI] at he
    obtain ⟨n, e1, e2, _⟩ := DataW.trod_int Tryz.underlying3 he
    have hc := World.var?_cell hg0 hv0 i
    have e3 := one_of e1
    rw [hc, ← Array.getElem?_toList, e3]
    have e4 : (xs.map (·.1))[i]? = some y.1 := by rw [List.getElem?_map, hy]; rfl
    have e5 : ([.lit (.int .i64 1), .lit (.int .i64 1), .lit (.int .i64 2), .lit (.int .i64 1), .lit (.int .i64 1), .lit (.int .i64 1)] : List (DataW Unit)) = ([1, 1, 2, 1, 1, 1] : List Int).map fun x => .lit (.int .i64 x) := rfl
    rw [← hx1.1, e5, List.getElem?_map, hx, e2] at e4
    simp at e4
    rw [e4]
  exact ⟨key 0 1 rfl, key 1 1 rfl, key 2 2 rfl, key 3 1 rfl, key 4 1 rfl, key 5 1 rfl⟩
theorem all_of_laid {W : World} (h : laidMetH Tryz.prog laid8 W) : Gl W ∧ Ops W ∧ Mo W ∧ 10 < W.heap.size := by
  rw [MakeChecks.laidMetH_plain _ _ _ (by kernel_rfl)] at h
  obtain ⟨ps, ⟨g5, _, cs5, _, _, _, hg5, _, hv5, _, ⟨g6, _, cs6, _, _, _, hg6, _, hv6, _, ⟨g3, t3, cs3, f3, p3, q3, hg3, ht3, hv3, hd3, ⟨g7, t7, cs7, f7, p7, q7, hg7, ht7, hv7, hd7, ⟨g8, t8, cs8, f8, p8, q8, hg8, ht8, hv8, hd8, ⟨g1, t1, cs1, f1, p1, q1, hg1, ht1, hv1, hd1, ⟨g2, t2, cs2, f2, p2, q2, hg2, ht2, hv2, hd2, ⟨g0, t0, cs0, f0, p0, q0, hg0, ht0, hv0, hd0, _, _⟩, _⟩, _⟩, _⟩, _⟩, _⟩, _⟩, _⟩, _, _⟩ := h
  obtain rfl := Option.some.inj (gMost.symm.trans hg7)
  obtain rfl := Option.some.inj (tMost.symm.trans ht7)
  obtain rfl := Option.some.inj (gOps.symm.trans hg8)
  obtain rfl := Option.some.inj (tOps.symm.trans ht8)
  obtain rfl := Option.some.inj (gSigns.symm.trans hg0)
  obtain rfl := Option.some.inj (tSigns.symm.trans ht0)
  obtain rfl := Option.some.inj (gRange.symm.trans hg1)
  obtain rfl := Option.some.inj (tRange.symm.trans ht1)
  obtain rfl := Option.some.inj (gSyntax.symm.trans hg2)
  obtain rfl := Option.some.inj (tSyntax.symm.trans ht2)
  obtain rfl := Option.some.inj (gPow.symm.trans hg3)
  obtain rfl := Option.some.inj (gB32.symm.trans hg5)
  obtain rfl := Option.some.inj (gB64.symm.trans hg6)
  have hz : 10 < W.heap.size := by
    have := var_lt hg0 hv0
    have := var_lt hg1 hv1
    have := var_lt hg2 hv2
    have := var_lt hg3 hv3
    have := var_lt hg5 hv5
    have := var_lt hg6 hv6
    omega
  have e1 := iface_cell hg1 hv1 rfl hd1
  have e2 := iface_cell hg2 hv2 rfl hd2
  obtain ⟨xs, m1, rfl, hx1, hlen, hn, hel⟩ := DataW.trod_array Tryz.underlying169 hd0
  simp only [Prod.mk.injEq, signs_laid, DataW.agg.injEq] at hx1
  have key : Sg W := by
    intro i x hx
    have hi : i < 48 := (List.getElem?_eq_some_iff.1 hx).1
    have he := hel i hi
    obtain ⟨y, hy⟩ : ∃ y, xs[i]? = some y := ⟨_, List.getElem?_eq_getElem (by omega)⟩
    rw [hy, cells9] at he
    obtain ⟨s, e1, e2, _⟩ := DataW.trod_string Tryz.underlying9 he
    have hc := World.var?_cell hg0 hv0 i
    have e3 := one_of e1
    rw [hc, ← Array.getElem?_toList, e3]
    have e4 : (xs.map (·.1))[i]? = some y.1 := by rw [List.getElem?_map, hy]; rfl
    rw [← hx1.1, List.getElem?_map, hx, e2] at e4
    simp at e4
    rw [e4]
  exact ⟨⟨hz, ⟨e2, e1⟩, key⟩, ops_open hv8 hd8, mo_open hv7 hd7, hz⟩
theorem own : ownKnob Tryz.prog.godebug = none := by kernel_rfl
theorem door_met (os : Os) (args : Array Value) : laidMetH Tryz.prog laid8 ((World.doorLaid Tryz.prog 400 os).forCall (fun _ _ => 0) ⟨#[], args, []⟩).memory :=
  laidMetH_of_parts3 (fuel := 8) (laidMet_of_run' 8 (by kernel_rfl) (by kernel_rfl)) (by kernel_rfl) (by kernel_rfl)
end Go.Proofs.YtmpkgjonbjpohaaGreatDoor
namespace Go.Proofs.YtmpkgjonbjpohaaGreatDoor
open Go.ChangeShapes Go.WideShapes Go.ChangeAt Go.RowKit
set_option linter.unusedVariables false

theorem laidOut : laidOutB Tryz.prog = true := by kernel_rfl
theorem cells3 : Tryz.prog.cellsOf 3 = 1 := by kernel_rfl
theorem cells2 : Tryz.prog.cellsOf 2 = 1 := by kernel_rfl
theorem cells4 : Tryz.prog.cellsOf 4 = 1 := by kernel_rfl
theorem cellsW : Tryz.prog.cellsOf 42 = 6 := by kernel_rfl
theorem add_plain (b o j : Nat) : (⟨b, o, none⟩ : Addr).add j = ⟨b, o + j, none⟩ := by unfold Addr.add; split <;> simp_all
theorem pick_fun {α β : Type} {r : α → β → Prop} (h : ∀ x, ∃ y, r x y) : ∃ f : α → β, ∀ x, r x (f x) := ⟨fun x => Classical.choose (h x), fun x => Classical.choose_spec (h x)⟩
theorem weightsAll_mem {H : Type} {P : Program} {e : TypeId} : ∀ {l : List (DataW H)} {d : DataW H}, d ∈ l → ∀ n ∈ d.weights P e, n ∈ DataW.weightsAll P e l
  | x :: r, d, h, n, hn => by
    rw [DataW.weightsAll, List.mem_append]
    rcases List.mem_cons.1 h with rfl | h
    · exact .inl hn
    · exact .inr (weightsAll_mem h n hn)
set_option maxRecDepth 100000 in
/-- One word of the six cells. -/
theorem wd_openW {H : Type} {enc : TypeId × Value → H} {W : World} {n : Nat} {cs : List Value} {y : DataW H × List MemPlace}
    (h : DataW.trod enc Tryz.prog W 0 (fun _ => true) true n 42 cs = some y) :
    ∃ x : Wd, cs = [.int .i64 x.kind, .string ⟨x.s.toArray⟩, .int .i64 x.v, .int .i64 x.t, .string ⟨x.f.toArray⟩, .int .i64 x.line] ∧ x.s.length ∈ y.1.weights Tryz.prog 42 := by
  obtain ⟨xs, k, _, hxy, hl, hxl, hf⟩ := DataW.trod_struct Tryz.underlying42 h
  rw [cellsW] at hl
  match xs, hxl, cs, hl with
  | [y0, y1, y2, y3, y4, y5], _, [v0, v1, v2, v3, v4, v5], _ =>
    have g0 := hf 0 _ rfl
    have g1 := hf 1 _ rfl
    have g2 := hf 2 _ rfl
    have g3 := hf 3 _ rfl
    have g4 := hf 4 _ rfl
    have g5 := hf 5 _ rfl
    simp [cells3, cells9, cells2] at g0 g1 g2 g3 g4 g5
    obtain ⟨a, e0, _, _⟩ := DataW.trod_int Tryz.underlying3 g0
    obtain ⟨s, e1, d1, _⟩ := DataW.trod_string Tryz.underlying9 g1
    obtain ⟨v, e2, _, wv⟩ := DataW.trod_int Tryz.underlying2 g2
    obtain ⟨t, e3, _, _⟩ := DataW.trod_int Tryz.underlying3 g3
    obtain ⟨f, e4, _, _⟩ := DataW.trod_string Tryz.underlying9 g4
    obtain ⟨m, e5, _, _⟩ := DataW.trod_int Tryz.underlying3 g5
    simp only [List.cons.injEq, and_true] at e0 e1 e2 e3 e4 e5
    refine ⟨⟨a, s.data.toList, v, t, f.data.toList, m⟩, by rw [e0, e1, e2, e3, e4, e5], ?_⟩
    have hd1 : y1.1 = .lit (.string s.data.toList) := by simpa using congrArg Prod.fst d1
    rw [hxy]
    simp only [List.map_cons, List.map_nil, DataW.weights, Tryz.underlying42, hd1]
    simp [DataW.weightsEach, DataW.weights]
/-- The argument opened: words lie behind the address. -/
theorem open_wordsW {H : Type} {enc : TypeId × Value → H} {W : World} {p : Option Addr} {len cap fuel : Nat} {x : DataW H × List MemPlace}
    (h : DataW.trod enc Tryz.prog W 0 (fun _ => true) true fuel 26 [.slice p len cap] = some x) :
    ∃ lf : List Wd, lf.length = len ∧ WdG W.heap.size W (.slice p lf.length cap) lf ∧ len ≤ cap ∧ cap ≤ maxLen ∧ (p = none → cap = 0) ∧ ((x.1.weights Tryz.prog 26).all (· ≤ reachBytes) = true → ∀ t ∈ lf, t.s.length ≤ 140737488355320) := by
  rcases Go.Deep.open_slice Tryz.underlying26 h with ⟨hc, hx⟩ | ⟨a, len', cap', m, k, D, Pl, hc, _, hl, hm, hmm, hx, hall⟩
  · obtain ⟨rfl, rfl, rfl⟩ : p = none ∧ len = 0 ∧ cap = 0 := by simpa using hc
    exact ⟨[], rfl, ⟨none, 0, rfl, fun i hi => by simp at hi⟩, Nat.le_refl _, Nat.zero_le _, fun _ => rfl, fun _ s hs => by cases hs⟩
  · obtain ⟨rfl, rfl, rfl⟩ : p = some a ∧ len = len' ∧ cap = cap' := by simpa using hc
    simp only [if_true] at hmm
    subst hmm
    have key : ∀ i, ∃ t : Wd, i < m → (W.cell? (a.add (i * 6)) = some (.int .i64 t.kind) ∧ W.cell? (a.add (i * 6 + 1)) = some (.string ⟨t.s.toArray⟩) ∧ W.cell? (a.add (i * 6 + 2)) = some (.int .i64 t.v) ∧
        W.cell? (a.add (i * 6 + 3)) = some (.int .i64 t.t) ∧ W.cell? (a.add (i * 6 + 4)) = some (.string ⟨t.f.toArray⟩) ∧ W.cell? (a.add (i * 6 + 5)) = some (.int .i64 t.line)) ∧ t.s.length ∈ (D i).weights Tryz.prog 42 := fun i => by
      by_cases hi : i < m
      · obtain ⟨cs', h1, h2⟩ := hall i hi
        rw [cellsW] at h1
        obtain ⟨_, hlen, hcell⟩ := World.cells?_some h1
        obtain ⟨t, rfl, hb⟩ := wd_openW h2
        refine ⟨t, fun _ => ⟨?_, hb⟩⟩
        have c : ∀ j, j < 6 → W.cell? (a.add (i * 6 + j)) = [Value.int .i64 t.kind, .string ⟨t.s.toArray⟩, .int .i64 t.v, .int .i64 t.t, .string ⟨t.f.toArray⟩, .int .i64 t.line][j]? := fun j hj => by
          have := hcell j hj
          rw [Go.Deep.add_add] at this
          exact this
        exact ⟨c 0 (by decide), c 1 (by decide), c 2 (by decide), c 3 (by decide), c 4 (by decide), c 5 (by decide)⟩
      · exact ⟨zrW, fun h => absurd h hi⟩
    obtain ⟨G, hG⟩ := pick_fun key
    refine ⟨(List.range len).map G, by simp, ⟨some a, m, by simp, fun i hi => ?_⟩, hl, hm, fun h => (by cases h), fun hw s hs => ?_⟩
    · have hi' : i < len := by simpa using hi
      obtain ⟨⟨c0, c1, c2, c3, c4, c5⟩, _⟩ := hG i (by omega)
      obtain ⟨b, off, spot⟩ := a
      have c00 := (hG 0 (by omega)).1.1
      have hspot : spot = none := by simpa [Addr.add] using World.cell?_spot c00
      subst hspot
      rw [add_plain] at c0 c1 c2 c3 c4 c5
      simp only [← Nat.add_assoc] at c1 c2 c3 c4 c5
      simp only [List.getElem_map, List.getElem_range]
      exact ⟨b, off, rfl, World.block_lt_of_cell? W _ c0, c0, c1, c2, c3, c4, c5⟩
    · rw [hx] at hw
      simp only [DataW.weights, Tryz.underlying26, List.all_cons, Bool.and_eq_true, decide_eq_true_eq, List.all_append] at hw
      obtain ⟨h1, h2, _⟩ := hw
      obtain ⟨i, hi, rfl⟩ := List.mem_map.1 hs
      have hi' := List.mem_range.1 hi
      obtain ⟨_, hd⟩ := hG i (by omega)
      have := List.all_eq_true.1 h2 (G i).s.length (weightsAll_mem (d := D i) (List.mem_map.2 ⟨i, hi, rfl⟩) _ hd)
      have h3 := of_decide_eq_true this
      rw [reachBytes] at h3
      omega
end Go.Proofs.YtmpkgjonbjpohaaGreatDoor
