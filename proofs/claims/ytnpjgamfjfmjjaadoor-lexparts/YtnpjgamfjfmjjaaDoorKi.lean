/-
  burinlaw07.LexParts answers true for every two lists of tokens (of texts of at most 2^47 - 4096 bytes, the form's own reach), and leaves it as it was, with the package variables as the program's text lays them.
-/
import Derived.Test.YtnpjgamfjfmjjaaDoorKf
import Derived.Test.YtnpjgamfjfmjjaaDoorKg
import Derived.Deep.Slices
namespace Go.Proofs.YtnpjgamfjfmjjaaDoor
open Go.ChangeShapes Go.WideShapes Go.ChangeAt Go.RowKit
set_option linter.unusedVariables false

theorem weightsAll_mem {H : Type} {P : Program} {e : TypeId} : ∀ {l : List (DataW H)} {d : DataW H}, d ∈ l → ∀ n ∈ d.weights P e, n ∈ DataW.weightsAll P e l
  | x :: r, d, h, n, hn => by
    rw [DataW.weightsAll, List.mem_append]
    rcases List.mem_cons.1 h with rfl | h
    · exact .inl hn
    · exact .inr (weightsAll_mem h n hn)
set_option maxRecDepth 100000 in
/-- One token of the six cells. -/
theorem tok_open {H : Type} {enc : TypeId × Value → H} {W : World} {n : Nat} {cs : List Value} {y : DataW H × List MemPlace}
    (h : DataW.trod enc Tryd.prog W 0 (fun _ => true) true n 25 cs = some y) :
    ∃ t : Gt, cs = [.int .i64 t.kind, .string ⟨t.s.toArray⟩, .string ⟨t.f.toArray⟩, .int .i64 t.line, .bool t.sp, .bool t.fi] ∧ t.s.length ∈ y.1.weights Tryd.prog 25 := by
  obtain ⟨xs, k, _, hxy, hl, hxl, hf⟩ := DataW.trod_struct Tryd.underlying25 h
  rw [cellsT] at hl
  match xs, hxl, cs, hl with
  | [y0, y1, y2, y3, y4, y5], _, [v0, v1, v2, v3, v4, v5], _ =>
    have g0 := hf 0 _ rfl
    have g1 := hf 1 _ rfl
    have g2 := hf 2 _ rfl
    have g3 := hf 3 _ rfl
    have g4 := hf 4 _ rfl
    have g5 := hf 5 _ rfl
    simp [cells3, cells9, cells4] at g0 g1 g2 g3 g4 g5
    obtain ⟨a, e0, _, _⟩ := DataW.trod_int Tryd.underlying3 g0
    obtain ⟨s, e1, d1, _⟩ := DataW.trod_string Tryd.underlying9 g1
    obtain ⟨f, e2, _, _⟩ := DataW.trod_string Tryd.underlying9 g2
    obtain ⟨m, e3, _, _⟩ := DataW.trod_int Tryd.underlying3 g3
    obtain ⟨b, e4, _⟩ := DataW.trod_bool Tryd.underlying4 g4
    obtain ⟨c, e5, _⟩ := DataW.trod_bool Tryd.underlying4 g5
    simp only [List.cons.injEq, and_true] at e0 e1 e2 e3 e4 e5
    refine ⟨⟨a, s.data.toList, f.data.toList, m, b, c⟩, by rw [e0, e1, e2, e3, e4, e5], ?_⟩
    have hd1 : y1.1 = .lit (.string s.data.toList) := by simpa using congrArg Prod.fst d1
    rw [hxy]
    simp only [List.map_cons, List.map_nil, DataW.weights, Tryd.underlying25, hd1]
    simp [DataW.weightsEach, DataW.weights]
/-- The argument opened: tokens lie behind the address. -/
theorem open_toksW {H : Type} {enc : TypeId × Value → H} {W : World} {p : Option Addr} {len cap fuel : Nat} {x : DataW H × List MemPlace}
    (h : DataW.trod enc Tryd.prog W 0 (fun _ => true) true fuel 22 [.slice p len cap] = some x) :
    ∃ lf : List Gt, lf.length = len ∧ TkG W.heap.size W (.slice p lf.length cap) lf ∧ len ≤ cap ∧ cap ≤ maxLen ∧ (p = none → cap = 0) ∧ ((x.1.weights Tryd.prog 22).all (· ≤ reachBytes) = true → ∀ t ∈ lf, t.s.length ≤ 140737488355320) := by
  rcases Go.Deep.open_slice Tryd.underlying22 h with ⟨hc, hx⟩ | ⟨a, len', cap', m, k, D, Pl, hc, _, hl, hm, hmm, hx, hall⟩
  · obtain ⟨rfl, rfl, rfl⟩ : p = none ∧ len = 0 ∧ cap = 0 := by simpa using hc
    exact ⟨[], rfl, ⟨none, 0, rfl, fun i hi => by simp at hi⟩, Nat.le_refl _, Nat.zero_le _, fun _ => rfl, fun _ s hs => by cases hs⟩
  · obtain ⟨rfl, rfl, rfl⟩ : p = some a ∧ len = len' ∧ cap = cap' := by simpa using hc
    simp only [if_true] at hmm
    subst hmm
    have key : ∀ i, ∃ t : Gt, i < m → (W.cell? (a.add (i * 6)) = some (.int .i64 t.kind) ∧ W.cell? (a.add (i * 6 + 1)) = some (.string ⟨t.s.toArray⟩) ∧ W.cell? (a.add (i * 6 + 2)) = some (.string ⟨t.f.toArray⟩) ∧
        W.cell? (a.add (i * 6 + 3)) = some (.int .i64 t.line) ∧ W.cell? (a.add (i * 6 + 4)) = some (.bool t.sp) ∧ W.cell? (a.add (i * 6 + 5)) = some (.bool t.fi)) ∧ t.s.length ∈ (D i).weights Tryd.prog 25 := fun i => by
      by_cases hi : i < m
      · obtain ⟨cs', h1, h2⟩ := hall i hi
        rw [cellsT] at h1
        obtain ⟨_, hlen, hcell⟩ := World.cells?_some h1
        obtain ⟨t, rfl, hb⟩ := tok_open h2
        refine ⟨t, fun _ => ⟨?_, hb⟩⟩
        have c : ∀ j, j < 6 → W.cell? (a.add (i * 6 + j)) = [Value.int .i64 t.kind, .string ⟨t.s.toArray⟩, .string ⟨t.f.toArray⟩, .int .i64 t.line, .bool t.sp, .bool t.fi][j]? := fun j hj => by
          have := hcell j hj
          rw [Go.Deep.add_add] at this
          exact this
        exact ⟨c 0 (by decide), c 1 (by decide), c 2 (by decide), c 3 (by decide), c 4 (by decide), c 5 (by decide)⟩
      · exact ⟨⟨0, [], [], 0, false, false⟩, fun h => absurd h hi⟩
    obtain ⟨G, hG⟩ := pick_fun key
    refine ⟨(List.range len).map G, by simp, ⟨some a, m, by simp, fun i hi => ?_⟩, hl, hm, fun h => (by cases h), fun hw s hs => ?_⟩
    · have hi' : i < len := by simpa using hi
      obtain ⟨⟨c0, c1, c2, c3, c4, c5⟩, _⟩ := hG i (by omega)
      obtain ⟨b, off, spot⟩ := a
      have c00 := (hG 0 (by omega)).1.1
      have hspot : spot = none := by simpa [Addr.add] using World.cell?_spot c00
      subst hspot
      rw [add_plain] at c0 c1 c2 c3 c4 c5
      simp only [← Nat.add_assoc] at c1 c2 c3 c4 c5
      simp only [List.getElem_map, List.getElem_range]
      exact ⟨b, off, rfl, World.block_lt_of_cell? W _ c0, c0, c1, c2, c3, c4, c5⟩
    · rw [hx] at hw
      simp only [DataW.weights, Tryd.underlying22, List.all_cons, Bool.and_eq_true, decide_eq_true_eq, List.all_append] at hw
      obtain ⟨h1, h2, _⟩ := hw
      obtain ⟨i, hi, rfl⟩ := List.mem_map.1 hs
      have hi' := List.mem_range.1 hi
      obtain ⟨_, hd⟩ := hG i (by omega)
      have := List.all_eq_true.1 h2 (G i).s.length (weightsAll_mem (d := D i) (List.mem_map.2 ⟨i, hi, rfl⟩) _ hd)
      have h3 := of_decide_eq_true this
      rw [reachBytes] at h3
      omega
end Go.Proofs.YtnpjgamfjfmjjaaDoor
namespace Go.Proofs.YtnpjgamfjfmjjaaDoor.lexParts
open Go.ChangeShapes Go.WideShapes Go.ChangeAt Go.RowKit
set_option linter.unusedVariables false

set_option maxRecDepth 100000 in
theorem lifted (os : Os) (started : os.Started) (H : Type) (enc : TypeId × Value → H) :
    ReturnsInHanded {} Tryd.checked os 3 .any (fun w args => (Rows.lexPartsSpec.pre enc Tryd.prog Tryd.f3 [] false w args ∧ laidMetH Tryd.prog laid6 w) ∧ sizedMet enc Tryd.prog Tryd.f3 (OpenSpec.ofChange Rows.lexPartsSpec) false w args)
      (Rows.lexPartsSpec.post enc Tryd.prog Tryd.f3 false true false false) := by
  refine returnsInHanded_of_change_and (C := Tryd.checked) (X := fun w _ => laidMetH Tryd.prog laid6 w) (fun _ _ _ hh h => h.of_heap hh) own started (by kernel_rfl) Tryd.func3
    (ChangeSpec.witness_shaped (enc := enc) (C := Tryd.checked) (os := os) (X := fun w _ => laidMetH Tryd.prog laid6 w) false (World.doorLaid Tryd.prog 400 os) #[.slice none 0 0, .slice none 0 0] 8 rfl (World.shaped_of_RefB (by kernel_rfl) (by kernel_rfl)) (by kernel_rfl) (by kernel_rfl) (by kernel_rfl) (door_met os _)) ?_
  intro W base args ds gs before hval0 hW _ hsz0 hL _
  have hval : ∀ (j : Nat) t v, Tryd.f3.params[j]? = some t → args[j]? = some v → Value.okWide Tryd.prog W .any base t v := hval0
  have hsz : (DataW.weightsEach Tryd.prog (Tryd.f3.params.toList ++ Rows.lexPartsSpec.plain.varTypes Tryd.prog) (ds ++ gs)).all (· ≤ reachBytes) = true := hsz0
  have hW' := hW
  obtain ⟨p, q, hA0, hV, rfl, hfz, hnd⟩ := hW
  have hA : DataW.TrodAll enc Tryd.prog W 0 (fun _ => true) true Tryd.f3.params.toList args.toList ds p := hA0
  rw [Tryd.params3] at hA hval hsz
  obtain ⟨v0, v1, d0, d1, p0, p1, rfl, rfl, rfl, h0, h1⟩ := trodAll_two hA
  obtain ⟨rfl, rfl⟩ := trodVars_none hV
  obtain ⟨a0, len, cap, rfl⟩ := okWide_slice Tryd.underlying22 (hval 0 22 v0 rfl rfl)
  obtain ⟨a1, len1, cap1, rfl⟩ := okWide_slice Tryd.underlying22 (hval 1 22 v1 rfl rfl)
  have h0k := h0
  have h1k := h1
  obtain ⟨f0, hf0⟩ := h0
  obtain ⟨f1, hf1⟩ := h1
  have hwt : (d0.weights Tryd.prog 22).all (· ≤ reachBytes) = true := List.all_eq_true.2 fun n hn => List.all_eq_true.1 hsz n (DataW.weights_mem_each (j := 0) rfl rfl n hn)
  have hwt1 : (d1.weights Tryd.prog 22).all (· ≤ reachBytes) = true := List.all_eq_true.2 fun n hn => List.all_eq_true.1 hsz n (DataW.weights_mem_each (j := 1) rfl rfl n hn)
  have hgl := gl_of_laid hL
  clear hA0
  simp only [List.append_nil] at hW'
  have hlt : ∀ x ∈ p0 ++ p1, x.block < W.heap.size := fun x hx => by simpa using hW'.lt x hx
  obtain ⟨lf, rfl, hln, hcap, hcm, hpn, hfit⟩ := open_toksW (by simpa [Value.cells] using hf0)
  obtain ⟨mf, rfl, hln1, hcap1, hcm1, hpn1, hfit1⟩ := open_toksW (by simpa [Value.cells] using hf1)
  refine (parts_x a0 cap lf W hcap hcm hpn hln a1 cap1 mf hcap1 hcm1 hpn1 hln1 (fun t ht => by
    rcases List.mem_append.1 ht with h | h
    · exact hfit hwt t h
    · exact hfit1 hwt1 t h) hgl).mono fun e W' ⟨he, hg⟩ => ?_
  subst he
  exact ⟨_, rfl, _, _, _, [], _, [], hW', trodAll_cons_mk (shut_bool Tryd.underlying4 _) trodAll_mk0,
    trodAll_cons_mk (Below.trod laidOut (by kernel_rfl) (of_decide_eq_true (by kernel_rfl)) h0k hg (fun x hx => hlt x (List.mem_append_left _ hx)))
      (trodAll_cons_mk (Below.trod laidOut (by kernel_rfl) (of_decide_eq_true (by kernel_rfl)) h1k hg (fun x hx => hlt x (List.mem_append_right _ hx))) trodAll_mk0), rfl, hg.frame _, fun h => by cases h⟩

theorem proved : Rows.LexPartsSaid :=
  OpenClaim.holds_of_wide 3 Tryd.f3 rfl rfl rfl rfl rfl rfl rfl ⟨rfl, rfl, rfl, rfl, rfl⟩ rfl rfl rfl rfl rfl (by kernel_rfl) Tryd.func3 (by kernel_rfl)
    (of_decide_eq_true (by kernel_rfl)) (by unfold Func.isWrapper; first | (rw [if_pos (by decide +kernel)]; kernel_rfl) | (rw [if_neg (by decide +kernel)]; exact ⟨rfl, rfl⟩))
    (fun os started H enc _ => lifted os started H enc)
end Go.Proofs.YtnpjgamfjfmjjaaDoor.lexParts
namespace Go.Proofs.YtnpjgamfjfmjjaaDoor
open Go
theorem lexParts_holds : Rows.LexPartsCardSaid :=
  Claim7.holds_tied_plain_at .later [] [.data, .data, .data, .sentinel, .sentinel, .data] true (true, "7a7335cba26085f2a835b3ef7762ef3310604cfcccc795381d3032e225e98b0e") true
    lexParts.proved (fun _ h => by cases h) (by kernel_rfl) (fun _ h => by cases h) lexParts_row_tie rfl ⟨rfl, rfl⟩ (by kernel_rfl) rfl
    (fun f fn hf hfn => by
      obtain rfl : f = 3 := Option.some.inj ((show Tryd.prog.funcNamed Tryd.f3.name = some 3 by kernel_rfl).symm.trans hf) |>.symm
      obtain rfl : fn = Tryd.f3 := (Option.some.inj (Tryd.func3.symm.trans hfn)).symm
      exact ⟨by kernel_rfl, fun j t ht => by
        rw [Tryd.params3] at ht
        have hm : t ∈ [22, 22] := by simpa using Array.mem_of_getElem? ht
        have hall : ([22, 22].all fun u => !Tryd.prog.wantsStandIn u) = true := by kernel_rfl
        exact (show Tryd.prog.wantsStandIn t = false by simpa using List.all_eq_true.1 hall t hm)⟩)
    (by kernel_rfl)
end Go.Proofs.YtnpjgamfjfmjjaaDoor
