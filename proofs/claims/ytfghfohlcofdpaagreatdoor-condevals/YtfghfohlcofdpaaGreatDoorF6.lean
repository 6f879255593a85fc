/-
  burinlaw05.CondEvals answers true for every list of tokens (of texts of at most 2^47 - 4096 bytes, the form's own reach), and leaves it as it was, with the package variables as the program's text lays them.
-/
import Derived.Test.YtfghfohlcofdpaaGreatDoorKa
import Derived.Test.YtfghfohlcofdpaaGreatDoorF0
import Derived.Deep.Slices
namespace Go.Proofs.YtfghfohlcofdpaaGreatDoor
open Go.ChangeShapes Go.WideShapes Go.ChangeAt Go.RowKit
set_option linter.unusedVariables false

theorem laidOut : laidOutB Tryz.prog = true := by kernel_rfl
theorem cells3 : Tryz.prog.cellsOf 3 = 1 := by kernel_rfl
theorem cells4 : Tryz.prog.cellsOf 4 = 1 := by kernel_rfl
theorem cells50 : Tryz.prog.cellsOf 50 = 6 := by kernel_rfl
theorem add_plain (b o j : Nat) : (⟨b, o, none⟩ : Addr).add j = ⟨b, o + j, none⟩ := by unfold Addr.add; split <;> simp_all
theorem weightsAll_mem {H : Type} {P : Program} {e : TypeId} : ∀ {l : List (DataW H)} {d : DataW H}, d ∈ l → ∀ n ∈ d.weights P e, n ∈ DataW.weightsAll P e l
  | x :: r, d, h, n, hn => by
    rw [DataW.weightsAll, List.mem_append]
    rcases List.mem_cons.1 h with rfl | h
    · exact .inl hn
    · exact .inr (weightsAll_mem h n hn)
theorem pick_fun {α β : Type} {r : α → β → Prop} (h : ∀ x, ∃ y, r x y) : ∃ f : α → β, ∀ x, r x (f x) := ⟨fun x => Classical.choose (h x), fun x => Classical.choose_spec (h x)⟩
set_option maxRecDepth 100000 in
/-- One token of the six cells. -/
theorem tok_open {H : Type} {enc : TypeId × Value → H} {W : World} {n : Nat} {cs : List Value} {y : DataW H × List MemPlace}
    (h : DataW.trod enc Tryz.prog W 0 (fun _ => true) true n 50 cs = some y) :
    ∃ t : Gt, cs = [.int .i64 t.kind, .string ⟨t.s.toArray⟩, .string ⟨t.f.toArray⟩, .int .i64 t.line, .bool t.sp, .bool t.fi] ∧ t.s.length ∈ y.1.weights Tryz.prog 50 := by
  obtain ⟨xs, k, _, hxy, hl, hxl, hf⟩ := DataW.trod_struct Tryz.underlying50 h
  rw [cells50] at hl
  match xs, hxl, cs, hl with
  | [y0, y1, y2, y3, y4, y5], _, [v0, v1, v2, v3, v4, v5], _ =>
    have g0 := hf 0 _ rfl
    have g1 := hf 1 _ rfl
    have g2 := hf 2 _ rfl
    have g3 := hf 3 _ rfl
    have g4 := hf 4 _ rfl
    have g5 := hf 5 _ rfl
    simp [cells3, cells9, cells4] at g0 g1 g2 g3 g4 g5
    obtain ⟨a, e0, _, _⟩ := DataW.trod_int Tryz.underlying3 g0
    obtain ⟨s, e1, d1, _⟩ := DataW.trod_string Tryz.underlying9 g1
    obtain ⟨f, e2, _, _⟩ := DataW.trod_string Tryz.underlying9 g2
    obtain ⟨m, e3, _, _⟩ := DataW.trod_int Tryz.underlying3 g3
    obtain ⟨b, e4, _⟩ := DataW.trod_bool Tryz.underlying4 g4
    obtain ⟨c, e5, _⟩ := DataW.trod_bool Tryz.underlying4 g5
    simp only [List.cons.injEq, and_true] at e0 e1 e2 e3 e4 e5
    refine ⟨⟨a, s.data.toList, f.data.toList, m, b, c⟩, by rw [e0, e1, e2, e3, e4, e5], ?_⟩
    have hd1 : y1.1 = .lit (.string s.data.toList) := by simpa using congrArg Prod.fst d1
    rw [hxy]
    simp only [List.map_cons, List.map_nil, DataW.weights, Tryz.underlying50, hd1]
    simp [DataW.weightsEach, DataW.weights]
/-- The argument opened: tokens lie behind the address. -/
theorem open_toksW {H : Type} {enc : TypeId × Value → H} {W : World} {p : Option Addr} {len cap fuel : Nat} {x : DataW H × List MemPlace}
    (h : DataW.trod enc Tryz.prog W 0 (fun _ => true) true fuel 22 [.slice p len cap] = some x) :
    ∃ lf : List Gt, lf.length = len ∧ TkG W.heap.size W (.slice p lf.length cap) lf ∧ len ≤ cap ∧ cap ≤ maxLen ∧ ((x.1.weights Tryz.prog 22).all (· ≤ reachBytes) = true → ∀ t ∈ lf, t.s.length ≤ 140737488355328) := by
  rcases Go.Deep.open_slice Tryz.underlying22 h with ⟨hc, hx⟩ | ⟨a, len', cap', m, k, D, Pl, hc, _, hl, hm, hmm, hx, hall⟩
  · obtain ⟨rfl, rfl, rfl⟩ : p = none ∧ len = 0 ∧ cap = 0 := by simpa using hc
    exact ⟨[], rfl, ⟨none, 0, rfl, fun i hi => by simp at hi⟩, Nat.le_refl _, Nat.zero_le _, fun _ s hs => by cases hs⟩
  · obtain ⟨rfl, rfl, rfl⟩ : p = some a ∧ len = len' ∧ cap = cap' := by simpa using hc
    simp only [if_true] at hmm
    subst hmm
    have key : ∀ i, ∃ t : Gt, i < m → (W.cell? (a.add (i * 6)) = some (.int .i64 t.kind) ∧ W.cell? (a.add (i * 6 + 1)) = some (.string ⟨t.s.toArray⟩) ∧ W.cell? (a.add (i * 6 + 2)) = some (.string ⟨t.f.toArray⟩) ∧
        W.cell? (a.add (i * 6 + 3)) = some (.int .i64 t.line) ∧ W.cell? (a.add (i * 6 + 4)) = some (.bool t.sp) ∧ W.cell? (a.add (i * 6 + 5)) = some (.bool t.fi)) ∧ t.s.length ∈ (D i).weights Tryz.prog 50 := fun i => by
      by_cases hi : i < m
      · obtain ⟨cs', h1, h2⟩ := hall i hi
        rw [cells50] at h1
        obtain ⟨_, hlen, hcell⟩ := World.cells?_some h1
        obtain ⟨t, rfl, hb⟩ := tok_open h2
        refine ⟨t, fun _ => ⟨?_, hb⟩⟩
        have c : ∀ j, j < 6 → W.cell? (a.add (i * 6 + j)) = [Value.int .i64 t.kind, .string ⟨t.s.toArray⟩, .string ⟨t.f.toArray⟩, .int .i64 t.line, .bool t.sp, .bool t.fi][j]? := fun j hj => by
          have := hcell j hj
          rw [Go.Deep.add_add] at this
          exact this
        exact ⟨c 0 (by decide), c 1 (by decide), c 2 (by decide), c 3 (by decide), c 4 (by decide), c 5 (by decide)⟩
      · exact ⟨⟨0, [], [], 0, false, false⟩, fun h => absurd h hi⟩
    obtain ⟨G, hG⟩ := pick_fun key
    refine ⟨(List.range len).map G, by simp, ⟨some a, m, by simp, fun i hi => ?_⟩, hl, hm, fun hw s hs => ?_⟩
    · have hi' : i < len := by simpa using hi
      obtain ⟨⟨c0, c1, c2, c3, c4, c5⟩, _⟩ := hG i (by omega)
      obtain ⟨b, off, spot⟩ := a
      have c00 := (hG 0 (by omega)).1.1
      have hspot : spot = none := by simpa [Addr.add] using World.cell?_spot c00
      subst hspot
      rw [add_plain] at c0 c1 c2 c3 c4 c5
      simp only [← Nat.add_assoc] at c1 c2 c3 c4 c5
      simp only [List.getElem_map, List.getElem_range]
      exact ⟨b, off, rfl, World.block_lt_of_cell? W _ c0, c0, c1, c2, c3, c4, c5⟩
    · rw [hx] at hw
      simp only [DataW.weights, Tryz.underlying22, List.all_cons, Bool.and_eq_true, decide_eq_true_eq, List.all_append] at hw
      obtain ⟨h1, h2, _⟩ := hw
      obtain ⟨i, hi, rfl⟩ := List.mem_map.1 hs
      have hi' := List.mem_range.1 hi
      obtain ⟨_, hd⟩ := hG i (by omega)
      have := List.all_eq_true.1 h2 (G i).s.length (weightsAll_mem (d := D i) (List.mem_map.2 ⟨i, hi, rfl⟩) _ hd)
      have h3 := of_decide_eq_true this
      rw [reachBytes] at h3
      omega
end Go.Proofs.YtfghfohlcofdpaaGreatDoor
namespace Go.Proofs.YtfghfohlcofdpaaGreatDoor.condEvals
open Go.ChangeShapes Go.WideShapes Go.ChangeAt Go.RowKit
set_option linter.unusedVariables false

set_option maxRecDepth 100000 in
theorem lifted (os : Os) (started : os.Started) (H : Type) (enc : TypeId × Value → H) :
    ReturnsInHanded {} Tryz.checked os 3 .any (fun w args => (Rows.condEvalsSpec.pre enc Tryz.prog Tryz.f3 [] false w args ∧ laidMetH Tryz.prog laid6 w) ∧ sizedMet enc Tryz.prog Tryz.f3 (OpenSpec.ofChange Rows.condEvalsSpec) false w args)
      (Rows.condEvalsSpec.post enc Tryz.prog Tryz.f3 false true false false) := by
  refine returnsInHanded_of_change_and (C := Tryz.checked) (X := fun w _ => laidMetH Tryz.prog laid6 w) (fun _ _ _ hh h => h.of_heap hh) own started (by kernel_rfl) Tryz.func3
    (ChangeSpec.witness_shaped (enc := enc) (C := Tryz.checked) (os := os) (X := fun w _ => laidMetH Tryz.prog laid6 w) false (World.doorLaid Tryz.prog 400 os) #[.slice none 0 0] 8 rfl (World.shaped_of_RefB (by kernel_rfl) (by kernel_rfl)) (by kernel_rfl) (by kernel_rfl) (by kernel_rfl) (door_met os _)) ?_
  intro W base args ds gs before hval0 hW _ hsz0 hL _
  have hval : ∀ (j : Nat) t v, Tryz.f3.params[j]? = some t → args[j]? = some v → Value.okWide Tryz.prog W .any base t v := hval0
  have hsz : (DataW.weightsEach Tryz.prog (Tryz.f3.params.toList ++ Rows.condEvalsSpec.plain.varTypes Tryz.prog) (ds ++ gs)).all (· ≤ reachBytes) = true := hsz0
  have hW' := hW
  obtain ⟨p, q, hA0, hV, rfl, hfz, hnd⟩ := hW
  have hA : DataW.TrodAll enc Tryz.prog W 0 (fun _ => true) true Tryz.f3.params.toList args.toList ds p := hA0
  rw [Tryz.params3] at hA hval hsz
  obtain ⟨v0, d0, rfl, rfl, h0⟩ := trodAll_one hA
  obtain ⟨rfl, rfl⟩ := trodVars_none hV
  obtain ⟨a0, len, cap, rfl⟩ := okWide_slice Tryz.underlying22 (hval 0 22 v0 rfl rfl)
  have h0k := h0
  obtain ⟨fuel, hf⟩ := h0
  have hwt : (d0.weights Tryz.prog 22).all (· ≤ reachBytes) = true := List.all_eq_true.2 fun n hn => List.all_eq_true.1 hsz n (DataW.weights_mem_each (j := 0) rfl rfl n hn)
  have hgl := gl_of_laid hL
  clear hA0
  simp only [List.append_nil] at hW'
  have hlt : ∀ x ∈ p, x.block < W.heap.size := fun x hx => by simpa using hW'.lt x hx
  obtain ⟨lf, rfl, hln, hcap, hcm, hfit⟩ := open_toksW (by simpa [Value.cells] using hf)
  refine (evals_walk a0 cap lf W hcap hcm (hfit hwt) hln hgl).mono fun e W' ⟨he, hg⟩ => ?_
  subst he
  exact ⟨_, rfl, _, _, _, [], _, [], hW', trodAll_cons_mk (shut_bool Tryz.underlying4 _) trodAll_mk0, trodAll_cons_mk (Below.trod laidOut (by kernel_rfl) (of_decide_eq_true (by kernel_rfl)) h0k hg hlt) trodAll_mk0, rfl, hg.frame _, fun h => by cases h⟩

theorem proved : Rows.CondEvalsSaid :=
  OpenClaim.holds_of_wide 3 Tryz.f3 rfl rfl rfl rfl rfl rfl rfl ⟨rfl, rfl, rfl, rfl, rfl⟩ rfl rfl rfl rfl rfl (by kernel_rfl) Tryz.func3 (by kernel_rfl)
    (of_decide_eq_true (by kernel_rfl)) (by unfold Func.isWrapper; first | (rw [if_pos (by decide +kernel)]; kernel_rfl) | (rw [if_neg (by decide +kernel)]; exact ⟨rfl, rfl⟩))
    (fun os started H enc _ => lifted os started H enc)
end Go.Proofs.YtfghfohlcofdpaaGreatDoor.condEvals
namespace Go.Proofs.YtfghfohlcofdpaaGreatDoor
open Go
theorem condEvals_holds : Rows.CondEvalsCardSaid :=
  Claim7.holds_tied_plain_at .later [] [.data, .data, .data, .sentinel, .sentinel, .data] true (true, "1aa21576bffd33f2be0dc17b12147f8cd03b224d2505b7bc02a62be8769b6c50") true
    condEvals.proved (fun _ h => by cases h) (by kernel_rfl) (fun _ h => by cases h) condEvals_row_tie rfl ⟨rfl, rfl⟩ (by kernel_rfl) rfl
    (fun f fn hf hfn => by
      obtain rfl : f = 3 := Option.some.inj ((show Tryz.prog.funcNamed Tryz.f3.name = some 3 by kernel_rfl).symm.trans hf) |>.symm
      obtain rfl : fn = Tryz.f3 := (Option.some.inj (Tryz.func3.symm.trans hfn)).symm
      exact ⟨by kernel_rfl, fun j t ht => by
        rw [Tryz.params3] at ht
        have hm : t ∈ [22] := by simpa using Array.mem_of_getElem? ht
        have hall : ([22].all fun u => !Tryz.prog.wantsStandIn u) = true := by kernel_rfl
        exact (show Tryz.prog.wantsStandIn t = false by simpa using List.all_eq_true.1 hall t hm)⟩)
    (by kernel_rfl)
end Go.Proofs.YtfghfohlcofdpaaGreatDoor
