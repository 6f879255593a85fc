/-
  Arguments opened: a script of calls that is handed in.
  burinlaw03.MacroTable answers true for every script of bulk at most 1048576 (the second form), and leaves it as it was, with the table of signs as the program's text lays it.
-/
import Derived.Test.YticiddcgafhkhaaGreatDoorBj
import Derived.Test.YticiddcgafhkhaaGreatDoorY1
import Derived.Test.YticiddcgafhkhaaGreatDoorBc
import Derived.Deep.DeepHandedRow
namespace Go.Proofs.YticiddcgafhkhaaGreatDoor
open Go.ChangeShapes Go.WideShapes Go.ChangeAt Go.RowKit
set_option linter.unusedVariables false

theorem cells35 : Tryz.prog.cellsOf 35 = 7 := by kernel_rfl
theorem cells33 : Tryz.prog.cellsOf 33 = 5 := by kernel_rfl
set_option maxRecDepth 100000 in
/-- One call of the seven cells. -/
theorem op_open {H : Type} {enc : TypeId × Value → H} {W : World} {n : Nat} {cs : List Value} {y : DataW H × List MemPlace}
    (h : DataW.trod enc Tryz.prog W 0 (fun _ => true) true n 35 cs = some y) :
    ∃ t : Oq, cs = [.int .i64 t.kind, .string ⟨t.s.toArray⟩, .string ⟨t.x.m.name.toArray⟩, .bool t.x.m.fn, t.x.pv, .bool t.x.m.more, t.x.bv] ∧ McV W.heap.size W t.x.v t.x.m ∧ t.s.length + (t.x.m.name.length + sBulk t.x.m.ps + gBulk t.x.m.body) ≤ Rows.uptoBulk y.1 := by
  obtain ⟨xs, k, _, hxy, hl, hxl, hf⟩ := DataW.trod_struct Tryz.underlying35 h
  rw [cells35] at hl
  match xs, hxl, cs, hl with
  | [y0, y1, y2], _, [v0, v1, v2, v3, v4, v5, v6], _ =>
    have g0 := hf 0 _ rfl
    have g1 := hf 1 _ rfl
    have g2 := hf 2 _ rfl
    simp [cells3, cells9, cells33] at g0 g1 g2
    obtain ⟨a, e0, _, _⟩ := DataW.trod_int Tryz.underlying3 g0
    obtain ⟨s, e1, d1, _⟩ := DataW.trod_string Tryz.underlying9 g1
    obtain ⟨m, hm, hb⟩ := open_macro g2
    have hm' := hm
    obtain ⟨pv, bv, e2, _⟩ := hm'
    simp only [List.cons.injEq, and_true] at e0 e1
    have e3 : [v2, v3, v4, v5, v6] = [.string ⟨m.name.toArray⟩, .bool m.fn, pv, .bool m.more, bv] := by simpa using e2
    simp only [List.cons.injEq, and_true] at e3
    obtain ⟨f2, f3, f4, f5, f6⟩ := e3
    subst f2 f3 f4 f5 f6
    refine ⟨⟨a, s.data.toList, ⟨m, v4, v6⟩⟩, by rw [e0, e1], by simpa [Me.v] using hm, ?_⟩
    have hd1 : y1.1 = .lit (.string s.data.toList) := by simpa using congrArg Prod.fst d1
    rw [hxy]
    simp only [List.map_cons, List.map_nil, Rows.uptoBulk, Rows.uptoBulkAll, hd1]
    omega
theorem bulk_mem {H : Type} : ∀ {l : List (DataW H)} {d : DataW H}, d ∈ l → Rows.uptoBulk d ≤ Rows.uptoBulkAll l
  | x :: r, d, h => by
    simp only [Rows.uptoBulkAll]
    rcases List.mem_cons.1 h with rfl | h
    · omega
    · have := bulk_mem h; omega
/-- The argument opened: the script lies behind the address. -/
theorem open_ops {H : Type} {enc : TypeId × Value → H} {W : World} {p : Option Addr} {len cap fuel : Nat} {x : DataW H × List MemPlace}
    (h : DataW.trod enc Tryz.prog W 0 (fun _ => true) true fuel 22 [.slice p len cap] = some x) :
    ∃ lf : List Oq, lf.length = len ∧ OpG W.heap.size W p lf ∧ len ≤ cap ∧ cap ≤ maxLen ∧ ∀ q ∈ lf, q.s.length + (q.x.m.name.length + sBulk q.x.m.ps + gBulk q.x.m.body) ≤ Rows.uptoBulk x.1 := by
  rcases Go.Deep.open_slice Tryz.underlying22 h with ⟨hc, hx⟩ | ⟨a, len', cap', m, k, D, Pl, hc, _, hl, hm, hmm, hx, hall⟩
  · obtain ⟨rfl, rfl, rfl⟩ : p = none ∧ len = 0 ∧ cap = 0 := by simpa using hc
    exact ⟨[], rfl, ⟨fun i hi => by simp at hi, fun q hq => by cases hq⟩, Nat.le_refl _, Nat.zero_le _, fun q hq => by cases hq⟩
  · obtain ⟨rfl, rfl, rfl⟩ : p = some a ∧ len = len' ∧ cap = cap' := by simpa using hc
    simp only [if_true] at hmm
    subst hmm
    have key : ∀ i, ∃ t : Oq, i < m → (∀ j, j < 7 → W.cell? (a.add (i * 7 + j)) = [Value.int .i64 t.kind, .string ⟨t.s.toArray⟩, .string ⟨t.x.m.name.toArray⟩, .bool t.x.m.fn, t.x.pv, .bool t.x.m.more, t.x.bv][j]?) ∧ McV W.heap.size W t.x.v t.x.m ∧ t.s.length + (t.x.m.name.length + sBulk t.x.m.ps + gBulk t.x.m.body) ≤ Rows.uptoBulk (D i) := fun i => by
      by_cases hi : i < m
      · obtain ⟨cs', h1, h2⟩ := hall i hi
        rw [cells35] at h1
        obtain ⟨_, hlen, hcell⟩ := World.cells?_some h1
        obtain ⟨t, rfl, ht, hb⟩ := op_open h2
        refine ⟨t, fun _ => ⟨fun j hj => ?_, ht, hb⟩⟩
        have := hcell j hj
        rw [Go.Deep.add_add] at this
        exact this
      · exact ⟨⟨0, [], zE⟩, fun h => absurd h hi⟩
    obtain ⟨G, hG⟩ := pick_fun key
    refine ⟨(List.range len).map G, by simp, ⟨fun i hi => ?_, fun q hq => ?_⟩, hl, hm, fun q hq => ?_⟩
    · have hi' : i < len := by simpa using hi
      obtain ⟨hc, _⟩ := hG i (by omega)
      obtain ⟨b, off, spot⟩ := a
      have c00 := (hG 0 (by omega)).1 0 (by decide)
      have hspot : spot = none := by
        have : W.cell? (Addr.add ⟨b, off, spot⟩ 0) = some (.int .i64 (G 0).kind) := by simpa using c00
        simpa [Addr.add] using World.cell?_spot this
      subst hspot
      simp only [List.getElem_map, List.getElem_range]
      have c := fun j hj => (add_plain b off (i * 7 + j)) ▸ hc j hj
      have e : ∀ j, off + (i * 7 + j) = off + i * 7 + j := fun j => by omega
      refine ⟨b, off, rfl, ?_, ?_, ?_, ?_, ?_, ?_, ?_, ?_⟩
      · have := c 0 (by decide); exact World.block_lt_of_cell? W _ (by simpa using this)
      · have := c 0 (by decide); simpa [e] using this
      · have := c 1 (by decide); rw [e] at this; simpa using this
      · have := c 2 (by decide); rw [e] at this; simpa using this
      · have := c 3 (by decide); rw [e] at this; simpa [Nat.add_assoc] using this
      · have := c 4 (by decide); rw [e] at this; simpa [Nat.add_assoc] using this
      · have := c 5 (by decide); rw [e] at this; simpa [Nat.add_assoc] using this
      · have := c 6 (by decide); rw [e] at this; simpa [Nat.add_assoc] using this
    · obtain ⟨i, hi, rfl⟩ := List.mem_map.1 hq
      have hi' := List.mem_range.1 hi
      exact (hG i (by omega)).2.1
    · obtain ⟨i, hi, rfl⟩ := List.mem_map.1 hq
      have hi' := List.mem_range.1 hi
      have h1 := (hG i (by omega)).2.2
      rw [hx]
      simp only [Rows.uptoBulk]
      have h2 : Rows.uptoBulk (D i) ≤ Rows.uptoBulkAll ((List.range len).map D) := bulk_mem (List.mem_map.2 ⟨i, hi, rfl⟩)
      omega
end Go.Proofs.YticiddcgafhkhaaGreatDoor
namespace Go.Proofs.YticiddcgafhkhaaGreatDoor.macroTable
open Go.ChangeShapes Go.WideShapes Go.ChangeAt Go.RowKit
set_option linter.unusedVariables false

set_option maxRecDepth 100000 in
theorem contract (H : Type) (enc : TypeId × Value → H) (W : World) (base : Nat) (args : Array Value) (ds gs : List (DataW H)) (before : List MemPlace)
    (hval : ∀ (j : Nat) t v, Tryz.f3.params[j]? = some t → args[j]? = some v → Value.okWide Tryz.prog W .any base t v)
    (hW : DataW.Whole enc Tryz.prog Tryz.f3.params.toList Rows.macroTableSpec.vars false W args.toList ds gs before) (hL : laidMetH Tryz.prog [("burin/token.signs", Rows.laid_burin_token_signs)] W) (hk : Rows.uptoSmall H (ds ++ gs) = true) :
    Calls Tryz.prog 3 args W fun e W' => ∃ v, e = .returned v ∧ Rows.macroTableSpec.post enc Tryz.prog Tryz.f3 false true false false W args v W' := by
  have hW' := hW
  obtain ⟨p, q, hA0, hV, rfl, hfz, hnd⟩ := hW
  have hA : DataW.TrodAll enc Tryz.prog W 0 (fun _ => true) true Tryz.f3.params.toList args.toList ds p := hA0
  rw [Tryz.params3] at hA hval
  obtain ⟨v0, d0, rfl, rfl, h0⟩ := trodAll_one hA
  obtain ⟨rfl, rfl⟩ := trodVars_none hV
  obtain ⟨a0, len, cap, rfl⟩ := okWide_slice Tryz.underlying22 (hval 0 22 v0 rfl rfl)
  have h0k := h0
  obtain ⟨fuel, hf⟩ := h0
  obtain ⟨hsg, hw0⟩ := sg_of_laid hL
  clear hA0
  simp only [List.append_nil] at hW' hk
  have hlt : ∀ x ∈ p, x.block < W.heap.size := fun x hx => by simpa using hW'.lt x hx
  obtain ⟨lf, rfl, hln, hcap, hcm, hbk⟩ := open_ops (by simpa [Value.cells] using hf)
  have hsm : Rows.uptoBulkAll [d0] ≤ 1048576 := of_decide_eq_true hk
  simp only [Rows.uptoBulkAll] at hsm hbk
  have hlen : lf.length ≤ 9223372036854775807 := Nat.le_trans hcap hcm
  refine (table_walk a0 cap lf W hlen hln (fun q hq => ?_) hw0 hsg).mono fun e W' ⟨he, hg⟩ => ?_
  · have := hbk q hq
    exact ⟨by omega, fits_bulk (by omega)⟩
  · subst he
    exact ⟨_, rfl, _, _, _, [], _, [], hW', trodAll_cons_mk (shut_bool Tryz.underlying4 _) trodAll_mk0,
      trodAll_cons_mk (Below.trod laidOut (by kernel_rfl) (of_decide_eq_true (by kernel_rfl)) h0k hg hlt) trodAll_mk0, rfl, hg.frame _, fun h => by cases h⟩

theorem reads (os : Os) {H : Type} (enc : TypeId × Value → H) : ∃ places, DataW.whole enc Tryz.prog ((World.doorLaid Tryz.prog 400 os).forCall (fun _ _ => 0) ⟨#[], #[.slice none 0 0], []⟩).memory Tryz.f3.params.toList Rows.macroTableSpec.vars false #[Value.slice none 0 0].toList 8 = some ([.nil], [], places) :=
  ⟨[], by kernel_rfl⟩
theorem laid_met (os : Os) : laidMet Tryz.prog Rows.macroTableUptoRow.laid ((World.doorLaid Tryz.prog 400 os).forCall (fun _ _ => 0) ⟨#[], #[.slice none 0 0], []⟩).memory :=
  laidMet_of_run' 8 (by kernel_rfl) (by kernel_rfl)

set_option maxRecDepth 100000 in
theorem liftedUpto (os : Os) (started : os.Started) (H : Type) (enc : TypeId × Value → H) (F : Stop.Interp) :
    ReturnsInHanded {} Tryz.checked os 3 .any ((Rows.OpenSpec.upto Rows.macroTableSpec).preRow enc Tryz.prog Tryz.f3 Rows.macroTableUptoRow.domain false Rows.macroTableUptoRow.laid) (((Rows.OpenSpec.upto Rows.macroTableSpec).at F).post enc Tryz.prog Tryz.f3 false true false false) := by
  obtain ⟨places, hx⟩ := reads os enc
  refine returnsInHanded_of_row (C := Tryz.checked) (s := Rows.OpenSpec.upto Rows.macroTableSpec) own started (by kernel_rfl) Tryz.func3
    (witness_row_at (enc := enc) (C := Tryz.checked) false (World.doorLaid Tryz.prog 400 os) #[.slice none 0 0] rfl (by kernel_rfl) (by kernel_rfl) (by kernel_rfl)
      (OpenSpec.preRow_of_cond 8 hx (by kernel_rfl) (fun k hk => by cases hk; kernel_rfl) (by kernel_rfl) (laid_met os))) ?_
  intro W base args ds gs before hval hW _ hcond _ hL _ _
  exact contract H enc W base args ds gs before hval hW hL (hcond _ rfl)

theorem proved : Rows.MacroTableUptoSaid :=
  OpenClaim.holds_of_cond 3 Tryz.f3 rfl rfl rfl rfl rfl rfl rfl ⟨rfl, rfl, rfl, rfl, rfl⟩ rfl rfl rfl rfl rfl (by kernel_rfl) Tryz.func3 (by kernel_rfl)
    (of_decide_eq_true (by kernel_rfl)) (by unfold Func.isWrapper; first | (rw [if_pos (by decide +kernel)]; kernel_rfl) | (rw [if_neg (by decide +kernel)]; exact ⟨rfl, rfl⟩))
    (fun os started H enc _ F => by rw [OpenClaim.pre_eq_preRow]; exact liftedUpto os started H enc F)
end Go.Proofs.YticiddcgafhkhaaGreatDoor.macroTable
namespace Go.Proofs.YticiddcgafhkhaaGreatDoor
open Go
theorem macroTableUpto_holds : Rows.MacroTableUptoCardSaid :=
  Claim7.holds_tied_plain_at .later [] [.data] true (true, "0c99cd26724e701987bd44f05fb58ab69eeaf89288b37d490b972a129a462892") false
    macroTable.proved (fun _ h => by cases h) (by kernel_rfl) (fun _ h => by cases h) macroTableUpto_row_tie rfl ⟨rfl, rfl⟩ (by kernel_rfl) rfl
    (fun f fn hf hfn => by
      obtain rfl : f = 3 := Option.some.inj ((show Tryz.prog.funcNamed Tryz.f3.name = some 3 by kernel_rfl).symm.trans hf) |>.symm
      obtain rfl : fn = Tryz.f3 := (Option.some.inj (Tryz.func3.symm.trans hfn)).symm
      exact ⟨by kernel_rfl, fun j t ht => by
        rw [Tryz.params3] at ht
        have hm : t ∈ [22] := by simpa using Array.mem_of_getElem? ht
        have hall : ([22].all fun u => !Tryz.prog.wantsStandIn u) = true := by kernel_rfl
        exact (show Tryz.prog.wantsStandIn t = false by simpa using List.all_eq_true.1 hall t hm)⟩)
    (by kernel_rfl)
end Go.Proofs.YticiddcgafhkhaaGreatDoor
