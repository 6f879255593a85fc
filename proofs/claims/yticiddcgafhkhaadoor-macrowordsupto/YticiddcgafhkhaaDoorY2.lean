/-
  burinlaw03.MacroWords answers true for every two macros of bulk at most 1048576 (the second form), and leaves them as they were, with the table of signs as the program's text lays it.
-/
import Derived.Test.YticiddcgafhkhaaDoorX6
import Derived.Test.YticiddcgafhkhaaDoorY1
import Derived.Deep.DeepHandedRow
namespace Go.Proofs.YticiddcgafhkhaaDoor.macroWords
open Go.ChangeShapes Go.WideShapes Go.ChangeAt Go.RowKit
set_option linter.unusedVariables false

set_option maxRecDepth 100000 in
theorem contract (H : Type) (enc : TypeId × Value → H) (W : World) (base : Nat) (args : Array Value) (ds gs : List (DataW H)) (before : List MemPlace)
    (hval : ∀ (j : Nat) t v, Tryd.f3.params[j]? = some t → args[j]? = some v → Value.okWide Tryd.prog W .any base t v)
    (hW : DataW.Whole enc Tryd.prog Tryd.f3.params.toList Rows.macroWordsSpec.vars false W args.toList ds gs before) (hL : laidMetH Tryd.prog [("burin/token.signs", Rows.laid_burin_token_signs)] W) (hk : Rows.uptoSmall H (ds ++ gs) = true) :
    Calls Tryd.prog 3 args W fun e W' => ∃ v, e = .returned v ∧ Rows.macroWordsSpec.post enc Tryd.prog Tryd.f3 false true false false W args v W' := by
  have hW' := hW
  obtain ⟨p, q, hA0, hV, rfl, hfz, hnd⟩ := hW
  have hA : DataW.TrodAll enc Tryd.prog W 0 (fun _ => true) true Tryd.f3.params.toList args.toList ds p := hA0
  rw [Tryd.params3] at hA hval
  obtain ⟨v0, v1, d0, d1, p0, p1, rfl, rfl, rfl, h0, h1⟩ := trodAll_two hA
  obtain ⟨rfl, rfl⟩ := trodVars_none hV
  obtain ⟨cs0, rfl, _⟩ := okWide_struct Tryd.underlying25 (hval 0 25 v0 rfl rfl)
  obtain ⟨cs1, rfl, _⟩ := okWide_struct Tryd.underlying25 (hval 1 25 v1 rfl rfl)
  have h0k := h0
  have h1k := h1
  obtain ⟨f0, hf0⟩ := h0
  obtain ⟨f1, hf1⟩ := h1
  obtain ⟨hsg, hw0⟩ := sg_of_laid hL
  clear hA0
  simp only [List.append_nil] at hW' hk
  have hlt : ∀ x ∈ p0 ++ p1, x.block < W.heap.size := fun x hx => by simpa using hW'.lt x hx
  obtain ⟨a, ha, hab⟩ := open_macro (by simpa [Value.cells] using hf0)
  obtain ⟨b, hb, hbb⟩ := open_macro (by simpa [Value.cells] using hf1)
  have hsm : Rows.uptoBulkAll [d0, d1] ≤ 1048576 := of_decide_eq_true hk
  simp only [Rows.uptoBulkAll] at hsm hab hbb
  have hA1 : a.name.length + sBulk a.ps + gBulk a.body ≤ 1048576 := by omega
  have hB1 : b.name.length + sBulk b.ps + gBulk b.body ≤ 1048576 := by omega
  obtain ⟨hz, hpl⟩ := show_bulk hA1
  refine (words_walk _ _ a b W (fits_bulk hA1) (fits_bulk hB1) (by simpa using ha) (by simpa using hb) hw0 hsg hz hpl).mono fun e W' ⟨he, hg⟩ => ?_
  subst he
  exact ⟨_, rfl, _, _, _, [], _, [], hW', trodAll_cons_mk (shut_bool Tryd.underlying4 _) trodAll_mk0,
    trodAll_cons_mk (Below.trod laidOut (by kernel_rfl) (of_decide_eq_true (by kernel_rfl)) h0k hg (fun x hx => hlt x (List.mem_append_left _ hx)))
      (trodAll_cons_mk (Below.trod laidOut (by kernel_rfl) (of_decide_eq_true (by kernel_rfl)) h1k hg (fun x hx => hlt x (List.mem_append_right _ hx))) trodAll_mk0), rfl, hg.frame _, fun h => by cases h⟩

def z25 : Value := .agg #[.string ⟨#[]⟩, .bool false, .slice none 0 0, .bool false, .slice none 0 0]
theorem reads (os : Os) {H : Type} (enc : TypeId × Value → H) : ∃ d places, DataW.whole enc Tryd.prog ((World.doorLaid Tryd.prog 400 os).forCall (fun _ _ => 0) ⟨#[], #[z25, z25], []⟩).memory Tryd.f3.params.toList Rows.macroWordsSpec.vars false #[z25, z25].toList 8 = some ([d, d], [], places) :=
  ⟨.agg [.lit (.string []), .lit (.bool false), .nil, .lit (.bool false), .nil], [], by kernel_rfl⟩
theorem laid_met (os : Os) : laidMet Tryd.prog Rows.macroWordsUptoRow.laid ((World.doorLaid Tryd.prog 400 os).forCall (fun _ _ => 0) ⟨#[], #[z25, z25], []⟩).memory :=
  laidMet_of_run' 8 (by kernel_rfl) (by kernel_rfl)

set_option maxRecDepth 100000 in
theorem liftedUpto (os : Os) (started : os.Started) (H : Type) (enc : TypeId × Value → H) (F : Stop.Interp) :
    ReturnsInHanded {} Tryd.checked os 3 .any ((Rows.OpenSpec.upto Rows.macroWordsSpec).preRow enc Tryd.prog Tryd.f3 Rows.macroWordsUptoRow.domain false Rows.macroWordsUptoRow.laid) (((Rows.OpenSpec.upto Rows.macroWordsSpec).at F).post enc Tryd.prog Tryd.f3 false true false false) := by
  have hx : DataW.whole enc Tryd.prog ((World.doorLaid Tryd.prog 400 os).forCall (fun _ _ => 0) ⟨#[], #[z25, z25], []⟩).memory Tryd.f3.params.toList Rows.macroWordsSpec.vars false #[z25, z25].toList 8 = some ([.agg [.lit (.string []), .lit (.bool false), .nil, .lit (.bool false), .nil], .agg [.lit (.string []), .lit (.bool false), .nil, .lit (.bool false), .nil]], [], []) := by kernel_rfl
  refine returnsInHanded_of_row (C := Tryd.checked) (s := Rows.OpenSpec.upto Rows.macroWordsSpec) own started (by kernel_rfl) Tryd.func3
    (witness_row_at (enc := enc) (C := Tryd.checked) false (World.doorLaid Tryd.prog 400 os) #[z25, z25] rfl (by kernel_rfl) (by kernel_rfl) (by kernel_rfl)
      (OpenSpec.preRow_of_cond 8 hx (by kernel_rfl) (fun k hk => by cases hk; kernel_rfl) (by kernel_rfl) (laid_met os))) ?_
  intro W base args ds gs before hval hW _ hcond _ hL _ _
  exact contract H enc W base args ds gs before hval hW hL (hcond _ rfl)

theorem proved : Rows.MacroWordsUptoSaid :=
  OpenClaim.holds_of_cond 3 Tryd.f3 rfl rfl rfl rfl rfl rfl rfl ⟨rfl, rfl, rfl, rfl, rfl⟩ rfl rfl rfl rfl rfl (by kernel_rfl) Tryd.func3 (by kernel_rfl)
    (of_decide_eq_true (by kernel_rfl)) (by unfold Func.isWrapper; first | (rw [if_pos (by decide +kernel)]; kernel_rfl) | (rw [if_neg (by decide +kernel)]; exact ⟨rfl, rfl⟩))
    (fun os started H enc _ F => by rw [OpenClaim.pre_eq_preRow]; exact liftedUpto os started H enc F)
end Go.Proofs.YticiddcgafhkhaaDoor.macroWords
namespace Go.Proofs.YticiddcgafhkhaaDoor
open Go
theorem macroWordsUpto_holds : Rows.MacroWordsUptoCardSaid :=
  Claim7.holds_tied_plain_at .later [] [.data] true (true, "d340b3e5042f709aef32bf6bc63a2b3fef3c0fb038fd6aa076cc1e1867b3492e") false
    macroWords.proved (fun _ h => by cases h) (by kernel_rfl) (fun _ h => by cases h) macroWordsUpto_row_tie rfl ⟨rfl, rfl⟩ (by kernel_rfl) rfl
    (fun f fn hf hfn => by
      obtain rfl : f = 3 := Option.some.inj ((show Tryd.prog.funcNamed Tryd.f3.name = some 3 by kernel_rfl).symm.trans hf) |>.symm
      obtain rfl : fn = Tryd.f3 := (Option.some.inj (Tryd.func3.symm.trans hfn)).symm
      exact ⟨by kernel_rfl, fun j t ht => by
        rw [Tryd.params3] at ht
        have hm : t ∈ [25, 25] := by simpa using Array.mem_of_getElem? ht
        have hall : ([25, 25].all fun u => !Tryd.prog.wantsStandIn u) = true := by kernel_rfl
        exact (show Tryd.prog.wantsStandIn t = false by simpa using List.all_eq_true.1 hall t hm)⟩)
    (by kernel_rfl)
end Go.Proofs.YticiddcgafhkhaaDoor
