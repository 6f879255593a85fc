/-
  The tied card of burinlaw02.TokenAlone: it answers true for every string, with the table of signs as the program's text lays it.
-/
import Derived.Test.YtaoekfokpbebfaaDoorS5
namespace Go.Proofs.YtaoekfokpbebfaaDoor
open Go

theorem tokenAlone_holds : Rows.TokenAloneCardSaid :=
  Claim7.holds_tied_plain_at .later [] [.data] true (true, "7ac3709c47b70a7a4d652a87b3da99fdadf5d361295b455b7056dd6e77c198fd") false
    tokenAlone.proved (fun _ h => by cases h) (by kernel_rfl) (fun _ h => by cases h) tokenAlone_row_tie rfl ⟨rfl, rfl⟩ (by kernel_rfl) rfl
    (fun f fn hf hfn => by
      obtain rfl : f = 10 := Option.some.inj ((show Tryd.prog.funcNamed Tryd.f10.name = some 10 by kernel_rfl).symm.trans hf) |>.symm
      obtain rfl : fn = Tryd.f10 := (Option.some.inj (Tryd.func10.symm.trans hfn)).symm
      exact ⟨by kernel_rfl, fun j t ht => by
        rw [Tryd.params10] at ht
        have hm : t ∈ [9] := by simpa using Array.mem_of_getElem? ht
        have hall : ([9].all fun u => !Tryd.prog.wantsStandIn u) = true := by kernel_rfl
        exact (show Tryd.prog.wantsStandIn t = false by simpa using List.all_eq_true.1 hall t hm)⟩)
    (by kernel_rfl)
end Go.Proofs.YtaoekfokpbebfaaDoor
