/-
  burinlaw03.MacroNone answers true for every string: the walk.
-/
import Derived.Test.YticiddcgafhkhaaDoorV8
import Derived.Test.YticiddcgafhkhaaDoorUd
namespace Go.Proofs.YticiddcgafhkhaaDoor
open Go Go.RowKit
set_option linter.unusedVariables false
set_option linter.unusedSimpArgs false

set_option maxRecDepth 100000 in
set_option maxHeartbeats 8000000 in
theorem none_walk (s : ByteArray) (w : World) (hw0 : 1 < w.heap.size) (hsg : Sg w) :
    Calls Tryd.prog 8 #[.string s] w fun e w' => e = .returned (.bool true) ∧ Below w.heap.size w w' := by
  have HSH := hide (shown_any w hw0 hsg)
  have HG := hide (fun W => Get_nil s W)
  simp only [zero_agg] at HG
  go_enter Tryd.func8, Tryd.ntmps8
  go_wp2_with fail
  refine (unhide HSH).mono ?_
  rintro e W1 ⟨rfl, hb1⟩
  go_wp2_with fail
  refine (unhide HG _).mono ?_
  rintro e W2 ⟨rfl, hb2⟩
  have hb3 := (hb1.trans (hb2.mono hb1.size)).alloc (Nat.le_trans hb1.size hb2.size) (.cells #[.string ⟨#[]⟩, .bool false, .slice none 0 0, .bool false, .slice none 0 0] 25)
  have HB3 := hide hb3
  clear HSH hb1 hb2 hb3
  go_wp2_with fail
  refine (Define_nil _ _ _ _ _ _).mono ?_
  rintro e W4 ⟨rfl, hb4⟩
  have HB4 := hide ((unhide HB3).trans (hb4.mono (unhide HB3).size))
  clear HB3 hb4
  go_wp2_with (first | (go_at_call 25; refine (Undef_nil _ _).mono ?_; rintro e w' ⟨rfl, hw'⟩; obtain rfl := hw'.symm) | (go_at_call 26; refine (Names_nil _).mono ?_; rintro e w' ⟨rfl, hw'⟩; obtain rfl := hw'.symm))
  go_ret
  exact ⟨rfl, unhide HB4⟩
end Go.Proofs.YticiddcgafhkhaaDoor
