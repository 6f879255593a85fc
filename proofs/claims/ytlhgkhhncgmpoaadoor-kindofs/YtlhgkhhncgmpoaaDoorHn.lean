/-
  KindNames, for every number.
-/
import Derived.Test.YtlhgkhhncgmpoaaDoorHm
namespace Go.Proofs.YtlhgkhhncgmpoaaDoor
open Go Go.RowKit Go.Shelf
set_option linter.unusedVariables false
set_option linter.unusedSimpArgs false

theorem sizes_none {k : Int} (h : NoK k) : sizM k = 0 := by
  obtain ⟨h1, h2, h3, h4, h5, h6, h7, h8⟩ := h
  simp [sizM, *]
set_option maxRecDepth 100000 in
set_option maxHeartbeats 4000000 in
theorem names_walk (k : Int) (turned : Bool) (w : World) (hmo : Mo w) (hw0 : 0 < w.heap.size) :
    Calls Tryd.prog 4 #[.int .i64 k, .bool turned] w fun e w' => e = .returned (.bool true) ∧ Below w.heap.size w w' := by
  have HN := veil (Name_any k)
  rcases ncases k with rfl | rfl | rfl | rfl | rfl | rfl | rfl | rfl | rfl | hno
  case inl =>
    have HH := veil (kshown_any w)
    have HS := veil (Size_any 0 w)
    rw [show sizM 0 = 0 from rfl] at HS
    rw [show namM 0 = [118, 111, 105, 100] from rfl] at HN
    clear hmo
    go_enter Tryd.func4, Tryd.ntmps4
    go_wp2_with (first
      | (go_at_call 5; refine (unveil HH).mono ?_; rintro e w' ⟨rfl, hw'⟩; obtain rfl := hw'.symm)
      | (go_at_call 8; refine (unveil HN _).mono ?_; rintro e w' ⟨rfl, hw'⟩; obtain rfl := hw'.symm)
      | (go_at_call 9; refine (unveil HS).mono ?_; rintro e w' ⟨rfl, hw'⟩; obtain rfl := hw'.symm))
    go_ret
    exact ⟨rfl, Below.refl _ _⟩
  case inr.inr.inr.inr.inr.inr.inr.inr.inr =>
    have HH := veil (kshown_any w)
    have HS := veil (Size_any k w)
    rw [sizes_none hno.2] at HS
    have hnm : namM k = [] := by
      obtain ⟨h0, h1, h2, h3, h4, h5, h6, h7, h8⟩ := hno
      simp [namM, *]
    rw [hnm] at HN
    clear hmo hnm hno
    go_enter Tryd.func4, Tryd.ntmps4
    go_wp2_with (first
      | (go_at_call 5; refine (unveil HH).mono ?_; rintro e w' ⟨rfl, hw'⟩; obtain rfl := hw'.symm)
      | (go_at_call 8; refine (unveil HN _).mono ?_; rintro e w' ⟨rfl, hw'⟩; obtain rfl := hw'.symm)
      | (go_at_call 9; refine (unveil HS).mono ?_; rintro e w' ⟨rfl, hw'⟩; obtain rfl := hw'.symm))
    go_ret
    exact ⟨rfl, Below.refl _ _⟩
  all_goals (
    first
    | exact names_core _ _ turned w (by decide) (by rw [ByteArray.toList_mk]; rfl) (by decide) (by decide) [_] (fun _ => rfl) (fun h => absurd h (by decide)) (by rfl) HN hmo hw0
    | (cases turned
       · exact names_core _ _ false w (by decide) (by rw [ByteArray.toList_mk]; rfl) (by decide) (by decide) _ (fun h => absurd (by decide) h) (fun _ => rfl) (by rfl) HN hmo hw0
       · exact names_core _ _ true w (by decide) (by rw [ByteArray.toList_mk]; rfl) (by decide) (by decide) _ (fun h => absurd (by decide) h) (fun _ => rfl) (by rfl) HN hmo hw0))
end Go.Proofs.YtlhgkhhncgmpoaaDoor
