/-
  burinlaw02.TokenAlone answers true for every string (of at most 2^47 - 4096 bytes, the form's own reach), with the table of signs as the program's text lays it.
-/
import Derived.Test.YtaoekfokpbebfaaDoorS4
import Derived.Test.YtaoekfokpbebfaaDoorS3
import Derived.Test.YtaoekfokpbebfaaDoorL4
import Derived.Test.YtaoekfokpbebfaaDoorRows
import Derived.Test.YtaoekfokpbebfaaDoorCards
import Derived.Test.YtaoekfokpbebfaaDoorTie
import Derived.ProofKit
import Derived.SizedLaws
import Derived.LaidMore
import Derived.OpenShut
import Derived.SevenTiedAt
namespace Go.Proofs.YtaoekfokpbebfaaDoor.tokenAlone
open Go.ChangeShapes Go.WideShapes Go.ChangeAt Go.RowKit
open Go.ChangeMaps (open_string shut_string)
set_option linter.unusedVariables false

theorem own : ownKnob Tryd.prog.godebug = none := by kernel_rfl
theorem door_met (os : Os) (args : Array Value) : laidMetH Tryd.prog [("burin/token.signs", Rows.laid_burin_token_signs)] ((World.doorLaid Tryd.prog 400 os).forCall (fun _ _ => 0) ⟨#[], args, []⟩).memory :=
  laidMetH_of_parts3 (fuel := 8) (laidMet_of_run' 8 (by kernel_rfl) (by kernel_rfl)) (by kernel_rfl) (by kernel_rfl)
theorem walk (s : ByteArray) (W : World) (hs : s.size ≤ 140737488355328) (hw0 : 0 < W.heap.size) (hsg : Sg W) :
    Calls Tryd.prog 10 #[.string s] W fun e w' => e = .returned (.bool true) ∧ Below W.heap.size W w' := by
  rcases Nat.lt_or_ge 2000 s.size with h | h
  · refine alone_walk s (s.extract 0 2000) W hs (.inl ⟨h, rfl⟩) hw0 hsg (fun t ht => ?_) (Tk.lex_len _)
    have := Tk.lex_short ht
    simp [Tk.wt] at this
    omega
  · refine alone_walk s s W hs (.inr ⟨h, rfl⟩) hw0 hsg (fun t ht => ?_) (Tk.lex_len _)
    have := Tk.lex_short ht
    simp [Tk.wt] at this
    have e : s.data.size = s.size := rfl
    omega
set_option maxRecDepth 100000 in
theorem lifted (os : Os) (started : os.Started) (H : Type) (enc : TypeId × Value → H) :
    ReturnsInHanded {} Tryd.checked os 10 .any (fun w args => (Rows.tokenAloneSpec.pre enc Tryd.prog Tryd.f10 [] false w args ∧ laidMetH Tryd.prog [("burin/token.signs", Rows.laid_burin_token_signs)] w) ∧ sizedMet enc Tryd.prog Tryd.f10 (OpenSpec.ofChange Rows.tokenAloneSpec) false w args)
      (Rows.tokenAloneSpec.post enc Tryd.prog Tryd.f10 false true false false) := by
  refine returnsInHanded_of_change_and (C := Tryd.checked) (X := fun w _ => laidMetH Tryd.prog [("burin/token.signs", Rows.laid_burin_token_signs)] w) (fun _ _ _ hh h => h.of_heap hh) own started (by kernel_rfl) Tryd.func10
    (ChangeSpec.witness_shaped (enc := enc) (C := Tryd.checked) (os := os) (X := fun w _ => laidMetH Tryd.prog [("burin/token.signs", Rows.laid_burin_token_signs)] w) false (World.doorLaid Tryd.prog 400 os) #[.string ⟨#[]⟩] 8 rfl (World.shaped_of_RefB (by kernel_rfl) (by kernel_rfl)) (by kernel_rfl) (by kernel_rfl) (by kernel_rfl) (door_met os _)) ?_
  intro W base args ds gs before hval0 hW _ hsz0 hL _
  have hval : ∀ (j : Nat) t v, Tryd.f10.params[j]? = some t → args[j]? = some v → Value.okWide Tryd.prog W .any base t v := hval0
  have hsz : (DataW.weightsEach Tryd.prog (Tryd.f10.params.toList ++ Rows.tokenAloneSpec.plain.varTypes Tryd.prog) (ds ++ gs)).all (· ≤ reachBytes) = true := hsz0
  have hW' := hW
  obtain ⟨p, q, hA0, hV, rfl, hfz, hnd⟩ := hW
  have hA : DataW.TrodAll enc Tryd.prog W 0 (fun _ => true) true Tryd.f10.params.toList args.toList ds p := hA0
  rw [Tryd.params10] at hA hval hsz
  obtain ⟨v0, d0, rfl, rfl, h0⟩ := trodAll_one hA
  obtain ⟨rfl, rfl⟩ := trodVars_none hV
  obtain ⟨s, rfl, rfl, rfl, hmax⟩ := open_string Tryd.underlying9 (hval 0 9 v0 rfl rfl) h0
  have hreach := sized_string hsz (j := 0) (t := 9) rfl rfl
  obtain ⟨hsg, hw0⟩ := sg_of_laid hL
  clear hA0
  simp only [List.append_nil] at hW'
  refine (walk s W (by simp [reachBytes] at hreach; have e : s.data.size = s.size := rfl; omega) hw0 hsg).mono fun e W' ⟨he, hg⟩ => ?_
  subst he
  exact ⟨_, rfl, _, _, _, [], [], [], hW', trodAll_cons_mk (shut_bool Tryd.underlying4 _) trodAll_mk0, trodAll_cons_mk (shut_string Tryd.underlying9 hmax) trodAll_mk0, rfl, hg.frame _, fun h => by cases h⟩

theorem proved : Rows.TokenAloneSaid :=
  OpenClaim.holds_of_wide 10 Tryd.f10 rfl rfl rfl rfl rfl rfl rfl ⟨rfl, rfl, rfl, rfl, rfl⟩ rfl rfl rfl rfl rfl (by kernel_rfl) Tryd.func10 (by kernel_rfl)
    (of_decide_eq_true (by kernel_rfl)) (by unfold Func.isWrapper; first | (rw [if_pos (by decide +kernel)]; kernel_rfl) | (rw [if_neg (by decide +kernel)]; exact ⟨rfl, rfl⟩))
    (fun os started H enc _ => lifted os started H enc)
end Go.Proofs.YtaoekfokpbebfaaDoor.tokenAlone
