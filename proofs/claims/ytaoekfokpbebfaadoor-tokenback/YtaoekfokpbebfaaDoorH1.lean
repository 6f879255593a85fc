/-
  burinlaw02.right; burinlaw02.TokenLexes answers true for every list of lines: the walk.
-/
import Derived.Test.YtaoekfokpbebfaaDoorR7
import Derived.Test.YtaoekfokpbebfaaDoorG1
import Derived.Test.YtaoekfokpbebfaaDoorS2
import Derived.Test.YtaoekfokpbebfaaDoorS4
import Derived.Test.YtaoekfokpbebfaaDoorLa
namespace Go.Proofs.YtaoekfokpbebfaaDoor
open Go Go.RowKit
set_option linter.unusedVariables false
set_option linter.unusedSimpArgs false

def RightP (w : World) (e : Ending) (w' : World) : Prop := (e = .returned (.bool true) ∨ e = .returned (.bool false)) ∧ w' = w
set_option maxHeartbeats 800000 in
theorem right_any (v : Value) (l : List (Int × ByteArray)) (B : Nat) (w : World) (hf : Fits l) (hl : LnB B w v l) : Calls Tryd.prog 12 #[v] w fun e w' => RightP w e w' := by
  have HL := hide hl
  obtain ⟨p, cap, rfl, _⟩ := hl
  have hlen := hf.1
  clear hf
  go_enter Tryd.func12, Tryd.ntmps12
  go_wp2
  go_loopw [3] (fun i wr => ∃ k : Nat, i = .int .i64 k ∧ k ≤ l.length ∧ wr = w) (fun i wr => l.length - (intOf i).toNat)
  case atStart => exact ⟨0, rfl, by omega, rfl⟩
  case round =>
    obtain ⟨k, rfl, hk, rfl⟩ := hrel
    by_cases hlt : k < l.length
    · have i1 : (k : Int) < (l.length : Int) := by omega
      obtain ⟨p', cap', hp', hcs⟩ := unhide HL
      obtain ⟨g, o, rfl, hgB, c0, c1⟩ := hcs k hlt
      obtain ⟨rfl, rfl⟩ : p = some ⟨g, o, none⟩ ∧ cap = cap' := by simpa using hp'
      generalize l[k].1 = N at *
      clear hcs hp' c1
      by_cases hN : N < 1
      · go_wp2
        go_ret
        exact ⟨.inr rfl, rfl⟩
      · go_wp2
        go_roundw
        case rel => exact ⟨k + 1, by go_num, by omega, trivial⟩
        case measure => simp [intOf]; omega
    · have i1 : ¬ (k : Int) < (l.length : Int) := by omega
      go_wp2
      go_ret
      exact ⟨.inl rfl, rfl⟩

theorem ownsRow_slice {W : World} {base n size : Nat} {e : TypeId} {v : Value} {xs : List Value} (h : W.ownsRow base e size v n xs) : ∃ p cap, v = .slice p n cap := by
  rcases h.2 with ⟨rfl, h0⟩ | ⟨g, cp, cur, rfl, _⟩
  · exact ⟨none, 0, by rw [h0]⟩
  · exact ⟨_, _, rfl⟩
set_option maxRecDepth 100000 in
set_option maxHeartbeats 4000000 in
theorem lexes_walk (v : Value) (l : List (Int × ByteArray)) (w : World) (hf : Fits l) (hw0 : 0 < w.heap.size) (hl : LnB w.heap.size w v l) (hsg : Sg w) :
    Calls Tryd.prog 3 #[v] w fun e w' => e = .returned (.bool true) ∧ Below w.heap.size w w' := by
  have HSG := hide hsg
  have HL := hide hl
  have HF := hide hf
  have HSH := hide (shown_any w hw0 hsg)
  obtain ⟨p, cap, rfl, _⟩ := hl
  clear hsg hf
  go_enter Tryd.func3, Tryd.ntmps3
  go_wp2_with fail
  refine (unhide HSH).mono ?_
  rintro e W1 ⟨rfl, hb1⟩
  have hz1 := hb1.size
  have hl1 : LnB W1.heap.size W1 (.slice p l.length cap) l := by
    obtain ⟨p', cap', h1, h2⟩ := (unhide HL).below hb1
    refine ⟨p', cap', h1, fun i hi => ?_⟩
    obtain ⟨g, o, a, b, c⟩ := h2 i hi
    exact ⟨g, o, a, by omega, c⟩
  have HL1 := hide hl1
  have HRI := hide (right_any _ l _ W1 (unhide HF) hl1)
  clear hl1
  go_wp2_with fail
  refine (unhide HRI).mono ?_
  rintro e W1' ⟨hor, rfl⟩
  rcases hor with rfl | rfl
  · have hlx := Lex_any _ l W1' (unhide HF) (by omega) (unhide HL1) (Sg.below (unhide HSG) hb1 hw0)
    have HLX := hide hlx
    clear hlx
    go_wp2_with fail
    refine (unhide HLX).mono ?_
    rintro e W2 ⟨v2, rfl, hrow2, hb2⟩
    obtain ⟨p2, cap2, rfl⟩ := ownsRow_slice hrow2
    have hT2 := hide (TkS.of hrow2 rfl)
    have hz2 := hb2.size
    have hl2 : LnB W2.heap.size W2 (.slice p l.length cap) l := by
      obtain ⟨p', cap', h1, h2⟩ := (unhide HL1).below hb2
      refine ⟨p', cap', h1, fun i hi => ?_⟩
      obtain ⟨g, o, a, b, c⟩ := h2 i hi
      exact ⟨g, o, a, by omega, c⟩
    have HRL := hide (rLex_q _ l W2 (unhide HF) hl2)
    clear hl2 HLX hrow2
    go_wp2_with fail
    refine (unhide HRL).mono ?_
    rintro e W3 ⟨v3, rfl, hrow3, hb3⟩
    obtain ⟨p3, cap3, rfl⟩ := ownsRow_slice hrow3
    have hlenR := Tk.lex_len (asL l)
    have hS3 := Same_any _ _ _ _ _ _ W3 (by simp; omega) ((unhide hT2).toG.below hb3) (TkS.of hrow3 rfl).toG
    simp only [decide_true] at hS3
    have HS3 := hide hS3
    have hfin : Hid (Below w.heap.size w W3) := (hb1.trans (hb2.mono (by omega))).trans (hb3.mono (by omega))
    clear hS3 hrow3 HRL hlenR hT2 HL HL1 HF HSG HRI HSH
    generalize Tk.lex (asL l) = R at *
    obtain ⟨L, er, n⟩ := R
    simp only at HS3 ⊢
    go_wp2_with (go_at_call 15; refine (unhide HS3).mono ?_; rintro e w' ⟨rfl, m, rfl⟩)
    go_ret
    exact ⟨rfl, (unhide hfin).trans (below_drewN0 _ _ _)⟩
  · go_wp2
    go_ret
    exact ⟨rfl, hb1⟩
end Go.Proofs.YtaoekfokpbebfaaDoor
