/-
  ShapeLies: the walk.
-/
import Derived.Test.YtdmlgdkpimjknaaVc
namespace Go.Proofs.Ytdmlgdkpimjknaa
open Go Go.RowKit Go.Shelf
set_option linter.unusedVariables false
set_option linter.unusedSimpArgs false

theorem row_slice {W : World} {base n size : Nat} {e : TypeId} {v : Value} {xs : List Value} (h : W.ownsRow base e size v n xs) : ∃ q cp, v = .slice q n cp := by
  rcases h.2 with ⟨rfl, h0⟩ | ⟨g, cap, cur, rfl, _⟩
  · exact ⟨none, 0, by rw [h0]⟩
  · exact ⟨_, _, rfl⟩
theorem tyB_new1 (w : World) (t : ShT) : ∀ W, Below (w.alloc (.cells t.cs 25)).heap.size (w.alloc (.cells t.cs 25)) W → TyB W w.heap.size t ∧ Below w.heap.size w W := fun W h => ⟨(TyB.new w t).below h, ((Below.refl _ w).alloc (Nat.le_refl _) _).trans (h.mono (by simp))⟩
set_option maxRecDepth 100000 in
set_option maxHeartbeats 8000000 in
theorem lies_err (t : ShT) (w : World) (hin : t.In w.heap.size w) (herr : ((memL t).2 != 0) = true) :
    Calls Try.prog 7 #[t.v] w fun e w' => e = .returned (.bool true) ∧ Below w.heap.size w w' := by
  have hnil : (memL t).1 = [] := by
    unfold memL at herr ⊢
    split
    · rename_i hc
      rw [if_pos hc] at herr
      split
      · rename_i hs
        rw [if_pos hs] at herr
        simp at herr
      · rfl
    · rfl
  have HM : Hid (∀ W, Below w.heap.size w W → Calls Try.prog 14 #[t.v] W fun e w' => MbP W [] (memL t).2 e w') := fun W hW => by
    have := Members_any t W ((hin.below hW).mono hW.size)
    rw [hnil] at this
    exact this
  have HZ : Hid (∀ W, Below w.heap.size w W → Calls Try.prog 11 #[t.v] W fun r w' => r = .returned (.tuple #[.int .i64 (chkM t).1.1, .int .i64 (chkM t).1.2, .int .i64 (chkM t).2]) ∧ Below W.heap.size W w') := fun W hW => Size10_any t W ((hin.below hW).mono hW.size)
  have HS := veil shown_any
  have HX := veil (tyB_new1 w t)
  clear hin hnil
  generalize (memL t).2 = er at *
  generalize (chkM t).1.1 = n at *
  generalize (chkM t).1.2 = a at *
  generalize (chkM t).2 = fe at *
  unfold ShT.v ShT.cs at *
  go_enter Try.func7, Try.ntmps7
  go_wp2_with (first
    | (go_at_call 10; refine (unveil HS _).mono ?_; rintro e w1 ⟨rfl, hb1⟩; obtain ⟨x1, x2⟩ := unveil HX w1 hb1; have XT := veil x1; have XB := veil x2; obtain ⟨y0, y1, y2, y3, y4, y5, y6⟩ := x1.seven; clear x1 x2 hb1)
    | (go_at_call 14; refine (unveil HM _ (unveil XB)).mono ?_; rintro e w2 ⟨v, rfl, hrow, hb2⟩; obtain ⟨q, cp, rfl⟩ := row_slice hrow; have XT2 := veil ((unveil XT).below hb2); have XB2 := veil ((unveil XB).trans (hb2.mono (unveil XB).size)); obtain ⟨z0, z1, z2, z3, z4, z5, z6⟩ := (unveil XT2).seven; clear hrow hb2)
    | (go_at_call 11; refine (unveil HZ _ (unveil XB2)).mono ?_; rintro e w3 ⟨rfl, hb3⟩; have XB3 := veil ((unveil XB2).trans (hb3.mono (unveil XB2).size)); clear hb3))
  go_ret
  exact ⟨by simp, unveil XB3⟩
end Go.Proofs.Ytdmlgdkpimjknaa
