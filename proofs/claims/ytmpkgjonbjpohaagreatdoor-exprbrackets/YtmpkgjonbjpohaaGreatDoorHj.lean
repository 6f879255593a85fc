/-
  Package kind: together, kind, Of.
-/
import Derived.Test.YtmpkgjonbjpohaaGreatDoorHi
namespace Go.Proofs.YtmpkgjonbjpohaaGreatDoor
open Go Go.RowKit Go.Shelf
set_option linter.unusedVariables false
set_option linter.unusedSimpArgs false

def Ty.tog (t : Ty) : Bool := !(decide (0 < t.c) && (decide (0 < t.s) || decide (0 < t.l) || decide (0 < t.i))) && !(decide (0 < t.s) && decide (0 < t.l)) && (t.g == 0 || t.u == 0)
def Ty.kin (t : Ty) : Int := if 0 < t.c then (if 0 < t.u then 2 else 1) else if 0 < t.s then (if 0 < t.u then 4 else 3) else if 0 < t.l then (if 0 < t.u then 8 else 7) else (if 0 < t.u then 6 else 5)
set_option maxRecDepth 100000 in
set_option maxHeartbeats 8000000 in
theorem together_any (t : Ty) (w : World) : Calls Tryz.prog 137 #[.agg t.cells] w fun e w' => e = .returned (.bool t.tog) ∧ Below w.heap.size w w' := by
  have HB : Hid (Below w.heap.size w (w.alloc (.cells t.cells 171))) := (Below.refl _ w).alloc (Nat.le_refl _) _
  have b0 : TBox (w.alloc (.cells t.cells 171)) w.heap.size t := World.alloc_heap_new w _
  have HX := veil b0
  clear b0
  unfold Ty.tog
  obtain ⟨c, s, l, i, g, u⟩ := t
  simp only [Ty.cells] at *
  cases hc : decide (0 < c)
  · cases hs : decide (0 < s)
    · cases hl : decide (0 < l)
      · cases hg : g == 0
        · cases hu : u == 0
          · go_enter Tryz.func137, Tryz.ntmps137
            go_upto_region 1 with fail
            generalize w.alloc (.cells #[.int .i64 c, .int .i64 s, .int .i64 l, .int .i64 i, .int .i64 g, .int .i64 u] 171) = W1 at HX HB ⊢
            obtain ⟨x0, x1, x2, x3, x4, x5⟩ := (unveil HX).six
            simp only at x0 x1 x2 x3 x4 x5
            go_quiet (fail)
            go_wp2
            go_ret
            exact ⟨by simp [*], by have := unveil HB; exact ⟨this.os, this.tape, this.output, this.size, this.block⟩⟩
          · go_enter Tryz.func137, Tryz.ntmps137
            go_upto_region 1 with fail
            generalize w.alloc (.cells #[.int .i64 c, .int .i64 s, .int .i64 l, .int .i64 i, .int .i64 g, .int .i64 u] 171) = W1 at HX HB ⊢
            obtain ⟨x0, x1, x2, x3, x4, x5⟩ := (unveil HX).six
            simp only at x0 x1 x2 x3 x4 x5
            go_quiet (fail)
            go_wp2
            go_ret
            exact ⟨by simp [*], by have := unveil HB; exact ⟨this.os, this.tape, this.output, this.size, this.block⟩⟩
        · go_enter Tryz.func137, Tryz.ntmps137
          go_upto_region 1 with fail
          generalize w.alloc (.cells #[.int .i64 c, .int .i64 s, .int .i64 l, .int .i64 i, .int .i64 g, .int .i64 u] 171) = W1 at HX HB ⊢
          obtain ⟨x0, x1, x2, x3, x4, x5⟩ := (unveil HX).six
          simp only at x0 x1 x2 x3 x4 x5
          go_quiet (fail)
          go_wp2
          go_ret
          exact ⟨by simp [*], by have := unveil HB; exact ⟨this.os, this.tape, this.output, this.size, this.block⟩⟩
      · cases hg : g == 0
        · cases hu : u == 0
          · go_enter Tryz.func137, Tryz.ntmps137
            go_upto_region 1 with fail
            generalize w.alloc (.cells #[.int .i64 c, .int .i64 s, .int .i64 l, .int .i64 i, .int .i64 g, .int .i64 u] 171) = W1 at HX HB ⊢
            obtain ⟨x0, x1, x2, x3, x4, x5⟩ := (unveil HX).six
            simp only at x0 x1 x2 x3 x4 x5
            go_quiet (fail)
            go_wp2
            go_ret
            exact ⟨by simp [*], by have := unveil HB; exact ⟨this.os, this.tape, this.output, this.size, this.block⟩⟩
          · go_enter Tryz.func137, Tryz.ntmps137
            go_upto_region 1 with fail
            generalize w.alloc (.cells #[.int .i64 c, .int .i64 s, .int .i64 l, .int .i64 i, .int .i64 g, .int .i64 u] 171) = W1 at HX HB ⊢
            obtain ⟨x0, x1, x2, x3, x4, x5⟩ := (unveil HX).six
            simp only at x0 x1 x2 x3 x4 x5
            go_quiet (fail)
            go_wp2
            go_ret
            exact ⟨by simp [*], by have := unveil HB; exact ⟨this.os, this.tape, this.output, this.size, this.block⟩⟩
        · go_enter Tryz.func137, Tryz.ntmps137
          go_upto_region 1 with fail
          generalize w.alloc (.cells #[.int .i64 c, .int .i64 s, .int .i64 l, .int .i64 i, .int .i64 g, .int .i64 u] 171) = W1 at HX HB ⊢
          obtain ⟨x0, x1, x2, x3, x4, x5⟩ := (unveil HX).six
          simp only at x0 x1 x2 x3 x4 x5
          go_quiet (fail)
          go_wp2
          go_ret
          exact ⟨by simp [*], by have := unveil HB; exact ⟨this.os, this.tape, this.output, this.size, this.block⟩⟩
    · cases hl : decide (0 < l)
      · cases hg : g == 0
        · cases hu : u == 0
          · go_enter Tryz.func137, Tryz.ntmps137
            go_upto_region 1 with fail
            generalize w.alloc (.cells #[.int .i64 c, .int .i64 s, .int .i64 l, .int .i64 i, .int .i64 g, .int .i64 u] 171) = W1 at HX HB ⊢
            obtain ⟨x0, x1, x2, x3, x4, x5⟩ := (unveil HX).six
            simp only at x0 x1 x2 x3 x4 x5
            go_quiet (fail)
            go_wp2
            go_ret
            exact ⟨by simp [*], by have := unveil HB; exact ⟨this.os, this.tape, this.output, this.size, this.block⟩⟩
          · go_enter Tryz.func137, Tryz.ntmps137
            go_upto_region 1 with fail
            generalize w.alloc (.cells #[.int .i64 c, .int .i64 s, .int .i64 l, .int .i64 i, .int .i64 g, .int .i64 u] 171) = W1 at HX HB ⊢
            obtain ⟨x0, x1, x2, x3, x4, x5⟩ := (unveil HX).six
            simp only at x0 x1 x2 x3 x4 x5
            go_quiet (fail)
            go_wp2
            go_ret
            exact ⟨by simp [*], by have := unveil HB; exact ⟨this.os, this.tape, this.output, this.size, this.block⟩⟩
        · go_enter Tryz.func137, Tryz.ntmps137
          go_upto_region 1 with fail
          generalize w.alloc (.cells #[.int .i64 c, .int .i64 s, .int .i64 l, .int .i64 i, .int .i64 g, .int .i64 u] 171) = W1 at HX HB ⊢
          obtain ⟨x0, x1, x2, x3, x4, x5⟩ := (unveil HX).six
          simp only at x0 x1 x2 x3 x4 x5
          go_quiet (fail)
          go_wp2
          go_ret
          exact ⟨by simp [*], by have := unveil HB; exact ⟨this.os, this.tape, this.output, this.size, this.block⟩⟩
      · go_enter Tryz.func137, Tryz.ntmps137
        go_upto_region 1 with fail
        generalize w.alloc (.cells #[.int .i64 c, .int .i64 s, .int .i64 l, .int .i64 i, .int .i64 g, .int .i64 u] 171) = W1 at HX HB ⊢
        obtain ⟨x0, x1, x2, x3, x4, x5⟩ := (unveil HX).six
        simp only at x0 x1 x2 x3 x4 x5
        go_quiet (fail)
        go_wp2
        go_ret
        exact ⟨by simp [*], by have := unveil HB; exact ⟨this.os, this.tape, this.output, this.size, this.block⟩⟩
  · cases hs : decide (0 < s)
    · cases hl : decide (0 < l)
      · cases hi : decide (0 < i)
        · cases hg : g == 0
          · cases hu : u == 0
            · go_enter Tryz.func137, Tryz.ntmps137
              go_upto_region 1 with fail
              generalize w.alloc (.cells #[.int .i64 c, .int .i64 s, .int .i64 l, .int .i64 i, .int .i64 g, .int .i64 u] 171) = W1 at HX HB ⊢
              obtain ⟨x0, x1, x2, x3, x4, x5⟩ := (unveil HX).six
              simp only at x0 x1 x2 x3 x4 x5
              go_quiet (fail)
              go_wp2
              go_ret
              exact ⟨by simp [*], by have := unveil HB; exact ⟨this.os, this.tape, this.output, this.size, this.block⟩⟩
            · go_enter Tryz.func137, Tryz.ntmps137
              go_upto_region 1 with fail
              generalize w.alloc (.cells #[.int .i64 c, .int .i64 s, .int .i64 l, .int .i64 i, .int .i64 g, .int .i64 u] 171) = W1 at HX HB ⊢
              obtain ⟨x0, x1, x2, x3, x4, x5⟩ := (unveil HX).six
              simp only at x0 x1 x2 x3 x4 x5
              go_quiet (fail)
              go_wp2
              go_ret
              exact ⟨by simp [*], by have := unveil HB; exact ⟨this.os, this.tape, this.output, this.size, this.block⟩⟩
          · go_enter Tryz.func137, Tryz.ntmps137
            go_upto_region 1 with fail
            generalize w.alloc (.cells #[.int .i64 c, .int .i64 s, .int .i64 l, .int .i64 i, .int .i64 g, .int .i64 u] 171) = W1 at HX HB ⊢
            obtain ⟨x0, x1, x2, x3, x4, x5⟩ := (unveil HX).six
            simp only at x0 x1 x2 x3 x4 x5
            go_quiet (fail)
            go_wp2
            go_ret
            exact ⟨by simp [*], by have := unveil HB; exact ⟨this.os, this.tape, this.output, this.size, this.block⟩⟩
        · go_enter Tryz.func137, Tryz.ntmps137
          go_upto_region 1 with fail
          generalize w.alloc (.cells #[.int .i64 c, .int .i64 s, .int .i64 l, .int .i64 i, .int .i64 g, .int .i64 u] 171) = W1 at HX HB ⊢
          obtain ⟨x0, x1, x2, x3, x4, x5⟩ := (unveil HX).six
          simp only at x0 x1 x2 x3 x4 x5
          go_quiet (fail)
          go_wp2
          go_ret
          exact ⟨by simp [*], by have := unveil HB; exact ⟨this.os, this.tape, this.output, this.size, this.block⟩⟩
      · go_enter Tryz.func137, Tryz.ntmps137
        go_upto_region 1 with fail
        generalize w.alloc (.cells #[.int .i64 c, .int .i64 s, .int .i64 l, .int .i64 i, .int .i64 g, .int .i64 u] 171) = W1 at HX HB ⊢
        obtain ⟨x0, x1, x2, x3, x4, x5⟩ := (unveil HX).six
        simp only at x0 x1 x2 x3 x4 x5
        go_quiet (fail)
        go_wp2
        go_ret
        exact ⟨by simp [*], by have := unveil HB; exact ⟨this.os, this.tape, this.output, this.size, this.block⟩⟩
    · cases hl : decide (0 < l)
      · go_enter Tryz.func137, Tryz.ntmps137
        go_upto_region 1 with fail
        generalize w.alloc (.cells #[.int .i64 c, .int .i64 s, .int .i64 l, .int .i64 i, .int .i64 g, .int .i64 u] 171) = W1 at HX HB ⊢
        obtain ⟨x0, x1, x2, x3, x4, x5⟩ := (unveil HX).six
        simp only at x0 x1 x2 x3 x4 x5
        go_quiet (fail)
        go_wp2
        go_ret
        exact ⟨by simp [*], by have := unveil HB; exact ⟨this.os, this.tape, this.output, this.size, this.block⟩⟩
      · go_enter Tryz.func137, Tryz.ntmps137
        go_upto_region 1 with fail
        generalize w.alloc (.cells #[.int .i64 c, .int .i64 s, .int .i64 l, .int .i64 i, .int .i64 g, .int .i64 u] 171) = W1 at HX HB ⊢
        obtain ⟨x0, x1, x2, x3, x4, x5⟩ := (unveil HX).six
        simp only at x0 x1 x2 x3 x4 x5
        go_quiet (fail)
        go_wp2
        go_ret
        exact ⟨by simp [*], by have := unveil HB; exact ⟨this.os, this.tape, this.output, this.size, this.block⟩⟩
end Go.Proofs.YtmpkgjonbjpohaaGreatDoor
