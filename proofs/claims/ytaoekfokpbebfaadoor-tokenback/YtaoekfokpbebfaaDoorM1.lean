/-
  burinlaw02.alike: two lists of tokens that are the same but for lines, and for the Space of First ones.
-/
import Derived.Test.YtaoekfokpbebfaaDoorG1
import Derived.Test.YtaoekfokpbebfaaDoorS4
namespace Go.Proofs.YtaoekfokpbebfaaDoor
open Go Go.RowKit
set_option linter.unusedVariables false
set_option linter.unusedSimpArgs false

/-- The same but for lines, and for the Space of First ones. -/
def Alk (A B : List Gt) : Prop := A.length = B.length ∧ ∀ (i : Nat) (h : i < A.length) (h2 : i < B.length), A[i].kind = B[i].kind ∧ A[i].s = B[i].s ∧ A[i].f = B[i].f ∧ A[i].fi = B[i].fi ∧ (A[i].fi = false → A[i].sp = B[i].sp)

set_option maxRecDepth 100000 in
set_option maxHeartbeats 4000000 in
theorem alike_any (va vb : Value) (A B : List Gt) (w : World) (hsz : A.length ≤ 140737488355328) (hal : Alk A B) (ha : TkG w.heap.size w va A) (hb : TkG w.heap.size w vb B) :
    Calls Tryd.prog 23 #[va, vb] w fun e w' => e = .returned (.bool true) ∧ Below w.heap.size w w' := by
  have HA := hide ha
  have HB := hide hb
  have HAL := hide hal
  obtain ⟨p, cap, rfl, _⟩ := ha
  obtain ⟨q, cbp, rfl, _⟩ := hb
  have HHL := hide hal.1
  have i0 : (((A.length : Nat) : Int) != ((B.length : Nat) : Int)) = false := by rw [bne_eq_false_iff_eq, hal.1]
  have hbl : B.length ≤ A.length := by rw [hal.1]; exact Nat.le_refl _
  clear hal
  go_enter Tryd.func23, Tryd.ntmps23
  go_wp2
  go_loopg [5] A.length (fun gk i wr => ∃ (k : Nat), gk = A.length - k ∧ i = .int .i64 k ∧ k ≤ A.length ∧ Hid (Below w.heap.size w wr))
  case atStart => exact ⟨0, rfl, rfl, by omega, Below.refl _ _⟩
  case round =>
    obtain ⟨k, rfl, rfl, hk, hbe⟩ := hrel
    have hzr := (unhide hbe).size
    by_cases hlt : k < A.length
    · have hlb : k < B.length := by rw [← unhide HHL]; exact hlt
      have i1 : (k : Int) < (A.length : Int) := by omega
      have i2 : (k : Int) < (B.length : Int) := by omega
      obtain ⟨p', cap', hp', hcs⟩ := (unhide HA).below (unhide hbe)
      obtain ⟨g, o, rfl, hgl, a0, a1, a2, a3, a4, a5⟩ := hcs k hlt
      obtain ⟨rfl, rfl⟩ : p = some ⟨g, o, none⟩ ∧ cap = cap' := by simpa using hp'
      obtain ⟨q', cbp', hq', hcs'⟩ := (unhide HB).below (unhide hbe)
      obtain ⟨g', o', rfl, hgl', b0, b1, b2, b3, b4, b5⟩ := hcs' k hlb
      obtain ⟨rfl, rfl⟩ : q = some ⟨g', o', none⟩ ∧ cbp = cbp' := by simpa using hq'
      obtain ⟨e1, e2, e3, e4, e5⟩ := (unhide HAL).2 k hlt hlb
      generalize A[k] = x at *
      generalize B[k] = y at *
      obtain ⟨xk, xs, xf, xl, xsp, xfi⟩ := x
      obtain ⟨yk, ys, yf, yl, ysp, yfi⟩ := y
      simp only at e1 e2 e3 e4 e5 a0 a1 a2 a3 a4 a5 b0 b1 b2 b3 b4 b5
      subst e1 e2 e3 e4
      clear hcs hcs' hp' hq'
      have hgd := guard34
      have hX1 : (wr.alloc (.cells #[.int .i64 xk, .string ⟨xs.toArray⟩, .string ⟨xf.toArray⟩, .int .i64 xl, .bool xsp, .bool xfi] 34)).heap[wr.heap.size]? = some (.cells #[.int .i64 xk, .string ⟨xs.toArray⟩, .string ⟨xf.toArray⟩, .int .i64 xl, .bool xsp, .bool xfi] 34 (0, 0)) := World.alloc_heap_new wr _
      have hb1 : Below w.heap.size w (wr.alloc (.cells #[.int .i64 xk, .string ⟨xs.toArray⟩, .string ⟨xf.toArray⟩, .int .i64 xl, .bool xsp, .bool xfi] 34)) := (unhide hbe).alloc hzr _
      have hzz : (wr.alloc (.cells #[.int .i64 xk, .string ⟨xs.toArray⟩, .string ⟨xf.toArray⟩, .int .i64 xl, .bool xsp, .bool xfi] 34)).heap.size = wr.heap.size + 1 := by simp
      have mv : ∀ j u, wr.cell? ⟨g', j, none⟩ = some u → (wr.alloc (.cells #[.int .i64 xk, .string ⟨xs.toArray⟩, .string ⟨xf.toArray⟩, .int .i64 xl, .bool xsp, .bool xfi] 34)).cell? ⟨g', j, none⟩ = some u := fun j u h => (World.cell?_of_block (Below.heap_alloc wr _ g' (by omega))).trans h
      have d0 := mv _ _ b0
      have d1 := mv _ _ b1
      have d2 := mv _ _ b2
      have d3 := mv _ _ b3
      have d4 := mv _ _ b4
      have d5 := mv _ _ b5
      clear b0 b1 b2 b3 b4 b5 mv
      go_upto_region 7 with fail
      clear a0 a1 a2 a3 a4 a5
      generalize hW1 : (wr.alloc (.cells #[.int .i64 xk, .string ⟨xs.toArray⟩, .string ⟨xf.toArray⟩, .int .i64 xl, .bool xsp, .bool xfi] 34)) = W1 at *
      clear hW1
      have hX : (W1.alloc (.cells #[.int .i64 xk, .string ⟨xs.toArray⟩, .string ⟨xf.toArray⟩, .int .i64 yl, .bool ysp, .bool xfi] 34)).heap[wr.heap.size]? = some (.cells #[.int .i64 xk, .string ⟨xs.toArray⟩, .string ⟨xf.toArray⟩, .int .i64 xl, .bool xsp, .bool xfi] 34 (0, 0)) :=
        (Below.heap_alloc _ _ _ (by omega)).trans hX1
      have hY : (W1.alloc (.cells #[.int .i64 xk, .string ⟨xs.toArray⟩, .string ⟨xf.toArray⟩, .int .i64 yl, .bool ysp, .bool xfi] 34)).heap[wr.heap.size + 1]? = some (.cells #[.int .i64 xk, .string ⟨xs.toArray⟩, .string ⟨xf.toArray⟩, .int .i64 yl, .bool ysp, .bool xfi] 34 (0, 0)) := by
        have := World.alloc_heap_new W1 (.cells #[.int .i64 xk, .string ⟨xs.toArray⟩, .string ⟨xf.toArray⟩, .int .i64 yl, .bool ysp, .bool xfi] 34)
        rw [hzz] at this; exact this
      have hb2 : Below w.heap.size w (W1.alloc (.cells #[.int .i64 xk, .string ⟨xs.toArray⟩, .string ⟨xf.toArray⟩, .int .i64 yl, .bool ysp, .bool xfi] 34)) := hb1.alloc (by omega) _
      go_upto_region 8 with fail
      clear d0 d1 d2 d3 d4 d5 hX1 hb1
      generalize (W1.alloc (.cells #[.int .i64 xk, .string ⟨xs.toArray⟩, .string ⟨xf.toArray⟩, .int .i64 yl, .bool ysp, .bool xfi] 34)) = W2 at *
      clear hzz
      generalize wr.heap.size = C at *
      have x0 : W2.cell? ⟨C, 0, none⟩ = some (.int .i64 xk) := by rw [World.cell?, hX]; rfl
      have x1 : W2.cell? ⟨C, 1, none⟩ = some (.string ⟨xs.toArray⟩) := by rw [World.cell?, hX]; rfl
      have x2 : W2.cell? ⟨C, 2, none⟩ = some (.string ⟨xf.toArray⟩) := by rw [World.cell?, hX]; rfl
      have x3 : W2.cell? ⟨C, 3, none⟩ = some (.int .i64 xl) := by rw [World.cell?, hX]; rfl
      have x4 : W2.cell? ⟨C, 4, none⟩ = some (.bool xsp) := by rw [World.cell?, hX]; rfl
      have x5 : W2.cell? ⟨C, 5, none⟩ = some (.bool xfi) := by rw [World.cell?, hX]; rfl
      have y0 : W2.cell? ⟨C + 1, 0, none⟩ = some (.int .i64 xk) := by rw [World.cell?, hY]; rfl
      have y1 : W2.cell? ⟨C + 1, 1, none⟩ = some (.string ⟨xs.toArray⟩) := by rw [World.cell?, hY]; rfl
      have y2 : W2.cell? ⟨C + 1, 2, none⟩ = some (.string ⟨xf.toArray⟩) := by rw [World.cell?, hY]; rfl
      have y3 : W2.cell? ⟨C + 1, 3, none⟩ = some (.int .i64 yl) := by rw [World.cell?, hY]; rfl
      have y4 : W2.cell? ⟨C + 1, 4, none⟩ = some (.bool ysp) := by rw [World.cell?, hY]; rfl
      have y5 : W2.cell? ⟨C + 1, 5, none⟩ = some (.bool xfi) := by rw [World.cell?, hY]; rfl
      have frx : ∀ i, W2.frozen? ⟨C, i, none⟩ = false := fun i => by simp [World.frozen?, hX]
      have fry : ∀ i, W2.frozen? ⟨C + 1, i, none⟩ = false := fun i => by simp [World.frozen?, hY]
      have fx3 := frx 3
      have fx4 := frx 4
      have fy3 := fry 3
      have fy4 := fry 4
      clear frx fry hX hY hbe
      have set1 : Below w.heap.size w ((W2.setCell ⟨C, 3, none⟩ (.int .i64 0)).setCell ⟨C + 1, 3, none⟩ (.int .i64 0)) := (hb2.setCell (p := ⟨C, 3, none⟩) hzr _).setCell (p := ⟨C + 1, 3, none⟩) (by show _ ≤ C + 1; omega) _
      have SET1 := hide set1
      have SET2 : Hid (Below w.heap.size w ((((W2.setCell ⟨C, 3, none⟩ (.int .i64 0)).setCell ⟨C + 1, 3, none⟩ (.int .i64 0)).setCell ⟨C, 4, none⟩ (.bool false)).setCell ⟨C + 1, 4, none⟩ (.bool false))) := (set1.setCell (p := ⟨C, 4, none⟩) hzr _).setCell (p := ⟨C + 1, 4, none⟩) (by show _ ≤ C + 1; omega) _
      clear set1 hb2
      cases xfi
      · have esp := e5 rfl
        subst esp
        have hne := gt_neq ⟨xk, xs, xf, 0, xsp, false⟩ ⟨xk, xs, xf, 0, xsp, false⟩
        simp only [gC, decide_true, Bool.not_true] at hne
        clear e5
        go_wp2
        go_roundg (A.length - (k + 1))
        case measure => omega
        case rel => exact ⟨k + 1, rfl, by go_num, by omega, SET1⟩
      · have hne := gt_neq ⟨xk, xs, xf, 0, false, true⟩ ⟨xk, xs, xf, 0, false, true⟩
        simp only [gC, decide_true, Bool.not_true] at hne
        clear e5
        go_wp2
        go_roundg (A.length - (k + 1))
        case measure => omega
        case rel => exact ⟨k + 1, rfl, by go_num, by omega, SET2⟩
    · have i1 : ¬ (k : Int) < (A.length : Int) := by omega
      go_wp2
      go_ret
      exact ⟨rfl, unhide hbe⟩
end Go.Proofs.YtaoekfokpbebfaaDoor
