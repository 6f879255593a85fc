/-
  The statements' own: integer, shown.
-/
import Derived.Test.YtkiebejidpebdaaUo
namespace Go.Proofs.Ytkiebejidpebdaa
open Go Go.RowKit Go.Shelf
set_option linter.unusedVariables false
set_option linter.unusedSimpArgs false

def intT (k : Int) : ShT := .mk 1 k 0 none 0 [] none 0 [] false 0
def shoT (g : Nat) : ShT := .mk 4 0 0 none 0 [] (some ⟨g, 0, none⟩) 3 [⟨[97], intT 5, 3⟩, ⟨[98], intT 5, 30⟩, ⟨[99], intT 1, -1⟩] false 0
theorem sho_chk (g : Nat) : chkM (shoT g) = ((12, 4), 0) := by kernel_rfl
theorem sho_mem (g : Nat) : memL (shoT g) = ([⟨0, 3, 5, 4⟩, ⟨32, 30, 5, 4⟩, ⟨64, 8, 1, 1⟩], 0) := by kernel_rfl
theorem intT_in (B : Nat) (W : World) (k : Int) : (intT k).In B W
  | 0 => trivial
  | d + 1 => ⟨fun i hi => absurd hi (Nat.not_lt_zero _), fun i hi => absurd hi (Nat.not_lt_zero _)⟩
theorem res_T {f : Func} {k : Nat} {tmps : Array Value} {w : World} {R : Nat} {cs : Array Value} (hr : f.results = #[.cell k 25]) (hp : tmps.getD k undef = .pointer (some ⟨R, 0, none⟩)) (hg : w.heap[R]? = some (.cells cs 25 (0, 0))) (hz : cs.size = 7) :
    (results f tmps).run Try.prog w = .ok (.agg cs) w := by
  have hi : (Try.prog.info? 25).map (·.size) = some cs.size := by rw [hz]; kernel_rfl
  have hp' : tmps[k]?.getD undef = .pointer (some ⟨R, 0, none⟩) := by simpa using hp
  simp [results, hr, hp', asAddr, run_loadVar_row w R 25 25 cs (0, 0) _ hg Try.underlying25 rfl hi]
theorem integer_any (k : Int) (w : World) : Calls Try.prog 39 #[.int .i64 k] w fun e w' => e = .returned (.agg #[.int .i64 1, .int .i64 k, .int .i64 0, .slice none 0 0, .slice none 0 0, .bool false, .int .i64 0]) ∧ Below w.heap.size w w' := by
  go_enter Try.func39, Try.ntmps39
  go_wp2
  exact bodyPost_ret (res_T (f := Try.f39) rfl rfl (Bk.new w _ _) rfl) rfl ⟨rfl, (Below.refl _ w).alloc (Nat.le_refl _) _⟩
def shoC : Array Value := #[.string ⟨#[97]⟩, .int .i64 1, .int .i64 5, .int .i64 0, .slice none 0 0, .slice none 0 0, .bool false, .int .i64 0, .int .i64 3,
  .string ⟨#[98]⟩, .int .i64 1, .int .i64 5, .int .i64 0, .slice none 0 0, .slice none 0 0, .bool false, .int .i64 0, .int .i64 30,
  .string ⟨#[99]⟩, .int .i64 1, .int .i64 1, .int .i64 0, .slice none 0 0, .slice none 0 0, .bool false, .int .i64 0, .int .i64 (-1)]
theorem sho_in {W : World} {g : Nat} {T : TypeId} (h : Bk W g T shoC) : (shoT g).In W.heap.size W
  | 0 => trivial
  | d + 1 => ⟨fun i hi => absurd hi (Nat.not_lt_zero _), fun i hi => by
      have hi3 : i < 3 := hi
      refine ⟨g, 0, rfl, h.lt, fun j hj => ?_, ?_, ?_⟩
      · rw [h.cell, Nat.zero_add]
        have hI : i = 0 ∨ i = 1 ∨ i = 2 := by omega
        have hJ : j = 0 ∨ j = 1 ∨ j = 2 ∨ j = 3 ∨ j = 4 ∨ j = 5 ∨ j = 6 ∨ j = 7 ∨ j = 8 := by omega
        rcases hI with rfl | rfl | rfl <;> rcases hJ with rfl | rfl | rfl | rfl | rfl | rfl | rfl | rfl | rfl <;> rfl
      · have : i = 0 ∨ i = 1 ∨ i = 2 := by omega
        rcases this with rfl | rfl | rfl <;> (show 1 ≤ maxLen; unfold maxLen; decide)
      · have : i = 0 ∨ i = 1 ∨ i = 2 := by omega
        rcases this with rfl | rfl | rfl <;> exact intT_in _ _ _ d⟩
theorem row_cells {W : World} {base n size : Nat} {e : TypeId} {v : Value} {xs : List Value} (h : W.ownsRow base e size v (n + 1) xs) :
    ∃ g cap, v = .slice (some ⟨g, 0, none⟩) (n + 1) cap ∧ base ≤ g ∧ g < W.heap.size ∧ n + 1 ≤ cap ∧ ∀ (i : Nat) (u : Value), xs[i]? = some u → W.cell? ⟨g, i, none⟩ = some u := by
  rcases h.2 with ⟨_, h0⟩ | ⟨g, cap, cur, rfl, hb, hg, hc, hm, hs, hx⟩
  · omega
  · refine ⟨g, cap, rfl, hb, (Array.getElem?_eq_some_iff.1 hg).1, hc, fun i u hu => ?_⟩
    have hk : Bk W g e cur := hg
    rw [hk.cell]
    rw [← hx, List.getElem?_take] at hu
    split at hu
    · simpa using hu
    · cases hu
set_option maxRecDepth 100000 in
set_option maxHeartbeats 8000000 in
theorem shown_any (w : World) : Calls Try.prog 17 #[] w fun e w' => e = .returned (.bool true) ∧ Below w.heap.size w w' := by
  have HI := veil integer_any
  have HB : Hid (Below w.heap.size w w) := Below.refl _ _
  go_enter Try.func17, Try.ntmps17
  go_upto_region 1 with fail
  go_upto_region 2 with (first
    | (go_at_call 39; refine (unveil HI _ _).mono ?_; rintro e w1 ⟨rfl, hb1⟩; have HB := veil ((unveil HB).trans (hb1.mono (unveil HB).size)); clear hb1))
  have HT : Hid (TyB ((w1.alloc (.cells shoC 45)).alloc (.cells (shoT w1.heap.size).cs 25)) (w1.heap.size + 1) (shoT w1.heap.size)) := by
    have := TyB.new (w1.alloc (.cells shoC 45)) (shoT w1.heap.size)
    rw [World.size_alloc] at this
    exact this
  have HR : Hid (Bk ((w1.alloc (.cells shoC 45)).alloc (.cells (shoT w1.heap.size).cs 25)) w1.heap.size 45 shoC) := (Bk.new w1 _ _).alloc _
  have HBE : Hid (Below w.heap.size w ((w1.alloc (.cells shoC 45)).alloc (.cells (shoT w1.heap.size).cs 25))) := ((unveil HB).alloc (unveil HB).size _).alloc (by have := (unveil HB).size; simp; omega) _
  have hcs : (shoT w1.heap.size).cs = #[.int .i64 4, .int .i64 0, .int .i64 0, .slice none 0 0, .slice (some ⟨w1.heap.size, 0, none⟩) 3 3, .bool false, .int .i64 0] := rfl
  rw [hcs] at HT HR HBE
  unfold shoC at HT HR HBE
  generalize w1.heap.size = g at *
  clear hcs
  generalize ((w1.alloc (.cells _ 45)).alloc (.cells _ 25)) = W0 at *
  have HS : Hid (Calls Try.prog 18 #[(shoT g).v] W0 fun r w' => r = .returned (.tuple #[.int .i64 12, .int .i64 4, .int .i64 0]) ∧ Below W0.heap.size W0 w') := by
    have := Size10_any (shoT g) W0 (sho_in (unveil HR))
    rw [sho_chk] at this
    exact this
  have HM : Hid (∀ W, Below W0.heap.size W0 W → Calls Try.prog 21 #[(shoT g).v] W fun e w' => MbP W [⟨0, 3, 5, 4⟩, ⟨32, 30, 5, 4⟩, ⟨64, 8, 1, 1⟩] 0 e w') := fun W hW => by
    have := Members_any (shoT g) W (sho_in ((unveil HR).below hW))
    rw [sho_mem] at this
    exact this
  have hv : (shoT g).v = .agg #[.int .i64 4, .int .i64 0, .int .i64 0, .slice none 0 0, .slice (some ⟨g, 0, none⟩) 3 3, .bool false, .int .i64 0] := rfl
  rw [hv] at HS HM
  clear hv
  obtain ⟨y0, y1, y2, y3, y4, y5, y6⟩ := (unveil HT).seven
  simp only [shoT, ShT.sh, ShT.k, ShT.n, ShT.op, ShT.of, ShT.oc, ShT.fp, ShT.fs, ShT.fc, ShT.pk, ShT.al, List.length_cons, List.length_nil] at y0 y1 y2 y3 y4 y5 y6
  go_wp2_with (first
    | (go_at_call 18; refine (unveil HS).mono ?_; rintro e W2 ⟨rfl, hb2⟩; have HB2 := veil hb2; obtain ⟨z0, z1, z2, z3, z4, z5, z6⟩ := ((unveil HT).below hb2).seven; simp only [shoT, ShT.sh, ShT.k, ShT.n, ShT.op, ShT.of, ShT.oc, ShT.fp, ShT.fs, ShT.fc, ShT.pk, ShT.al, List.length_cons, List.length_nil] at z0 z1 z2 z3 z4 z5 z6; clear hb2)
    | (go_at_call 21; refine (unveil HM _ (unveil HB2)).mono ?_; rintro e W3 ⟨v, rfl, hrow, hb3⟩; obtain ⟨gg, cap, rfl, hg1, hg2, hcap, hce⟩ := row_cells hrow; have HB3 := veil hb3; have e3 := hce 3 (.int .i64 32) rfl; have e6 := hce 6 (.int .i64 64) rfl; clear hrow hce hb3))
  go_ret
  exact ⟨by simp, (unveil HBE).trans (((unveil HB2).trans ((unveil HB3).mono (unveil HB2).size)).mono (unveil HBE).size)⟩
end Go.Proofs.Ytkiebejidpebdaa
