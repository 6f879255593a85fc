/-
  Package burinlaw11: integer, shown.
-/
import Derived.Test.YtkiebejidpebdaaOt
import Derived.Test.YtkiebejidpebdaaUp
namespace Go.Proofs.Ytkiebejidpebdaa
open Go Go.RowKit Go.Shelf
set_option linter.unusedVariables false
set_option linter.unusedSimpArgs false

def shiT (g : Nat) : ShT := .mk 4 0 0 none 0 [] (some ⟨g, 0, none⟩) 3 [⟨[97], intT 1, -1⟩, ⟨[98], intT 5, 4⟩, ⟨[99], intT 5, 6⟩] false 0
def shiS (p : Nat) : List SetT := [⟨some ⟨p, 0, none⟩, 1, [0], 1⟩, ⟨some ⟨p + 1, 0, none⟩, 1, [1], -1⟩, ⟨some ⟨p + 1 + 1, 0, none⟩, 1, [2], 5⟩]
def shiC : Array Value := #[.string ⟨#[97]⟩, .int .i64 1, .int .i64 1, .int .i64 0, .slice none 0 0, .slice none 0 0, .bool false, .int .i64 0, .int .i64 (-1),
  .string ⟨#[98]⟩, .int .i64 1, .int .i64 5, .int .i64 0, .slice none 0 0, .slice none 0 0, .bool false, .int .i64 0, .int .i64 4,
  .string ⟨#[99]⟩, .int .i64 1, .int .i64 5, .int .i64 0, .slice none 0 0, .slice none 0 0, .bool false, .int .i64 0, .int .i64 6]
theorem shi_chk (g : Nat) : chkM (shiT g) = ((4, 4), 0) := by rfl
theorem shi_mk (g p : Nat) : mkM (shiT g) (shiS p) = (⟨#[1, 95, 0, 0]⟩, 0, 0) := by kernel_rfl
theorem shi_gt (g : Nat) : gtM (shiT g) ⟨#[1, 95, 0, 0]⟩ [1] = (-1, 0) := by kernel_rfl
theorem integer11_any (k : Int) (w : World) : Calls Try.prog 50 #[.int .i64 k] w fun e w' => e = .returned (.agg #[.int .i64 1, .int .i64 k, .int .i64 0, .slice none 0 0, .slice none 0 0, .bool false, .int .i64 0]) ∧ Below w.heap.size w w' := by
  go_enter Try.func50, Try.ntmps50
  go_wp2
  exact bodyPost_ret (res_T (f := Try.f50) rfl rfl (Bk.new w _ _) rfl) rfl ⟨rfl, (Below.refl _ w).alloc (Nat.le_refl _) _⟩
theorem shi_in {W : World} {g : Nat} {T : TypeId} (h : Bk W g T shiC) : (shiT g).In W.heap.size W
  | 0 => trivial
  | d + 1 => ⟨fun i hi => absurd hi (Nat.not_lt_zero _), fun i hi => by
      have hi3 : i < 3 := hi
      refine ⟨g, 0, rfl, h.lt, fun j hj => ?_, ?_, ?_⟩
      · rw [h.cell, Nat.zero_add]
        have hI : i = 0 ∨ i = 1 ∨ i = 2 := by omega
        have hJ : j = 0 ∨ j = 1 ∨ j = 2 ∨ j = 3 ∨ j = 4 ∨ j = 5 ∨ j = 6 ∨ j = 7 ∨ j = 8 := by omega
        rcases hI with rfl | rfl | rfl <;> rcases hJ with rfl | rfl | rfl | rfl | rfl | rfl | rfl | rfl | rfl <;> rfl
      · have : i = 0 ∨ i = 1 ∨ i = 2 := by omega
        rcases this with rfl | rfl | rfl <;> (show 1 ≤ maxLen; unfold maxLen; decide)
      · have : i = 0 ∨ i = 1 ∨ i = 2 := by omega
        rcases this with rfl | rfl | rfl <;> exact intT_in _ _ _ d⟩
/-- A path of one step. -/
theorem pa_one {W : World} {b B : Nat} {T : TypeId} {x : Int} (h : Bk W b T #[.int .i64 x]) (hb : b < B) : PaG B W (some ⟨b, 0, none⟩) [x] := fun i hi => by
  obtain rfl : i = 0 := by simp at hi; omega
  exact ⟨b, 0, rfl, hb, by rw [h.cell]; rfl⟩
/-- The world that shown makes ahead of Make. -/
def shiW (W : World) : World := (((W.alloc (.cells #[.int .i64 0] 3)).alloc (.cells #[.int .i64 1] 3)).alloc (.cells #[.int .i64 2] 3)).alloc
  (.cells #[.slice (some ⟨W.heap.size, 0, none⟩) 1 1, .int .i64 1, .slice (some ⟨W.heap.size + 1, 0, none⟩) 1 1, .int .i64 (-1), .slice (some ⟨W.heap.size + 1 + 1, 0, none⟩) 1 1, .int .i64 5] 64)
theorem shiW_be (W : World) : Below W.heap.size W (shiW W) := by
  unfold shiW
  exact ((((Below.refl _ W).alloc (Nat.le_refl _) _).alloc (by simp) _).alloc (by simp; omega) _).alloc (by simp; omega) _
theorem shiW_se (W : World) : SeG (shiW W).heap.size (shiW W) (some ⟨W.heap.size + 1 + 1 + 1, 0, none⟩) (shiS W.heap.size) := by
  have h0 : Bk (shiW W) W.heap.size 3 #[.int .i64 0] := (((Bk.new W _ _).alloc _).alloc _).alloc _
  have h1 : Bk (shiW W) (W.heap.size + 1) 3 #[.int .i64 1] := by
    have := Bk.new (W.alloc (.cells #[.int .i64 0] 3)) 3 #[.int .i64 1]
    rw [World.size_alloc] at this
    exact (this.alloc _).alloc _
  have h2 : Bk (shiW W) (W.heap.size + 1 + 1) 3 #[.int .i64 2] := by
    have := Bk.new ((W.alloc (.cells #[.int .i64 0] 3)).alloc (.cells #[.int .i64 1] 3)) 3 #[.int .i64 2]
    rw [World.size_alloc, World.size_alloc] at this
    exact this.alloc _
  have h3 : Bk (shiW W) (W.heap.size + 1 + 1 + 1) 64 #[.slice (some ⟨W.heap.size, 0, none⟩) 1 1, .int .i64 1, .slice (some ⟨W.heap.size + 1, 0, none⟩) 1 1, .int .i64 (-1), .slice (some ⟨W.heap.size + 1 + 1, 0, none⟩) 1 1, .int .i64 5] := by
    have := Bk.new (((W.alloc (.cells #[.int .i64 0] 3)).alloc (.cells #[.int .i64 1] 3)).alloc (.cells #[.int .i64 2] 3)) 64 #[.slice (some ⟨W.heap.size, 0, none⟩) 1 1, .int .i64 1, .slice (some ⟨W.heap.size + 1, 0, none⟩) 1 1, .int .i64 (-1), .slice (some ⟨W.heap.size + 1 + 1, 0, none⟩) 1 1, .int .i64 5]
    rw [World.size_alloc, World.size_alloc, World.size_alloc] at this
    exact this
  intro i hi
  have hi3 : i < 3 := hi
  have hI : i = 0 ∨ i = 1 ∨ i = 2 := by omega
  have hm : (1 : Nat) ≤ maxLen := by unfold maxLen; decide
  refine ⟨_, 0, rfl, h3.lt, ?_, ?_, ?_, ?_⟩
  · rw [h3.cell]; rcases hI with rfl | rfl | rfl <;> rfl
  · rw [h3.cell]; rcases hI with rfl | rfl | rfl <;> rfl
  · rcases hI with rfl | rfl | rfl
    · exact pa_one h0 h0.lt
    · exact pa_one h1 h1.lt
    · exact pa_one h2 h2.lt
  · rcases hI with rfl | rfl | rfl <;> exact hm
set_option maxRecDepth 100000 in
set_option maxHeartbeats 8000000 in
theorem shown11_any (w : World) : Calls Try.prog 29 #[] w fun e w' => e = .returned (.bool true) ∧ Below w.heap.size w w' := by
  have HI := veil integer11_any
  have HB : Hid (Below w.heap.size w w) := Below.refl _ _
  go_enter Try.func29, Try.ntmps29
  go_upto_region 1 with fail
  go_upto_region 2 with (first
    | (go_at_call 50; refine (unveil HI _ _).mono ?_; rintro e w1 ⟨rfl, hb1⟩; have HB := veil ((unveil HB).trans (hb1.mono (unveil HB).size)); clear hb1))
  have HT : Hid (TyB ((w1.alloc (.cells shiC 45)).alloc (.cells (shiT w1.heap.size).cs 25)) (w1.heap.size + 1) (shiT w1.heap.size)) := by
    have := TyB.new (w1.alloc (.cells shiC 45)) (shiT w1.heap.size)
    rw [World.size_alloc] at this
    exact this
  have HR : Hid (Bk ((w1.alloc (.cells shiC 45)).alloc (.cells (shiT w1.heap.size).cs 25)) w1.heap.size 45 shiC) := (Bk.new w1 _ _).alloc _
  have HBE : Hid (Below w.heap.size w ((w1.alloc (.cells shiC 45)).alloc (.cells (shiT w1.heap.size).cs 25))) := ((unveil HB).alloc (unveil HB).size _).alloc (by have := (unveil HB).size; simp; omega) _
  have hcs : (shiT w1.heap.size).cs = #[.int .i64 4, .int .i64 0, .int .i64 0, .slice none 0 0, .slice (some ⟨w1.heap.size, 0, none⟩) 3 3, .bool false, .int .i64 0] := rfl
  rw [hcs] at HT HR HBE
  unfold shiC at HT HR HBE
  generalize w1.heap.size = g at *
  clear hcs
  generalize ((w1.alloc (.cells _ 45)).alloc (.cells _ 25)) = W0 at *
  have HM : Hid (Calls Try.prog 32 #[(shiT g).v, .slice (some ⟨W0.heap.size + 1 + 1 + 1, 0, none⟩) 3 3] (shiW W0) fun e w' => e = .returned (.tuple #[.string ⟨#[1, 95, 0, 0]⟩, .int .i64 0, .int .i64 0]) ∧ Below (shiW W0).heap.size (shiW W0) w') := by
    have := Make_any (shiT g) (some ⟨W0.heap.size + 1 + 1 + 1, 0, none⟩) 3 (shiS W0.heap.size) (shiW W0) (((shi_in (unveil HR)).below (shiW_be W0)).mono (shiW_be W0).size) (shiW_se W0) (by show 3 ≤ 1000; omega)
    rw [shi_mk] at this
    exact this
  have HG : Hid (∀ W2, Below (shiW W0).heap.size (shiW W0) W2 → ∀ W3, W3 = W2.alloc (.cells #[.int .i64 1] 3) → Calls Try.prog 34 #[(shiT g).v, .string ⟨#[1, 95, 0, 0]⟩, .slice (some ⟨W2.heap.size, 0, none⟩) 1 1] W3 fun e w' => e = .returned (.tuple #[.int .i64 (-1), .int .i64 0]) ∧ Below W0.heap.size W0 w') := fun W2 h2 W3 e => by
    subst e
    have hb0 : Below W0.heap.size W0 W2 := (shiW_be W0).trans (h2.mono (shiW_be W0).size)
    have hb3 : Below W0.heap.size W0 (W2.alloc (.cells #[.int .i64 1] 3)) := hb0.alloc hb0.size _
    have hk := Bk.new W2 3 #[.int .i64 1]
    have := Get_any (shiT g) ⟨#[1, 95, 0, 0]⟩ (some ⟨W2.heap.size, 0, none⟩) 1 [1] (W2.alloc (.cells #[.int .i64 1] 3)) (((shi_in (unveil HR)).below hb3).mono hb3.size) (pa_one hk hk.lt) (by show (1 : Nat) ≤ maxLen; unfold maxLen; decide)
    rw [shi_gt] at this
    refine this.mono ?_
    rintro e w' ⟨rfl, hb⟩
    exact ⟨rfl, hb3.trans (hb.mono hb3.size)⟩
  have hv : (shiT g).v = .agg #[.int .i64 4, .int .i64 0, .int .i64 0, .slice none 0 0, .slice (some ⟨g, 0, none⟩) 3 3, .bool false, .int .i64 0] := rfl
  rw [hv] at HM HG
  clear hv
  obtain ⟨y0, y1, y2, y3, y4, y5, y6⟩ := (unveil HT).seven
  simp only [shiT, ShT.sh, ShT.k, ShT.n, ShT.op, ShT.of, ShT.oc, ShT.fp, ShT.fs, ShT.fc, ShT.pk, ShT.al, List.length_cons, List.length_nil] at y0 y1 y2 y3 y4 y5 y6
  go_upto_region 3 with (go_at_call 32; refine (unveil HM).mono ?_; rintro e W2 ⟨rfl, hb2⟩; have HB2 := veil hb2; obtain ⟨z0, z1, z2, z3, z4, z5, z6⟩ := ((unveil HT).below ((shiW_be W0).trans (hb2.mono (shiW_be W0).size))).seven; simp only [shiT, ShT.sh, ShT.k, ShT.n, ShT.op, ShT.of, ShT.oc, ShT.fp, ShT.fs, ShT.fc, ShT.pk, ShT.al, List.length_cons, List.length_nil] at z0 z1 z2 z3 z4 z5 z6; clear hb2 y0 y1 y2 y3 y4 y5 y6)
  go_wp2_with (go_at_call 34; refine (unveil HG W2 (unveil HB2) _ rfl).mono ?_; rintro e W3 ⟨rfl, hb3⟩; have HB3 := veil hb3; clear hb3)
  go_ret
  exact ⟨by first | rfl | simp, (unveil HBE).trans ((unveil HB3).mono (unveil HBE).size)⟩
end Go.Proofs.Ytkiebejidpebdaa
