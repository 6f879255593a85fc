/-
  Package burinlaw12: shown.
-/
import Derived.Test.YtaffldhmgifdoaaIo
namespace Go.Proofs.Ytaffldhmgifdoaa
open Go Go.RowKit Go.Shelf
attribute [local go_sem] Oper.semAt_some
set_option linter.unusedVariables false
set_option linter.unusedSimpArgs false

theorem em_same (d : Nat) : samM (d + 1) emT emT = true := by rfl
/-- The arguments of shown. -/
def shaL (g c : Nat) : List ShT := [intT 5, intT 5, intT 5, intT 5, intT 5, loT g c, intT 5]
def shaP : List Lc := [⟨0, 0, 0, 0⟩, ⟨1, 0, 1, 0⟩, ⟨2, 0, 2, 0⟩, ⟨3, 0, 3, 0⟩, ⟨4, 0, 4, 0⟩, ⟨5, 0, -1, 0⟩, ⟨5, 1, -1, 8⟩, ⟨6, 0, 5, 0⟩]
theorem sha_pas (g c : Nat) : pasM true (shaL g c) emT = ((shaP, 16), 0) := by kernel_rfl
def tyC (t : ShT) : List Value := t.cs.toList
def shaC (g c : Nat) : Array Value := ((shaL g c).flatMap tyC).toArray
theorem sha_ty {W : World} {b g c B : Nat} {T : TypeId} (h : Bk W b T (shaC g c)) (hb : b < B) (hl : (loT g c).In B W) : TyLs B W (some ⟨b, 0, none⟩) (shaL g c) := fun i hi => by
  have hi7 : i < 7 := hi
  refine ⟨b, 0, rfl, hb, fun j hj => ?_, ?_⟩
  · rw [h.cell, Nat.zero_add]
    have hI : i = 0 ∨ i = 1 ∨ i = 2 ∨ i = 3 ∨ i = 4 ∨ i = 5 ∨ i = 6 := by omega
    have hJ : j = 0 ∨ j = 1 ∨ j = 2 ∨ j = 3 ∨ j = 4 ∨ j = 5 ∨ j = 6 := by omega
    rcases hI with rfl | rfl | rfl | rfl | rfl | rfl | rfl <;> rcases hJ with rfl | rfl | rfl | rfl | rfl | rfl | rfl <;> rfl
  · have hI : i = 0 ∨ i = 1 ∨ i = 2 ∨ i = 3 ∨ i = 4 ∨ i = 5 ∨ i = 6 := by omega
    rcases hI with rfl | rfl | rfl | rfl | rfl | rfl | rfl
    · exact intT_in _ _ _
    · exact intT_in _ _ _
    · exact intT_in _ _ _
    · exact intT_in _ _ _
    · exact intT_in _ _ _
    · exact hl
    · exact intT_in _ _ _
set_option maxRecDepth 100000 in
set_option maxHeartbeats 20000000 in
theorem shown12_any (w : World) : Calls Try.prog 44 #[] w fun e w' => e = .returned (.bool true) ∧ Below w.heap.size w w' := by
  have HL := veil longs_any
  have HPA : Hid (∀ W g c, (loT g c).In W.heap.size W → Calls Try.prog 48 #[.slice (some ⟨W.heap.size, 0, none⟩) 7 7, emT.v] (W.alloc (.cells (shaC g c) 25)) (PasP (W.alloc (.cells (shaC g c) 25)) ((shaP, 16), 0))) := fun W g c h => by
    have hb := new1_below W (.cells (shaC g c) 25)
    have hk := Bk.new W 25 (shaC g c)
    have := Pass_any (shaL g c) (some ⟨W.heap.size, 0, none⟩) 7 emT (W.alloc (.cells (shaC g c) 25)) (by show 7 ≤ maxLen; unfold maxLen; decide) (sha_ty hk hk.lt ((h.below hb).mono hb.size)) (emT_in _ _) emT_len
    rw [em_same, sha_pas] at this
    exact this
  have hev : emT.v = .agg #[.int .i64 0, .int .i64 0, .int .i64 0, .slice none 0 0, .slice none 0 0, .bool false, .int .i64 0] := rfl
  rw [hev] at HPA
  clear hev
  have HB0 : Hid (Bk (w.alloc (.cells #[.int .i64 1, .int .i64 5, .int .i64 0, .slice none 0 0, .slice none 0 0, .bool false, .int .i64 0] 25)) w.heap.size 25 #[.int .i64 1, .int .i64 5, .int .i64 0, .slice none 0 0, .slice none 0 0, .bool false, .int .i64 0]) := Bk.new w _ _
  have HW0 : Hid (Below w.heap.size w (w.alloc (.cells #[.int .i64 1, .int .i64 5, .int .i64 0, .slice none 0 0, .slice none 0 0, .bool false, .int .i64 0] 25))) := new1_below _ _
  go_enter Try.func44, Try.ntmps44
  go_upto_region 2 with fail
  generalize (w.alloc (.cells #[.int .i64 1, .int .i64 5, .int .i64 0, .slice none 0 0, .slice none 0 0, .bool false, .int .i64 0] 25)) = W0 at *
  have HCC : Hid (∀ W, Hid (Below W0.heap.size W0 W) → W.cell? ⟨w.heap.size, 0, none⟩ = some (.int .i64 1) ∧ W.cell? ⟨w.heap.size, 1, none⟩ = some (.int .i64 5) ∧ W.cell? ⟨w.heap.size, 2, none⟩ = some (.int .i64 0) ∧ W.cell? ⟨w.heap.size, 3, none⟩ = some (.slice none 0 0) ∧ W.cell? ⟨w.heap.size, 4, none⟩ = some (.slice none 0 0) ∧ W.cell? ⟨w.heap.size, 5, none⟩ = some (.bool false) ∧ W.cell? ⟨w.heap.size, 6, none⟩ = some (.int .i64 0)) := fun W h => by
    have k := (unveil HB0).below (unveil h)
    exact ⟨k.cell 0, k.cell 1, k.cell 2, k.cell 3, k.cell 4, k.cell 5, k.cell 6⟩
  refine wp_region_noPanic (wpIn_wide.1 (wpIn_region_mix (ro := none) (n := 0) (fun w' => Hid (Below W0.heap.size W0 w'))
    [(0, true), (1, true), (2, true), (3, true), (4, true), (6, true), (8, true), (5, false), (7, false), (9, false), (10, true), (11, true), (12, true), (13, true), (14, true), (15, true)]
    16 hmixP (by kernel_rfl) (by kernel_rfl) (by kernel_rfl) (by kernel_rfl) (by kernel_rfl) (by kernel_rfl) (fun _ _ _ _ h => h) (veil (Below.refl _ W0).drew) ?_))
  iterate 7 (
    refine mix_pure _ rfl _ (.inl ⟨rfl, fun W hS => (by obtain ⟨x0, x1, x2, x3, x4, x5, x6⟩ := unveil HCC W hS; go_simp; rfl)⟩) (fun B hB => ?_)
    simp only [Act.put, List.setIfInBounds_toArray, List.set_cons_zero, List.set_cons_succ] at hB
    subst hB)
  refine mix_sole _ rfl (fun K hK => ?_)
  go_simp
  refine ⟨trivial, rfl, (callsIn_wide.2 (unveil HL _)).mono ?_⟩
  rintro e W5 ⟨g, c, rfl, hin5, h5⟩
  have hB5 : Below W0.heap.size W0 W5 := (Below.refl _ W0).drew.trans h5
  refine hK _ _ (veil hB5) ?_
  clear hK K h5
  refine mix_sole _ rfl (fun K hK => ?_)
  have hlv : (loT g c).v = .agg #[.int .i64 4, .int .i64 0, .int .i64 0, .slice none 0 0, .slice (some ⟨g, 0, none⟩) 2 c, .bool false, .int .i64 0] := rfl
  rw [hlv]
  go_simp
  refine hK _ _ (veil (hB5.alloc hB5.size _)) ?_
  clear hK K
  refine mix_sole _ rfl (fun K hK => ?_)
  go_simp
  refine ⟨trivial, rfl, (callsIn_wide.2 (unveil HPA W5 g c hin5)).mono ?_⟩
  rintro e W7 ⟨v, rfl, hown, h7⟩
  obtain ⟨gr, cr, rfl, _, hgr, _, hce⟩ := row_cells (n := 7) hown
  have hB7 : Below W0.heap.size W0 W7 := (hB5.alloc hB5.size _).trans (h7.mono (by have := hB5.size; simp; omega))
  have e5 := hce 22 (.int .i64 (-1)) rfl
  have e6 := hce 27 (.int .i64 8) rfl
  have e7 := hce 30 (.int .i64 5) rfl
  refine hK _ _ (veil hB7) ?_
  clear hK K h7 hown hce
  iterate 6 (
    refine mix_pure _ rfl _ (.inl ⟨rfl, fun W hS => (by go_simp; rfl)⟩) (fun B hB => ?_)
    simp only [List.getElem_toArray, List.getElem_cons_zero, List.getElem_cons_succ, Act.put, List.setIfInBounds_toArray, List.set_cons_zero, List.set_cons_succ] at hB
    subst hB)
  refine mix_nil ?_
  refine listIn_last rfl (fun K hK => ?_)
  go_simp
  refine hK _ _ ?_
  clear hK K
  go_wp2_with fail
  go_ret
  exact ⟨by first | rfl | simp, (unveil HW0).trans (hB7.mono (unveil HW0).size)⟩
end Go.Proofs.Ytaffldhmgifdoaa
