/-
  burinlaw10.ShapeSame: its walk.
-/
import Derived.Test.YtgomlfaekfabpaaWh
import Derived.Test.YtgomlfaekfabpaaUp
namespace Go.Proofs.Ytgomlfaekfabpaa
open Go Go.RowKit Go.Shelf
set_option linter.unusedVariables false
set_option linter.unusedSimpArgs false

set_option maxRecDepth 100000 in
set_option maxHeartbeats 20000000 in
theorem same_walk (a b : ShT) (w : World) (ha : a.In w.heap.size w) (hb : b.In w.heap.size w) (la : a.Len) (lb : b.Len) :
    Calls Try.prog 6 #[a.v, b.v] w fun e w' => e = .returned (.bool true) ∧ Below w.heap.size w w' := by
  have HX := veil (tyB_new2 w a b)
  have HW0 := veil (unveil HX _ (Below.refl _ _))
  have HSH := veil shown_any
  have HP : Hid (∀ W, Below w.heap.size w W → Calls Try.prog 26 #[a.v, b.v] W fun e w' => e = .returned (.bool (samM (SizeOf.sizeOf a + 1) a b)) ∧ Below W.heap.size W w') := fun W h => same_any _ a b W (by omega) ((ha.below h).mono h.size) ((hb.below h).mono h.size) la lb
  have HQ : Hid (∀ W, Below w.heap.size w W → Calls Try.prog 27 #[a.v, b.v] W fun e w' => e = .returned (.bool (samM (SizeOf.sizeOf a + 1) a b)) ∧ Below W.heap.size W w') := fun W h => rsame_any _ a b W (by omega) ((ha.below h).mono h.size) ((hb.below h).mono h.size) la lb
  clear ha hb la lb
  generalize samM (SizeOf.sizeOf a + 1) a b = S at *
  unfold ShT.v ShT.cs at *
  go_enter Try.func6, Try.ntmps6
  go_upto_region 2 with (go_at_call 17; refine (unveil HSH _).mono ?_; rintro e W1 ⟨rfl, hb1⟩; have HW1 := veil (unveil HX W1 hb1); clear hb1)
  have HFW : Hid (∀ W : World, Below W1.heap.size W1 W → (W.cell? ⟨w.heap.size, 0, none⟩ = some (.int .i64 a.sh) ∧ W.cell? ⟨w.heap.size, 1, none⟩ = some (.int .i64 a.k) ∧ W.cell? ⟨w.heap.size, 2, none⟩ = some (.int .i64 a.n) ∧ W.cell? ⟨w.heap.size, 3, none⟩ = some (.slice a.op a.of.length a.oc) ∧
    W.cell? ⟨w.heap.size, 4, none⟩ = some (.slice a.fp a.fs.length a.fc) ∧ W.cell? ⟨w.heap.size, 5, none⟩ = some (.bool a.pk) ∧ W.cell? ⟨w.heap.size, 6, none⟩ = some (.int .i64 a.al)) ∧ (W.cell? ⟨w.heap.size + 1, 0, none⟩ = some (.int .i64 b.sh) ∧ W.cell? ⟨w.heap.size + 1, 1, none⟩ = some (.int .i64 b.k) ∧ W.cell? ⟨w.heap.size + 1, 2, none⟩ = some (.int .i64 b.n) ∧ W.cell? ⟨w.heap.size + 1, 3, none⟩ = some (.slice b.op b.of.length b.oc) ∧
    W.cell? ⟨w.heap.size + 1, 4, none⟩ = some (.slice b.fp b.fs.length b.fc) ∧ W.cell? ⟨w.heap.size + 1, 5, none⟩ = some (.bool b.pk) ∧ W.cell? ⟨w.heap.size + 1, 6, none⟩ = some (.int .i64 b.al))) := fun W h => ⟨((unveil HW1).1.below h).seven, ((unveil HW1).2.1.below h).seven⟩
  have HBW : Hid (∀ W, Below W1.heap.size W1 W → Below w.heap.size w W) := fun W h => (unveil HW1).2.2.trans (h.mono (unveil HW1).2.2.size)
  refine wp_region_noPanic (wpIn_wide.1 (wpIn_region_mix (ro := none) (n := 0) (fun w' => Hid (Below W1.heap.size W1 w'))
    [(0, true), (1, true), (2, true), (3, true), (5, true), (6, true), (4, false), (7, false), (8, true), (9, true)]
    10 hmixW (by kernel_rfl) (by kernel_rfl) (by kernel_rfl) (by kernel_rfl) (by kernel_rfl) (by kernel_rfl) (fun _ _ _ _ h => h) (Below.refl _ W1).drew ?_))
  iterate 6 (
    refine mix_pure _ rfl _ (.inl ⟨rfl, fun W hS => (by obtain ⟨⟨c0, c1, c2, c3, c4, c5, c6⟩, ⟨e0, e1, e2, e3, e4, e5, e6⟩⟩ := unveil HFW W (unveil hS); go_simp; rfl)⟩) (fun B hB => ?_)
    simp only [Act.put, List.setIfInBounds_toArray, List.set_cons_zero, List.set_cons_succ] at hB
    subst hB)
  refine mix_sole _ rfl (fun K hK => ?_)
  go_simp
  refine ⟨trivial, rfl, (callsIn_wide.2 (unveil HP _ (unveil HBW _ (Below.refl _ W1).drew))).mono ?_⟩
  rintro e W4 ⟨rfl, hb4⟩
  have hB4 : Below W1.heap.size W1 W4 := (Below.refl _ W1).drew.trans hb4
  refine hK _ _ hB4 ?_
  clear hK K hb4
  refine mix_sole _ rfl (fun K hK => ?_)
  go_simp
  refine ⟨trivial, rfl, (callsIn_wide.2 (unveil HQ _ (unveil HBW _ hB4))).mono ?_⟩
  rintro e W5 ⟨rfl, hb5⟩
  have hB5 : Below W1.heap.size W1 W5 := hB4.trans (hb5.mono hB4.size)
  have HB5 := veil (unveil HBW _ hB5)
  refine hK _ _ hB5 ?_
  clear hK K hb5 hB5 hB4
  refine mix_pure _ rfl (.bool true) (.inl ⟨rfl, fun W hS => ?_⟩) (fun B hB => ?_)
  · go_simp
  simp only [List.getElem_toArray, List.getElem_cons_zero, List.getElem_cons_succ, Act.put, List.setIfInBounds_toArray, List.set_cons_zero, List.set_cons_succ] at hB
  subst hB
  refine mix_pure _ rfl (.bool true) (.inl ⟨rfl, fun W hS => ?_⟩) (fun B hB => ?_)
  · go_simp
  simp only [List.getElem_toArray, List.getElem_cons_zero, List.getElem_cons_succ, Act.put, List.setIfInBounds_toArray, List.set_cons_zero, List.set_cons_succ] at hB
  subst hB
  refine mix_nil ?_
  refine listIn_last rfl (fun K hK => ?_)
  go_simp
  refine hK _ _ ?_
  clear hK K
  go_wp2
  go_ret
  exact ⟨rfl, unveil HB5⟩
end Go.Proofs.Ytgomlfaekfabpaa
