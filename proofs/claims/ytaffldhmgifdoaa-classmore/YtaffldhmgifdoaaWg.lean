/-
  Package shape: Same.
-/
import Derived.Test.YtaffldhmgifdoaaWf
namespace Go.Proofs.Ytaffldhmgifdoaa
open Go Go.RowKit Go.Shelf
set_option linter.unusedVariables false
set_option linter.unusedSimpArgs false

theorem tyB_new2 (w : World) (a b : ShT) : ∀ W, Below ((w.alloc (.cells a.cs 25)).alloc (.cells b.cs 25)).heap.size ((w.alloc (.cells a.cs 25)).alloc (.cells b.cs 25)) W → TyB W w.heap.size a ∧ TyB W (w.heap.size + 1) b ∧ Below w.heap.size w W := fun W h => by
  have h1 := TyB.new (w.alloc (.cells a.cs 25)) b
  rw [World.size_alloc] at h1
  exact ⟨((TyB.new w a).alloc _).below h, h1.below h, (below_new2 w _ _).trans (h.mono (by simp; omega))⟩
set_option maxRecDepth 100000 in
set_option maxHeartbeats 8000000 in
theorem same_step (d : Nat) (hS : SamC 31 d) : SamC 31 (d + 1) := by
  intro a b w hd ha hb la lb
  have HQ : Hid (∀ W, Below w.heap.size w W → Calls Try.prog 59 #[.slice a.op a.of.length a.oc, .slice b.op b.of.length b.oc, .func (.func 31) #[] #[]] W fun e w' => e = .returned (.bool (all2 (samM d) a.of b.of)) ∧ Below W.heap.size W w') := fun W h =>
    equalTypes_any d hS a b hd W ((ha.below h).mono h.size) ((hb.below h).mono h.size) la lb
  have HP : Hid (∀ W, Below w.heap.size w W → Calls Try.prog 60 #[.slice a.fp a.fs.length a.fc, .slice b.fp b.fs.length b.fc, .func (.func 61) #[] #[]] W fun e w' => e = .returned (.bool (all2 (sfM d) a.fs b.fs)) ∧ Below W.heap.size W w') := fun W h =>
    equalFields_any d hS a b hd W ((ha.below h).mono h.size) ((hb.below h).mono h.size) la lb
  have HX := veil (tyB_new2 w a b)
  have hsm : samM (d + 1) a b = (hdM a b && all2 (samM d) a.of b.of && all2 (sfM d) a.fs b.fs) := rfl
  rw [hsm]
  clear hS hd ha hb la lb hsm
  obtain ⟨HD, HHD⟩ : ∃ HD, Hid (hdM a b = HD) := ⟨_, rfl⟩
  rw [unveil HHD]
  generalize all2 (samM d) a.of b.of = Q1 at *
  generalize all2 (sfM d) a.fs b.fs = Q2 at *
  unfold hdM at HHD
  have HW0 := veil (unveil HX _ (Below.refl _ _))
  unfold ShT.v ShT.cs at *
  go_enter Try.func31, Try.ntmps31
  go_upto_region 1 with fail
  generalize ((w.alloc (.cells #[.int .i64 a.sh, .int .i64 a.k, .int .i64 a.n, .slice a.op a.of.length a.oc, .slice a.fp a.fs.length a.fc, .bool a.pk, .int .i64 a.al] 25)).alloc (.cells #[.int .i64 b.sh, .int .i64 b.k, .int .i64 b.n, .slice b.op b.of.length b.oc, .slice b.fp b.fs.length b.fc, .bool b.pk, .int .i64 b.al] 25)) = W0 at HW0 ⊢
  obtain ⟨y0, y1, y2, y3, y4, y5, y6⟩ := (unveil HW0).1.seven
  obtain ⟨z0, z1, z2, z3, z4, z5, z6⟩ := (unveil HW0).2.1.seven
  have XB := veil (unveil HW0).2.2
  go_cut [37] (fun c wx => c = .bool (!HD) ∧ wx = W0)
  case first =>
    clear HQ HP HX HW0 XB
    generalize a.pk = p1 at *
    generalize b.pk = p2 at *
    cases h1 : a.sh != b.sh
    · cases h2 : a.k != b.k
      · cases h3 : a.n != b.n
        · cases p1 <;> cases p2
          all_goals
            go_wp2_with fail
            go_meet
            case rel => exact ⟨by rw [← unveil HHD]; clear HHD; simp only [bne] at *; simp_all, rfl⟩
        · go_wp2_with fail
          go_meet
          case rel => exact ⟨by rw [← unveil HHD]; clear HHD; simp only [bne] at *; simp_all, rfl⟩
      · go_wp2_with fail
        go_meet
        case rel => exact ⟨by rw [← unveil HHD]; clear HHD; simp only [bne] at *; simp_all, rfl⟩
    · go_wp2_with fail
      go_meet
      case rel => exact ⟨by rw [← unveil HHD]; clear HHD; simp only [bne] at *; simp_all, rfl⟩
  case rest =>
    obtain ⟨rfl, rfl⟩ := hcut
    cases HD
    · go_wp2_with fail
      go_ret
      exact ⟨by simp, unveil XB⟩
    · cases Q1
      all_goals
        go_wp2_with (first
          | (go_at_call 59; refine (unveil HQ _ (unveil XB)).mono ?_; rintro e w1 ⟨rfl, hb1⟩; have XB1 := veil ((unveil XB).trans (hb1.mono (unveil XB).size)); obtain ⟨x0, x1, x2, x3, x4, x5, x6⟩ := ((unveil HW0).1.below hb1).seven; obtain ⟨v0, v1, v2, v3, v4, v5, v6⟩ := ((unveil HW0).2.1.below hb1).seven; clear hb1)
          | (go_at_call 60; refine (unveil HP _ (unveil XB1)).mono ?_; rintro e w2 ⟨rfl, hb2⟩; have XB2 := veil ((unveil XB1).trans (hb2.mono (unveil XB1).size)); clear hb2))
        go_ret
        exact ⟨by simp, by first | exact unveil XB2 | exact unveil XB1⟩
theorem same_any : ∀ d, SamC 31 d
  | 0 => fun a b w hd => by omega
  | d + 1 => same_step d (same_any d)
end Go.Proofs.Ytaffldhmgifdoaa
