/-
  Package arith: numbers of two halves: times, negative, size, up, down, made.
-/
import Derived.Shelf.Bits.Mul64
import Derived.Shelf.Lay
import Derived.Ground.NamesProg
import Derived.Test.YtobfpdhfmbpidaaDoorEa
namespace Go.Proofs
open Go.Shelf
shelf_lay Lays.n264 Nm 264 at Tryd as Tryd.lays264
end Go.Proofs
namespace Go.Proofs.YtobfpdhfmbpidaaDoor
open Go Go.RowKit
set_option linter.unusedVariables false
set_option linter.unusedSimpArgs false

theorem mul64_any (x y : Int) (hx : 0 ≤ x) (hy : 0 ≤ y) (hx' : x < 18446744073709551616) (hy' : y < 18446744073709551616) (w : World) :
    Calls Tryd.prog 72 #[.int .u64 x, .int .u64 y] w fun e w' => e = .returned (.tuple #[.int .u64 (x * y / 18446744073709551616), .int .u64 (x * y % 18446744073709551616)]) ∧ w' = w := by
  obtain ⟨X, rfl⟩ := Int.eq_ofNat_of_zero_le hx
  obtain ⟨Y, rfl⟩ := Int.eq_ofNat_of_zero_le hy
  have h := Any.bits_Mul64 Tryd.lays264 X Y (by omega) (by omega) w
  have e1 : ((X * Y / 18446744073709551616 : Nat) : Int) = (X : Int) * Y / 18446744073709551616 := by rw [Int.natCast_ediv, Int.natCast_mul]; rfl
  have e2 : ((X * Y % 18446744073709551616 : Nat) : Int) = (X : Int) * Y % 18446744073709551616 := by rw [Int.natCast_emod, Int.natCast_mul]; rfl
  rw [e1, e2] at h
  exact h
theorem split_mulI (a l b m K : Int) : (a * K + l) * (b * K + m) = (a * b * K + a * m + l * b) * K + l * m := by
  simp only [Int.add_mul, Int.mul_add]
  rw [show a * K * (b * K) = a * b * K * K by ac_rfl, show a * K * m = a * m * K by ac_rfl, show l * (b * K) = l * b * K by ac_rfl]
  omega
theorem times_hi (x y : Int) : ((x % 18446744073709551616 * (y % 18446744073709551616) / 18446744073709551616 + x / 18446744073709551616 % 18446744073709551616 * (y % 18446744073709551616)) % 18446744073709551616 + x % 18446744073709551616 * (y / 18446744073709551616 % 18446744073709551616)) % 18446744073709551616 = x * y / 18446744073709551616 % 18446744073709551616 := by
  have ex : x = x / 18446744073709551616 * 18446744073709551616 + x % 18446744073709551616 := by omega
  have ey : y = y / 18446744073709551616 * 18446744073709551616 + y % 18446744073709551616 := by omega
  generalize x / 18446744073709551616 = a at *
  generalize hl : x % 18446744073709551616 = l at *
  generalize y / 18446744073709551616 = b at *
  generalize hm : y % 18446744073709551616 = m at *
  have e : x * y = (a * b * 18446744073709551616 + a * m + l * b) * 18446744073709551616 + l * m := by rw [ex, ey]; exact split_mulI a l b m 18446744073709551616
  rw [e]
  have e2 : ((a * b * 18446744073709551616 + a * m + l * b) * 18446744073709551616 + l * m) / 18446744073709551616 = a * b * 18446744073709551616 + a * m + l * b + l * m / 18446744073709551616 := by
    generalize a * b * 18446744073709551616 + a * m + l * b = u
    generalize l * m = v
    omega
  rw [e2]
  have e3 : (a % 18446744073709551616 * m) % 18446744073709551616 = (a * m) % 18446744073709551616 := by rw [Int.mul_emod, Int.emod_emod_of_dvd a (Int.dvd_refl _), ← Int.mul_emod]
  have e4 : (l * (b % 18446744073709551616)) % 18446744073709551616 = (l * b) % 18446744073709551616 := by rw [Int.mul_emod, Int.emod_emod_of_dvd b (Int.dvd_refl _), ← Int.mul_emod]
  generalize a % 18446744073709551616 * m = p at *
  generalize l * (b % 18446744073709551616) = q at *
  generalize a * m = r at *
  generalize l * b = s at *
  generalize l * m / 18446744073709551616 = t at *
  generalize a * b = u at *
  omega
theorem times_lo (x y : Int) : x % 18446744073709551616 * (y % 18446744073709551616) % 18446744073709551616 = x * y % 18446744073709551616 := (Int.mul_emod x y 18446744073709551616).symm
set_option maxRecDepth 100000 in
set_option maxHeartbeats 1000000 in
theorem timesW_any (x y : Int) (w : World) : Calls Tryd.prog 60 #[W128 x, W128 y] w fun e w' => e = .returned (W128 (x * y)) ∧ Below w.heap.size w w' := by
  have HM := veil (fun W => mul64_any (x % 18446744073709551616) (y % 18446744073709551616) (by omega) (by omega) (by omega) (by omega) W)
  have E1 := veil (times_hi x y)
  have E2 := veil (times_lo x y)
  unfold W128 wv
  generalize x / 18446744073709551616 % 18446744073709551616 = h at *
  generalize x % 18446744073709551616 = l at *
  generalize y / 18446744073709551616 % 18446744073709551616 = h' at *
  generalize y % 18446744073709551616 = l' at *
  generalize x * y / 18446744073709551616 % 18446744073709551616 = R at *
  generalize x * y % 18446744073709551616 = S at *
  have e2 := unveil E2
  rw [e2] at HM
  generalize l * l' / 18446744073709551616 = T at *
  clear e2 E2
  go_enter Tryd.func60, Tryd.ntmps60
  go_wp2_with (go_at_call 72; refine (unveil HM _).mono ?_; rintro e w' ⟨rfl, hw'⟩; obtain rfl := hw'.symm)
  refine bodyPost_ret (res_w (f := Tryd.f60) rfl rfl (heap_new3 w _ _ _) rfl) rfl ⟨?_, below_new3 w _ _ _⟩
  have e1 := unveil E1
  simp only [IntKind.wrap_u64, Int.add_emod, Int.mul_emod, Int.emod_emod_of_dvd _ (Int.dvd_refl _)] at e1 ⊢
  rw [e1]
set_option maxRecDepth 100000 in
set_option maxHeartbeats 1000000 in
theorem negW_any (x : Int) (w : World) : Calls Tryd.prog 67 #[W128 x] w fun e w' => e = .returned (W128 (-x)) ∧ Below w.heap.size w w' := by
  have HM := veil (fun W => minusW_any 0 x W)
  have e0 : W128 0 = .agg #[.int .u64 0, .int .u64 0] := rfl
  rw [e0, show 0 - x = -x by omega] at HM
  clear e0
  unfold W128 wv at *
  generalize x / 18446744073709551616 % 18446744073709551616 = h at *
  generalize x % 18446744073709551616 = l at *
  generalize -x / 18446744073709551616 % 18446744073709551616 = rh at *
  generalize -x % 18446744073709551616 = rl at *
  have HQ : Hid (WB ((w.alloc (.cells #[.int .u64 h, .int .u64 l] 48)).alloc (.cells #[.int .u64 0, .int .u64 0] 48)) (w.heap.size + 1) 0 0) := heap_new2 w _ _
  have HB := veil (below_new2 w (.cells #[.int .u64 h, .int .u64 l] 48) (.cells #[.int .u64 0, .int .u64 0] 48))
  have HZ : Hid (((w.alloc (.cells #[.int .u64 h, .int .u64 l] 48)).alloc (.cells #[.int .u64 0, .int .u64 0] 48)).heap.size = w.heap.size + 2) := by show _ = _; simp
  go_enter Tryd.func67, Tryd.ntmps67
  go_wp2_with fail
  refine (unveil HM _).mono ?_
  rintro e W ⟨rfl, hb⟩
  have hz := unveil HZ
  have hq := (unveil HQ).below hb (by omega)
  obtain ⟨c0, c1⟩ := hq.two
  have f0 := hq.frozen 0
  have f1 := hq.frozen 1
  have HQ2 := veil hq
  have HBB := veil ((unveil HB).trans (hb.mono (by omega)))
  clear hq hz hb HZ HQ HB
  go_wp2
  refine bodyPost_ret (res_w (f := Tryd.f67) rfl rfl ((unveil HQ2).put _ _) rfl) rfl ⟨rfl, below_putW (unveil HBB) (by omega) _ _⟩
end Go.Proofs.YtobfpdhfmbpidaaDoor
