/-
  Package arith: numbers of two halves: in their box; truth, below, worth.
-/
import Derived.Test.YtobfpdhfmbpidaaDoorHc
import Derived.Laws.StructEq
import Derived.Shelf.Spec.BitsCarry
import Derived.BigRegion
import Derived.Deep.RegionWith
import Derived.Deep.DeepCutAuto
namespace Go.Proofs.YtobfpdhfmbpidaaDoor
open Go Go.RowKit
set_option linter.unusedVariables false
set_option linter.unusedSimpArgs false

/-- A number of two halves. -/
def wv (h l : Int) : Value := .agg #[.int .u64 h, .int .u64 l]
/-- .. in its box. -/
def WB (W : World) (M : Nat) (h l : Int) : Prop := W.heap[M]? = some (.cells #[.int .u64 h, .int .u64 l] 48 (0, 0))
theorem WB.lt {W : World} {M : Nat} {b u : Int} (h : WB W M b u) : M < W.heap.size := (Array.getElem?_eq_some_iff.1 h).1
theorem WB.below {W W' : World} {n M : Nat} {b u : Int} (h : WB W M b u) (hb : Below n W W') (hn : M < n) : WB W' M b u := (hb.block M hn).trans h
theorem WB.two {W : World} {M : Nat} {b u : Int} (h : WB W M b u) : W.cell? ⟨M, 0, none⟩ = some (.int .u64 b) ∧ W.cell? ⟨M, 1, none⟩ = some (.int .u64 u) := by
  refine ⟨?_, ?_⟩ <;> (rw [World.cell?, show W.heap[M]? = _ from h]; rfl)
theorem WB.frozen {W : World} {M : Nat} {b u : Int} (h : WB W M b u) (i : Nat) : W.frozen? ⟨M, i, none⟩ = false := by
  simp [World.frozen?, show W.heap[M]? = _ from h]
theorem WB.set0 {W : World} {M : Nat} {b u : Int} (h : WB W M b u) (v : Int) : WB (W.setCell ⟨M, 0, none⟩ (.int .u64 v)) M v u := by
  obtain ⟨hlt, hk⟩ := Array.getElem?_eq_some_iff.1 h
  show (W.heap.modify M _)[M]? = _
  rw [Array.getElem?_eq_getElem (by rw [Array.size_modify]; exact hlt), Array.getElem_modify_self, hk]
  rfl
theorem WB.set1 {W : World} {M : Nat} {b u : Int} (h : WB W M b u) (v : Int) : WB (W.setCell ⟨M, 1, none⟩ (.int .u64 v)) M b v := by
  obtain ⟨hlt, hk⟩ := Array.getElem?_eq_some_iff.1 h
  show (W.heap.modify M _)[M]? = _
  rw [Array.getElem?_eq_getElem (by rw [Array.size_modify]; exact hlt), Array.getElem_modify_self, hk]
  rfl
theorem WB.setCell {W : World} {M b' i : Nat} {b u : Int} (h : WB W M b u) (hne : M ≠ b') (v : Value) : WB (W.setCell ⟨b', i, none⟩ v) M b u := (Below.heap_setCell W ⟨b', i, none⟩ v M hne).trans h
def putW (W : World) (M : Nat) (b u : Int) : World := (W.setCell ⟨M, 0, none⟩ (.int .u64 b)).setCell ⟨M, 1, none⟩ (.int .u64 u)
theorem WB.put {W : World} {M : Nat} {b u : Int} (h : WB W M b u) (b' u' : Int) : WB (putW W M b' u') M b' u' := (h.set0 _).set1 _
theorem below_putW {B M : Nat} {w W : World} (h : Below B w W) (hM : B ≤ M) (b u : Int) : Below B w (putW W M b u) :=
  (h.setCell (p := ⟨M, 0, none⟩) hM _).setCell (p := ⟨M, 1, none⟩) hM _
theorem res_w {f : Func} {k : Nat} {tmps : Array Value} {w : World} {R : Nat} {cs : Array Value} (hr : f.results = #[.cell k 48]) (hp : tmps.getD k undef = .pointer (some ⟨R, 0, none⟩)) (hg : w.heap[R]? = some (.cells cs 48 (0, 0))) (hz : cs.size = 2) :
    (results f tmps).run Tryd.prog w = .ok (.agg cs) w := by
  have hi : (Tryd.prog.info? 48).map (·.size) = some cs.size := by rw [hz]; kernel_rfl
  have hp' : tmps[k]?.getD undef = .pointer (some ⟨R, 0, none⟩) := by simpa using hp
  simp [results, hr, hp', asAddr, run_loadVar_row w R 48 48 cs (0, 0) _ hg Tryd.underlying48 rfl hi]
theorem heap_newW (w : World) (o : Obj) : (w.alloc o).heap[w.heap.size]? = some o := (MapKept.heap_alloc w _).1
theorem heap_new2 (w : World) (o o' : Obj) : ((w.alloc o).alloc o').heap[w.heap.size + 1]? = some o' := by
  have := heap_newW (w.alloc o) o'
  simpa using this
theorem heap_new3 (w : World) (o o' o'' : Obj) : (((w.alloc o).alloc o').alloc o'').heap[w.heap.size + 1 + 1]? = some o'' := by
  have := heap_newW ((w.alloc o).alloc o') o''
  simpa using this
theorem below_newW (w : World) (o : Obj) : Below w.heap.size w (w.alloc o) := (Below.refl _ w).alloc (Nat.le_refl _) o
theorem below_new2 (w : World) (o o' : Obj) : Below w.heap.size w ((w.alloc o).alloc o') := (below_newW w o).alloc (by simp) o'
theorem below_new3 (w : World) (o o' o'' : Obj) : Below w.heap.size w (((w.alloc o).alloc o').alloc o'') := (below_new2 w o o').alloc (by simp; omega) o''
theorem below_drewW {B : Nat} {w W : World} (h : Below B w W) (m : Nat) : Below B w (W.drewN m) := ⟨h.os, h.tape, h.output, h.size, h.block⟩
def tru (b : Bool) : Int := if b then 1 else 0
set_option maxRecDepth 100000 in
theorem truthW_any (b : Bool) (w : World) : Calls Tryd.prog 65 #[.bool b] w fun e w' => e = .returned (wv 0 (tru b)) ∧ Below w.heap.size w w' := by
  cases b
  · go_enter Tryd.func65, Tryd.ntmps65
    go_wp2
    refine bodyPost_ret (res_w (f := Tryd.f65) rfl rfl (heap_newW w _) rfl) rfl ⟨rfl, below_newW w _⟩
  · go_enter Tryd.func65, Tryd.ntmps65
    go_wp2
    refine bodyPost_ret (res_w (f := Tryd.f65) rfl rfl (heap_newW w _) rfl) rfl ⟨rfl, below_newW w _⟩
set_option maxRecDepth 100000 in
set_option maxHeartbeats 1000000 in
theorem belowH_any (h l h' l' : Int) (w : World) : Calls Tryd.prog 66 #[wv h l, wv h' l'] w fun e w' => e = .returned (.bool (if h != h' then decide (wrap64 h < wrap64 h') else decide (l < l'))) ∧ Below w.heap.size w w' := by
  unfold wv
  cases hq : h != h'
  · go_enter Tryd.func66, Tryd.ntmps66
    go_wp2
    go_ret
    exact ⟨by simp, below_new2 w _ _⟩
  · go_enter Tryd.func66, Tryd.ntmps66
    go_wp2
    go_ret
    exact ⟨by simp, below_new2 w _ _⟩
set_option maxRecDepth 100000 in
set_option maxHeartbeats 1000000 in
theorem worthH_any (v k : Int) (w : World) : Calls Tryd.prog 35 #[.int .i64 v, .int .i64 k] w fun e w' => e = .returned (wv (if unsM k then 0 else IntKind.u64.wrap (v / 9223372036854775808)) (IntKind.u64.wrap v)) ∧ Below w.heap.size w w' := by
  have HU := veil (Unsigned_any k)
  generalize unsM k = U at *
  cases U
  · go_enter Tryd.func35, Tryd.ntmps35
    go_wp2_with (go_at_call 50; refine (unveil HU _).mono ?_; rintro e w' ⟨rfl, hw'⟩; obtain rfl := hw'.symm)
    refine bodyPost_ret (res_w (f := Tryd.f35) rfl rfl (heap_newW w _) rfl) rfl ⟨?_, below_newW w _⟩
    simp [wv]
  · go_enter Tryd.func35, Tryd.ntmps35
    go_wp2_with (go_at_call 50; refine (unveil HU _).mono ?_; rintro e w' ⟨rfl, hw'⟩; obtain rfl := hw'.symm)
    refine bodyPost_ret (res_w (f := Tryd.f35) rfl rfl (heap_newW w _) rfl) rfl ⟨?_, below_newW w _⟩
    simp [wv]
theorem add64W (x y c : Int) (hx : 0 ≤ x) (hy : 0 ≤ y) (hc0 : 0 ≤ c) (hc : c ≤ 1) (w : World) :
    (callFunc 70 #[.int .u64 x, .int .u64 y, .int .u64 c]).run Tryd.prog w = .ok (.value (.tuple #[.int .u64 ((x + y + c) % 18446744073709551616), .int .u64 ((x + y + c) / 18446744073709551616)])) w := by
  rw [run_callFunc_extern Tryd.func70 (by kernel_rfl) (by kernel_rfl) (by kernel_rfl) (e := add64Entry) (by kernel_rfl), run_add64 x y c hx hy hc0 hc]
  rfl
theorem sub64W (x y c : Int) (hx : 0 ≤ x) (hy : 0 ≤ y) (hx1 : x < 18446744073709551616) (hy1 : y < 18446744073709551616) (hc0 : 0 ≤ c) (hc : c ≤ 1) (w : World) :
    (callFunc 71 #[.int .u64 x, .int .u64 y, .int .u64 c]).run Tryd.prog w = .ok (.value (.tuple #[.int .u64 ((x - y - c) % 18446744073709551616), .int .u64 (if x < y + c then 1 else 0)])) w := by
  obtain ⟨k, rfl⟩ := Int.eq_ofNat_of_zero_le hc0
  obtain ⟨X, rfl⟩ := Int.eq_ofNat_of_zero_le hx
  obtain ⟨Y, rfl⟩ := Int.eq_ofNat_of_zero_le hy
  rw [run_callFunc_extern Tryd.func71 (by kernel_rfl) (by kernel_rfl) (by kernel_rfl) (e := sub64Entry) (by kernel_rfl), run_sub64 X Y k (by omega)]
  simp only [Result.andThen]
  have e1 : (((X + 18446744073709551616 - Y - k) % 18446744073709551616 : Nat) : Int) = ((X : Int) - Y - k) % 18446744073709551616 := by omega
  have e2 : ((if X < Y + k then 1 else 0 : Nat) : Int) = (if (X : Int) < Y + k then 1 else 0) := by split <;> split <;> omega
  rw [e1, e2]
set_option maxRecDepth 100000 in
set_option maxHeartbeats 1000000 in
theorem plusH_any (h l h' l' : Int) (w : World) (hh : 0 ≤ h) (hl : 0 ≤ l) (hh' : 0 ≤ h') (hl' : 0 ≤ l') (hl2 : l < 18446744073709551616) (hl2' : l' < 18446744073709551616) : Calls Tryd.prog 58 #[wv h l, wv h' l'] w fun e w' => e = .returned (wv ((h + h' + (l + l') / 18446744073709551616) % 18446744073709551616) ((l + l') % 18446744073709551616)) ∧ Below w.heap.size w w' := by
  have A1 := fun w => add64W l l' 0 hl hl' (by decide) (by decide) w
  rw [Int.add_zero] at A1
  obtain ⟨C, hC⟩ : ∃ C, (l + l') / 18446744073709551616 = C := ⟨_, rfl⟩
  obtain ⟨S, hS⟩ : ∃ S, (l + l') % 18446744073709551616 = S := ⟨_, rfl⟩
  have A2 := fun w => add64W h h' C hh hh' (by omega) (by omega) w
  obtain ⟨D, hD⟩ : ∃ D, (h + h' + C) % 18446744073709551616 = D := ⟨_, rfl⟩
  obtain ⟨F, hF⟩ : ∃ F, (h + h' + C) / 18446744073709551616 = F := ⟨_, rfl⟩
  simp only [hC, hS] at A1
  simp only [hD, hF] at A2
  rw [hC, hS, hD]
  clear hC hS hD hF hh hl hh' hl' hl2 hl2'
  unfold wv
  go_enter Tryd.func58, Tryd.ntmps58
  go_wp2
  refine bodyPost_ret (res_w (f := Tryd.f58) rfl rfl (heap_new3 w _ _ _) rfl) rfl ⟨?_, below_new3 w _ _ _⟩
  rfl
set_option maxRecDepth 100000 in
set_option maxHeartbeats 1000000 in
theorem minusH_any (h l h' l' : Int) (w : World) (hh : 0 ≤ h) (hl : 0 ≤ l) (hh' : 0 ≤ h') (hl' : 0 ≤ l') (hl2 : l < 18446744073709551616) (hl2' : l' < 18446744073709551616) (hh2 : h < 18446744073709551616) (hh2' : h' < 18446744073709551616) : Calls Tryd.prog 59 #[wv h l, wv h' l'] w fun e w' => e = .returned (wv ((h - h' - (if l < l' then 1 else 0)) % 18446744073709551616) ((l - l') % 18446744073709551616)) ∧ Below w.heap.size w w' := by
  have A1 := fun w => sub64W l l' 0 hl hl' hl2 hl2' (by decide) (by decide) w
  rw [Int.add_zero, Int.sub_zero] at A1
  obtain ⟨C, hC⟩ : ∃ C, (if l < l' then 1 else 0 : Int) = C := ⟨_, rfl⟩
  obtain ⟨S, hS⟩ : ∃ S, (l - l') % 18446744073709551616 = S := ⟨_, rfl⟩
  have c0 : 0 ≤ C ∧ C ≤ 1 := by rw [← hC]; split <;> decide
  have A2 := fun w => sub64W h h' C hh hh' hh2 hh2' c0.1 c0.2 w
  obtain ⟨D, hD⟩ : ∃ D, (h - h' - C) % 18446744073709551616 = D := ⟨_, rfl⟩
  obtain ⟨F, hF⟩ : ∃ F, (if h < h' + C then 1 else 0 : Int) = F := ⟨_, rfl⟩
  simp only [hC, hS] at A1
  simp only [hD, hF] at A2
  rw [hC, hS, hD]
  clear hC hS hD hF hh hl hh' hl' hl2 hl2' hh2 hh2' c0
  unfold wv
  go_enter Tryd.func59, Tryd.ntmps59
  go_wp2
  refine bodyPost_ret (res_w (f := Tryd.f59) rfl rfl (heap_new3 w _ _ _) rfl) rfl ⟨?_, below_new3 w _ _ _⟩
  rfl
/-- The number of two halves that stands for x, modulo 2 to the power 128. -/
def W128 (x : Int) : Value := wv ((x / 18446744073709551616) % 18446744073709551616) (x % 18446744073709551616)
theorem plusW_any (x y : Int) (w : World) : Calls Tryd.prog 58 #[W128 x, W128 y] w fun e w' => e = .returned (W128 (x + y)) ∧ Below w.heap.size w w' := by
  have h := plusH_any ((x / 18446744073709551616) % 18446744073709551616) (x % 18446744073709551616) ((y / 18446744073709551616) % 18446744073709551616) (y % 18446744073709551616) w (by omega) (by omega) (by omega) (by omega) (by omega) (by omega)
  have e : wv (((x / 18446744073709551616) % 18446744073709551616 + (y / 18446744073709551616) % 18446744073709551616 + ((x % 18446744073709551616) + (y % 18446744073709551616)) / 18446744073709551616) % 18446744073709551616) (((x % 18446744073709551616) + (y % 18446744073709551616)) % 18446744073709551616) = W128 (x + y) := by
    unfold W128
    congr 1 <;> omega
  rw [e] at h
  exact h
theorem minusW_any (x y : Int) (w : World) : Calls Tryd.prog 59 #[W128 x, W128 y] w fun e w' => e = .returned (W128 (x - y)) ∧ Below w.heap.size w w' := by
  have h := minusH_any ((x / 18446744073709551616) % 18446744073709551616) (x % 18446744073709551616) ((y / 18446744073709551616) % 18446744073709551616) (y % 18446744073709551616) w (by omega) (by omega) (by omega) (by omega) (by omega) (by omega) (by omega) (by omega)
  have e : wv (((x / 18446744073709551616) % 18446744073709551616 - (y / 18446744073709551616) % 18446744073709551616 - (if (x % 18446744073709551616) < (y % 18446744073709551616) then 1 else 0)) % 18446744073709551616) (((x % 18446744073709551616) - (y % 18446744073709551616)) % 18446744073709551616) = W128 (x - y) := by
    unfold W128
    congr 1
    · split <;> omega
    · omega
  rw [e] at h
  exact h
theorem belowW_any (x y : Int) (w : World) (hx : -170141183460469231731687303715884105728 ≤ x) (hx' : x < 170141183460469231731687303715884105728) (hy : -170141183460469231731687303715884105728 ≤ y) (hy' : y < 170141183460469231731687303715884105728) : Calls Tryd.prog 66 #[W128 x, W128 y] w fun e w' => e = .returned (.bool (decide (x < y))) ∧ Below w.heap.size w w' := by
  have h := belowH_any ((x / 18446744073709551616) % 18446744073709551616) (x % 18446744073709551616) ((y / 18446744073709551616) % 18446744073709551616) (y % 18446744073709551616) w
  have e : (if ((x / 18446744073709551616) % 18446744073709551616) != ((y / 18446744073709551616) % 18446744073709551616) then decide (wrap64 ((x / 18446744073709551616) % 18446744073709551616) < wrap64 ((y / 18446744073709551616) % 18446744073709551616)) else decide ((x % 18446744073709551616) < (y % 18446744073709551616))) = decide (x < y) := by
    unfold wrap64
    split
    · rename_i hq
      simp only [bne_iff_ne, ne_eq] at hq
      congr 1
      apply propext
      constructor <;> intro <;> omega
    · rename_i hq
      simp only [bne_iff_ne, ne_eq, Decidable.not_not] at hq
      congr 1
      apply propext
      constructor <;> intro <;> omega
  rw [e] at h
  exact h
end Go.Proofs.YtobfpdhfmbpidaaDoor
