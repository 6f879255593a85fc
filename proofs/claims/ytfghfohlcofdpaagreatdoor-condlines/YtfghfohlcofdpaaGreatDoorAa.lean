/-
  Package cond: what a sign makes of its operands.
  Package cond: what a sign makes of its operands.
  Package cond: ordered, prefixed.
-/
import Derived.Test.YtfghfohlcofdpaaGreatDoorChecked
import Derived.WalkKit
import Derived.Below
import Derived.BigRegion
import Derived.RangeFuncRecord
import Derived.Deep.RegionWith
import Derived.Test.YtfghfohlcofdpaaGreatDoorNa
namespace Go.Proofs.YtfghfohlcofdpaaGreatDoor
open Go Go.RowKit
set_option linter.unusedVariables false
set_option linter.unusedSimpArgs false

/-- How a sign between two operands binds; 0: it is none. -/
def levM (s : List UInt8) : Int :=
  if s == [124, 124] then 2 else if s == [38, 38] then 3 else if s == [124] then 4 else if s == [94] then 5 else if s == [38] then 6
  else if s == [61, 61] then 7 else if s == [33, 61] then 7 else if s == [60] then 8 else if s == [62] then 8 else if s == [60, 61] then 8 else if s == [62, 61] then 8
  else if s == [60, 60] then 9 else if s == [62, 62] then 9 else if s == [43] then 10 else if s == [45] then 10 else if s == [42] then 11 else if s == [47] then 11 else if s == [37] then 11 else 0
set_option maxRecDepth 100000 in
set_option maxHeartbeats 8000000 in
theorem levelOf_any (s : List UInt8) (w : World) : Calls Tryz.prog 27 #[.string ⟨s.toArray⟩] w fun e w' => e = .returned (.int .i64 (levM s)) ∧ w' = w := by
  go_enter Tryz.func27, Tryz.ntmps27
  go_wp2
  all_goals go_ret
  all_goals (refine ⟨?_, rfl⟩; first | (simp [levM, *]; done) | (simp_all [levM]; done))

/-- A value: its bits, and whether it is unsigned. -/
structure Vl where
  b : Int
  u : Bool
  deriving DecidableEq
def Vl.v (x : Vl) : Value := .agg #[.int .u64 x.b, .bool x.u]
/-- A value in its box. -/
def VBox (W : World) (M : Nat) (b : Value) (u : Bool) : Prop := W.heap[M]? = some (.cells #[b, .bool u] 37 (0, 0))
theorem VBox.lt {W : World} {M : Nat} {b : Value} {u : Bool} (h : VBox W M b u) : M < W.heap.size := (Array.getElem?_eq_some_iff.1 h).1
theorem VBox.below {W W' : World} {n M : Nat} {b : Value} {u : Bool} (h : VBox W M b u) (hb : Below n W W') (hn : M < n) : VBox W' M b u := (hb.block M hn).trans h
theorem VBox.two {W : World} {M : Nat} {b : Value} {u : Bool} (h : VBox W M b u) : W.cell? ⟨M, 0, none⟩ = some b ∧ W.cell? ⟨M, 1, none⟩ = some (.bool u) := by
  refine ⟨?_, ?_⟩ <;> (rw [World.cell?, show W.heap[M]? = _ from h]; rfl)
theorem VBox.frozen {W : World} {M : Nat} {b : Value} {u : Bool} (h : VBox W M b u) (i : Nat) : W.frozen? ⟨M, i, none⟩ = false := by
  simp [World.frozen?, show W.heap[M]? = _ from h]
theorem VBox.set0 {W : World} {M : Nat} {b : Value} {u : Bool} (h : VBox W M b u) (v : Value) : VBox (W.setCell ⟨M, 0, none⟩ v) M v u := by
  obtain ⟨hlt, hk⟩ := Array.getElem?_eq_some_iff.1 h
  show (W.heap.modify M _)[M]? = _
  rw [Array.getElem?_eq_getElem (by rw [Array.size_modify]; exact hlt), Array.getElem_modify_self, hk]
  rfl
theorem VBox.set1 {W : World} {M : Nat} {b : Value} {u : Bool} (h : VBox W M b u) (v : Bool) : VBox (W.setCell ⟨M, 1, none⟩ (.bool v)) M b v := by
  obtain ⟨hlt, hk⟩ := Array.getElem?_eq_some_iff.1 h
  show (W.heap.modify M _)[M]? = _
  rw [Array.getElem?_eq_getElem (by rw [Array.size_modify]; exact hlt), Array.getElem_modify_self, hk]
  rfl
theorem VBox.setCell {W : World} {M b' i : Nat} {b : Value} {u : Bool} (h : VBox W M b u) (hne : M ≠ b') (v : Value) : VBox (W.setCell ⟨b', i, none⟩ v) M b u := (Below.heap_setCell W ⟨b', i, none⟩ v M hne).trans h
def put2 (W : World) (M : Nat) (b : Value) (u : Bool) : World := (W.setCell ⟨M, 0, none⟩ b).setCell ⟨M, 1, none⟩ (.bool u)
theorem VBox.put {W : World} {M : Nat} {b : Value} {u : Bool} (h : VBox W M b u) (b' : Value) (u' : Bool) : VBox (put2 W M b' u') M b' u' := (h.set0 _).set1 _
theorem below_put2 {B M : Nat} {w W : World} (h : Below B w W) (hM : B ≤ M) (b : Value) (u : Bool) : Below B w (put2 W M b u) :=
  (h.setCell (p := ⟨M, 0, none⟩) hM _).setCell (p := ⟨M, 1, none⟩) hM _
theorem res_v {f : Func} {k : Nat} {tmps : Array Value} {w : World} {R : Nat} {cs : Array Value} (hr : f.results = #[.cell k 37]) (hp : tmps.getD k undef = .pointer (some ⟨R, 0, none⟩)) (hg : w.heap[R]? = some (.cells cs 37 (0, 0))) (hz : cs.size = 2) :
    (results f tmps).run Tryz.prog w = .ok (.agg cs) w := by
  have hi : (Tryz.prog.info? 37).map (·.size) = some cs.size := by rw [hz]; kernel_rfl
  have hp' : tmps[k]?.getD undef = .pointer (some ⟨R, 0, none⟩) := by simpa using hp
  simp [results, hr, hp', asAddr, run_loadVar_row w R 37 37 cs (0, 0) _ hg Tryz.underlying37 rfl hi]
theorem hide {p : Prop} (h : p) : Hid p := h
theorem unhide {p : Prop} (h : Hid p) : p := h

def truthM (b : Bool) : Vl := ⟨if b then 1 else 0, false⟩
theorem below_new (w : World) (o : Obj) : Below w.heap.size w (w.alloc o) := (Below.refl _ w).alloc (Nat.le_refl _) o
set_option maxRecDepth 100000 in
theorem truth_any (b : Bool) (w : World) : Calls Tryz.prog 46 #[.bool b] w fun e w' => e = .returned (truthM b).v ∧ Below w.heap.size w w' := by
  cases b
  · go_enter Tryz.func46, Tryz.ntmps46
    go_wp2
    refine bodyPost_ret (res_v (f := Tryz.f46) rfl rfl (World.alloc_heap_new w _) rfl) rfl ⟨rfl, below_new w _⟩
  · go_enter Tryz.func46, Tryz.ntmps46
    go_wp2
    refine bodyPost_ret (res_v (f := Tryz.f46) rfl rfl (World.alloc_heap_new w _) rfl) rfl ⟨rfl, below_new w _⟩
/-- Of those signs whose bits are the same, signed or not. -/
def joinM (s : List UInt8) (a b : Int) : Int :=
  if s == [42] then IntKind.u64.wrap (a * b) else if s == [43] then IntKind.u64.wrap (a + b) else if s == [45] then IntKind.u64.wrap (a - b)
  else if s == [38] then bits .and .u64 a b else if s == [94] then bits .xor .u64 a b else bits .or .u64 a b
set_option maxRecDepth 100000 in
theorem joined_any (s : List UInt8) (a b : Int) (w : World) : Calls Tryz.prog 50 #[.string ⟨s.toArray⟩, .int .u64 a, .int .u64 b] w fun e w' => e = .returned (.int .u64 (joinM s a b)) ∧ w' = w := by
  go_enter Tryz.func50, Tryz.ntmps50
  go_wp2
  all_goals go_ret
  all_goals (refine ⟨?_, rfl⟩; first | (simp [joinM, *]; done) | (simp_all [joinM]; done))
end Go.Proofs.YtfghfohlcofdpaaGreatDoor
namespace Go.Proofs.YtfghfohlcofdpaaGreatDoor
open Go Go.RowKit
set_option linter.unusedVariables false
set_option linter.unusedSimpArgs false

def shiftM (s : List UInt8) (a : Vl) (y : Int) : Int × Bool :=
  if 64 ≤ y then (0, false) else if s == [60, 60] then (IntKind.u64.wrap (a.b * 2 ^ y.toNat), true)
  else if a.u then (a.b / 2 ^ y.toNat, true) else (IntKind.u64.wrap (wrap64 a.b / 2 ^ y.toNat), true)
set_option maxRecDepth 100000 in
theorem shifted_any (s : List UInt8) (a : Vl) (y : Int) (w : World) (h0 : 0 ≤ y) : Calls Tryz.prog 48 #[.string ⟨s.toArray⟩, a.v, .int .u64 y] w fun e w' => e = .returned (.tuple #[.int .u64 (shiftM s a y).1, .bool (shiftM s a y).2]) ∧ Below w.heap.size w w' := by
  obtain ⟨b, u⟩ := a
  simp only [Vl.v]
  by_cases h64 : 64 ≤ y
  · have hR : shiftM s ⟨b, u⟩ y = (0, false) := by rw [shiftM, if_pos h64]
    rw [hR]
    clear hR
    go_enter Tryz.func48, Tryz.ntmps48
    go_wp2
    all_goals go_ret2
    all_goals exact ⟨rfl, below_new _ _⟩
  · have hR : shiftM s ⟨b, u⟩ y = if s == [60, 60] then (IntKind.u64.wrap (b * 2 ^ y.toNat), true) else if u then (b / 2 ^ y.toNat, true) else (IntKind.u64.wrap (wrap64 b / 2 ^ y.toNat), true) := by rw [shiftM, if_neg h64]
    rw [hR]
    clear hR
    cases hs : s == [60, 60] <;> cases u
    all_goals (
      go_enter Tryz.func48, Tryz.ntmps48
      go_wp2
      go_ret2
      exact ⟨rfl, below_new _ _⟩)
def divM (s : List UInt8) (a b : Int) (u : Bool) : Int × Bool :=
  if b = 0 then (0, false) else if u then (if s == [47] then (IntKind.u64.wrap (a.tdiv b), true) else (a.tmod b, true))
  else if s == [47] then (IntKind.u64.wrap (wrap64 ((wrap64 a).tdiv (wrap64 b))), true) else (IntKind.u64.wrap ((wrap64 a).tmod (wrap64 b)), true)
theorem wrap64_zero {b : Int} (h0 : 0 ≤ b) (h1 : b < 18446744073709551616) : wrap64 b = 0 ↔ b = 0 := by
  unfold wrap64
  omega
set_option maxRecDepth 100000 in
theorem divided_any (s : List UInt8) (a b : Int) (u : Bool) (w : World) (h0 : 0 ≤ b) (h1 : b < 18446744073709551616) : Calls Tryz.prog 49 #[.string ⟨s.toArray⟩, .int .u64 a, .int .u64 b, .bool u] w fun e w' => e = .returned (.tuple #[.int .u64 (divM s a b u).1, .bool (divM s a b u).2]) ∧ w' = w := by
  by_cases hb : b = 0
  · subst hb
    go_enter Tryz.func49, Tryz.ntmps49
    go_wp2
    all_goals go_ret2
    all_goals (refine ⟨?_, rfl⟩; simp [divM])
  · have hw : ¬ wrap64 b = 0 := fun e => hb ((wrap64_zero h0 h1).1 e)
    have hbb : (b == 0) = false := by simpa using hb
    cases u
    · go_enter Tryz.func49, Tryz.ntmps49
      go_wp2
      all_goals go_ret2
      all_goals (refine ⟨?_, rfl⟩)
      all_goals first | (simp [divM, *]; done) | (simp_all [divM]; done)
    · go_enter Tryz.func49, Tryz.ntmps49
      go_wp2
      all_goals go_ret2
      all_goals (refine ⟨?_, rfl⟩)
      all_goals first | (simp [divM, *]; done) | (simp_all [divM]; done)
end Go.Proofs.YtfghfohlcofdpaaGreatDoor
namespace Go.Proofs.YtfghfohlcofdpaaGreatDoor
open Go Go.RowKit
set_option linter.unusedVariables false
set_option linter.unusedSimpArgs false

def cmpM (x y : Int) : Int := if x < y then -1 else if y < x then 1 else 0
theorem nanI (x : Int) (w : World) : Calls Tryz.prog 80 #[.int .i64 x] w fun e w' => e = .returned (.bool false) ∧ w' = w := by
  go_enter Tryz.func80, Tryz.ntmps80
  go_wp2
  go_ret
  exact ⟨by simp, rfl⟩
theorem nanU (x : Int) (w : World) : Calls Tryz.prog 81 #[.int .u64 x] w fun e w' => e = .returned (.bool false) ∧ w' = w := by
  go_enter Tryz.func81, Tryz.ntmps81
  go_wp2
  go_ret
  exact ⟨by simp, rfl⟩
set_option maxRecDepth 100000 in
theorem compareI (x y : Int) (w : World) : Calls Tryz.prog 66 #[.int .i64 x, .int .i64 y] w fun e w' => e = .returned (.int .i64 (cmpM x y)) ∧ w' = w := by
  have H := hide (fun x w => nanI x w)
  by_cases h1 : x < y
  · have hR : cmpM x y = -1 := by simp [cmpM, h1]
    rw [hR]; clear hR
    go_enter Tryz.func66, Tryz.ntmps66
    go_wp2_with (refine (unhide H _ _).mono ?_; rintro e w' ⟨rfl, hw⟩; obtain rfl := hw.symm)
    go_ret
    exact ⟨rfl, rfl⟩
  · by_cases h2 : y < x
    · have hR : cmpM x y = 1 := by simp [cmpM, h1, h2]
      rw [hR]; clear hR
      go_enter Tryz.func66, Tryz.ntmps66
      go_wp2_with (refine (unhide H _ _).mono ?_; rintro e w' ⟨rfl, hw⟩; obtain rfl := hw.symm)
      go_ret
      exact ⟨rfl, rfl⟩
    · have hR : cmpM x y = 0 := by simp [cmpM, h1, h2]
      rw [hR]; clear hR
      go_enter Tryz.func66, Tryz.ntmps66
      go_wp2_with (refine (unhide H _ _).mono ?_; rintro e w' ⟨rfl, hw⟩; obtain rfl := hw.symm)
      go_ret
      exact ⟨rfl, rfl⟩
set_option maxRecDepth 100000 in
theorem compareU (x y : Int) (w : World) : Calls Tryz.prog 67 #[.int .u64 x, .int .u64 y] w fun e w' => e = .returned (.int .i64 (cmpM x y)) ∧ w' = w := by
  have H := hide (fun x w => nanU x w)
  by_cases h1 : x < y
  · have hR : cmpM x y = -1 := by simp [cmpM, h1]
    rw [hR]; clear hR
    go_enter Tryz.func67, Tryz.ntmps67
    go_wp2_with (refine (unhide H _ _).mono ?_; rintro e w' ⟨rfl, hw⟩; obtain rfl := hw.symm)
    go_ret
    exact ⟨rfl, rfl⟩
  · by_cases h2 : y < x
    · have hR : cmpM x y = 1 := by simp [cmpM, h1, h2]
      rw [hR]; clear hR
      go_enter Tryz.func67, Tryz.ntmps67
      go_wp2_with (refine (unhide H _ _).mono ?_; rintro e w' ⟨rfl, hw⟩; obtain rfl := hw.symm)
      go_ret
      exact ⟨rfl, rfl⟩
    · have hR : cmpM x y = 0 := by simp [cmpM, h1, h2]
      rw [hR]; clear hR
      go_enter Tryz.func67, Tryz.ntmps67
      go_wp2_with (refine (unhide H _ _).mono ?_; rintro e w' ⟨rfl, hw⟩; obtain rfl := hw.symm)
      go_ret
      exact ⟨rfl, rfl⟩
def ordM (s : List UInt8) (a b : Int) (u : Bool) : Bool :=
  let c := if u then cmpM a b else cmpM (wrap64 a) (wrap64 b)
  if s == [60] then decide (c < 0) else if s == [62] then decide (0 < c) else if s == [60, 61] then decide (c ≤ 0) else decide (0 ≤ c)
set_option maxRecDepth 100000 in
theorem ordered_any (s : List UInt8) (a b : Int) (u : Bool) (w : World) : Calls Tryz.prog 47 #[.string ⟨s.toArray⟩, .int .u64 a, .int .u64 b, .bool u] w fun e w' => e = .returned (.bool (ordM s a b u)) ∧ w' = w := by
  have HI := hide (fun x y w => compareI x y w)
  have HU := hide (fun x y w => compareU x y w)
  have HR : Hid (ordM s a b u = if s == [60] then decide ((if u then cmpM a b else cmpM (wrap64 a) (wrap64 b)) < 0) else if s == [62] then decide (0 < (if u then cmpM a b else cmpM (wrap64 a) (wrap64 b))) else if s == [60, 61] then decide ((if u then cmpM a b else cmpM (wrap64 a) (wrap64 b)) ≤ 0) else decide (0 ≤ (if u then cmpM a b else cmpM (wrap64 a) (wrap64 b)))) := rfl
  generalize ordM s a b u = R at *
  cases u
  all_goals (
    cases h1 : s == [60]
    · cases h2 : s == [62]
      · cases h3 : s == [60, 61]
        all_goals (
          simp only [h1, h2, h3, if_true, if_false, Bool.false_eq_true] at HR
          go_enter Tryz.func47, Tryz.ntmps47
          go_wp2_with (first | (go_at_call 66; refine (unhide HI _ _ _).mono ?_; rintro e w' ⟨rfl, hw⟩; obtain rfl := hw.symm) | (go_at_call 67; refine (unhide HU _ _ _).mono ?_; rintro e w' ⟨rfl, hw⟩; obtain rfl := hw.symm))
          go_ret
          exact ⟨by rw [unhide HR]; rfl, rfl⟩)
      · simp only [h1, h2, if_true, if_false, Bool.false_eq_true] at HR
        go_enter Tryz.func47, Tryz.ntmps47
        go_wp2_with (first | (go_at_call 66; refine (unhide HI _ _ _).mono ?_; rintro e w' ⟨rfl, hw⟩; obtain rfl := hw.symm) | (go_at_call 67; refine (unhide HU _ _ _).mono ?_; rintro e w' ⟨rfl, hw⟩; obtain rfl := hw.symm))
        go_ret
        exact ⟨by rw [unhide HR]; rfl, rfl⟩
    · simp only [h1, if_true, if_false, Bool.false_eq_true] at HR
      go_enter Tryz.func47, Tryz.ntmps47
      go_wp2_with (first | (go_at_call 66; refine (unhide HI _ _ _).mono ?_; rintro e w' ⟨rfl, hw⟩; obtain rfl := hw.symm) | (go_at_call 67; refine (unhide HU _ _ _).mono ?_; rintro e w' ⟨rfl, hw⟩; obtain rfl := hw.symm))
      go_ret
      exact ⟨by rw [unhide HR]; rfl, rfl⟩)
/-- What a sign ahead makes of an operand. -/
def prefM (s : List UInt8) (v : Vl) : Vl :=
  if s == [33] then truthM (v.b == 0) else if s == [45] then ⟨IntKind.u64.wrap (-v.b), v.u⟩ else if s == [126] then ⟨bits .xor .u64 IntKind.u64.max v.b, v.u⟩ else v
set_option maxRecDepth 100000 in
theorem prefixed_any (s : List UInt8) (v : Vl) (w : World) : Calls Tryz.prog 45 #[.string ⟨s.toArray⟩, v.v] w fun e w' => e = .returned (prefM s v).v ∧ Below w.heap.size w w' := by
  have HT := hide (fun b w => truth_any b w)
  obtain ⟨b, u⟩ := v
  have hz : ∀ o, (w.alloc o).heap.size = w.heap.size + 1 := fun o => by simp
  have hnw : ∀ o o', ((w.alloc o).alloc o').heap[w.heap.size + 1]? = some o' := fun o o' => by
    have := World.alloc_heap_new (w.alloc o) o'
    rwa [hz] at this
  have hb2 : ∀ o o', Below w.heap.size w ((w.alloc o).alloc o') := fun o o' => (below_new w o).alloc (by rw [hz]; omega) o'
  have HR : Hid (prefM s ⟨b, u⟩ = if s == [33] then truthM (b == 0) else if s == [45] then ⟨IntKind.u64.wrap (-b), u⟩ else if s == [126] then ⟨bits .xor .u64 IntKind.u64.max b, u⟩ else ⟨b, u⟩) := rfl
  generalize prefM s ⟨b, u⟩ = R at *
  obtain ⟨rb, ru⟩ := R
  simp only [Vl.v] at HT ⊢
  have HZ := hide hz
  have HN := hide hnw
  have HB := hide hb2
  clear hz hnw hb2
  cases h1 : s == [33]
  · cases h2 : s == [45]
    · cases h3 : s == [126]
      all_goals (
        simp only [h1, h2, h3, if_true, if_false, Bool.false_eq_true] at HR
        obtain ⟨rfl, rfl⟩ : rb = _ ∧ ru = _ := by have := unhide HR; simpa using this
        go_enter Tryz.func45, Tryz.ntmps45
        go_wp2
        refine bodyPost_ret (res_v (f := Tryz.f45) rfl rfl (unhide HN _ _) rfl) rfl ⟨rfl, unhide HB _ _⟩)
    · simp only [h1, h2, if_true, if_false, Bool.false_eq_true] at HR
      obtain ⟨rfl, rfl⟩ : rb = _ ∧ ru = _ := by have := unhide HR; simpa using this
      go_enter Tryz.func45, Tryz.ntmps45
      go_wp2
      refine bodyPost_ret (res_v (f := Tryz.f45) rfl rfl (unhide HN _ _) rfl) rfl ⟨rfl, unhide HB _ _⟩
  · simp only [h1, if_true, if_false, Bool.false_eq_true] at HR
    have hq : VBox ((w.alloc (.cells #[.int .u64 b, .bool u] 37)).alloc (.cells #[.int .u64 0, .bool false] 37)) (w.heap.size + 1) (.int .u64 0) false := unhide HN _ _
    have HQ := hide hq
    have hzz : ((w.alloc (.cells #[.int .u64 b, .bool u] 37)).alloc (.cells #[.int .u64 0, .bool false] 37)).heap.size = w.heap.size + 2 := by simp
    go_enter Tryz.func45, Tryz.ntmps45
    go_wp2_with fail
    refine (unhide HT _ _).mono ?_
    rintro e W ⟨rfl, hb⟩
    rw [← unhide HR]
    have hq2 := (unhide HQ).below hb (by omega)
    obtain ⟨c0, c1⟩ := hq2.two
    have f0 := hq2.frozen 0
    have f1 := hq2.frozen 1
    have HQ2 := hide hq2
    have HBB := hide ((unhide HB (.cells #[.int .u64 b, .bool u] 37) (.cells #[.int .u64 0, .bool false] 37)).trans (hb.mono (by omega)))
    clear hq hq2 hb
    go_wp2
    refine bodyPost_ret (res_v (f := Tryz.f45) rfl rfl ((unhide HQ2).put _ _) rfl) rfl ⟨rfl, below_put2 (unhide HBB) (by omega) _ _⟩
end Go.Proofs.YtfghfohlcofdpaaGreatDoor
