/-
  Package cond: ordered, prefixed.
-/
import Derived.Test.YtfghfohlcofdpaaDoorA2
namespace Go.Proofs.YtfghfohlcofdpaaDoor
open Go Go.RowKit
set_option linter.unusedVariables false
set_option linter.unusedSimpArgs false

def cmpM (x y : Int) : Int := if x < y then -1 else if y < x then 1 else 0
theorem nanI (x : Int) (w : World) : Calls Tryd.prog 84 #[.int .i64 x] w fun e w' => e = .returned (.bool false) ∧ w' = w := by
  go_enter Tryd.func84, Tryd.ntmps84
  go_wp2
  go_ret
  exact ⟨by simp, rfl⟩
theorem nanU (x : Int) (w : World) : Calls Tryd.prog 85 #[.int .u64 x] w fun e w' => e = .returned (.bool false) ∧ w' = w := by
  go_enter Tryd.func85, Tryd.ntmps85
  go_wp2
  go_ret
  exact ⟨by simp, rfl⟩
set_option maxRecDepth 100000 in
theorem compareI (x y : Int) (w : World) : Calls Tryd.prog 79 #[.int .i64 x, .int .i64 y] w fun e w' => e = .returned (.int .i64 (cmpM x y)) ∧ w' = w := by
  have H := hide (fun x w => nanI x w)
  by_cases h1 : x < y
  · have hR : cmpM x y = -1 := by simp [cmpM, h1]
    rw [hR]; clear hR
    go_enter Tryd.func79, Tryd.ntmps79
    go_wp2_with (refine (unhide H _ _).mono ?_; rintro e w' ⟨rfl, hw⟩; obtain rfl := hw.symm)
    go_ret
    exact ⟨rfl, rfl⟩
  · by_cases h2 : y < x
    · have hR : cmpM x y = 1 := by simp [cmpM, h1, h2]
      rw [hR]; clear hR
      go_enter Tryd.func79, Tryd.ntmps79
      go_wp2_with (refine (unhide H _ _).mono ?_; rintro e w' ⟨rfl, hw⟩; obtain rfl := hw.symm)
      go_ret
      exact ⟨rfl, rfl⟩
    · have hR : cmpM x y = 0 := by simp [cmpM, h1, h2]
      rw [hR]; clear hR
      go_enter Tryd.func79, Tryd.ntmps79
      go_wp2_with (refine (unhide H _ _).mono ?_; rintro e w' ⟨rfl, hw⟩; obtain rfl := hw.symm)
      go_ret
      exact ⟨rfl, rfl⟩
set_option maxRecDepth 100000 in
theorem compareU (x y : Int) (w : World) : Calls Tryd.prog 80 #[.int .u64 x, .int .u64 y] w fun e w' => e = .returned (.int .i64 (cmpM x y)) ∧ w' = w := by
  have H := hide (fun x w => nanU x w)
  by_cases h1 : x < y
  · have hR : cmpM x y = -1 := by simp [cmpM, h1]
    rw [hR]; clear hR
    go_enter Tryd.func80, Tryd.ntmps80
    go_wp2_with (refine (unhide H _ _).mono ?_; rintro e w' ⟨rfl, hw⟩; obtain rfl := hw.symm)
    go_ret
    exact ⟨rfl, rfl⟩
  · by_cases h2 : y < x
    · have hR : cmpM x y = 1 := by simp [cmpM, h1, h2]
      rw [hR]; clear hR
      go_enter Tryd.func80, Tryd.ntmps80
      go_wp2_with (refine (unhide H _ _).mono ?_; rintro e w' ⟨rfl, hw⟩; obtain rfl := hw.symm)
      go_ret
      exact ⟨rfl, rfl⟩
    · have hR : cmpM x y = 0 := by simp [cmpM, h1, h2]
      rw [hR]; clear hR
      go_enter Tryd.func80, Tryd.ntmps80
      go_wp2_with (refine (unhide H _ _).mono ?_; rintro e w' ⟨rfl, hw⟩; obtain rfl := hw.symm)
      go_ret
      exact ⟨rfl, rfl⟩
def ordM (s : List UInt8) (a b : Int) (u : Bool) : Bool :=
  let c := if u then cmpM a b else cmpM (wrap64 a) (wrap64 b)
  if s == [60] then decide (c < 0) else if s == [62] then decide (0 < c) else if s == [60, 61] then decide (c ≤ 0) else decide (0 ≤ c)
set_option maxRecDepth 100000 in
theorem ordered_any (s : List UInt8) (a b : Int) (u : Bool) (w : World) : Calls Tryd.prog 66 #[.string ⟨s.toArray⟩, .int .u64 a, .int .u64 b, .bool u] w fun e w' => e = .returned (.bool (ordM s a b u)) ∧ w' = w := by
  have HI := hide (fun x y w => compareI x y w)
  have HU := hide (fun x y w => compareU x y w)
  have HR : Hid (ordM s a b u = if s == [60] then decide ((if u then cmpM a b else cmpM (wrap64 a) (wrap64 b)) < 0) else if s == [62] then decide (0 < (if u then cmpM a b else cmpM (wrap64 a) (wrap64 b))) else if s == [60, 61] then decide ((if u then cmpM a b else cmpM (wrap64 a) (wrap64 b)) ≤ 0) else decide (0 ≤ (if u then cmpM a b else cmpM (wrap64 a) (wrap64 b)))) := rfl
  generalize ordM s a b u = R at *
  cases u
  all_goals (
    cases h1 : s == [60]
    · cases h2 : s == [62]
      · cases h3 : s == [60, 61]
        all_goals (
          simp only [h1, h2, h3, if_true, if_false, Bool.false_eq_true] at HR
          go_enter Tryd.func66, Tryd.ntmps66
          go_wp2_with (first | (go_at_call 79; refine (unhide HI _ _ _).mono ?_; rintro e w' ⟨rfl, hw⟩; obtain rfl := hw.symm) | (go_at_call 80; refine (unhide HU _ _ _).mono ?_; rintro e w' ⟨rfl, hw⟩; obtain rfl := hw.symm))
          go_ret
          exact ⟨by rw [unhide HR]; rfl, rfl⟩)
      · simp only [h1, h2, if_true, if_false, Bool.false_eq_true] at HR
        go_enter Tryd.func66, Tryd.ntmps66
        go_wp2_with (first | (go_at_call 79; refine (unhide HI _ _ _).mono ?_; rintro e w' ⟨rfl, hw⟩; obtain rfl := hw.symm) | (go_at_call 80; refine (unhide HU _ _ _).mono ?_; rintro e w' ⟨rfl, hw⟩; obtain rfl := hw.symm))
        go_ret
        exact ⟨by rw [unhide HR]; rfl, rfl⟩
    · simp only [h1, if_true, if_false, Bool.false_eq_true] at HR
      go_enter Tryd.func66, Tryd.ntmps66
      go_wp2_with (first | (go_at_call 79; refine (unhide HI _ _ _).mono ?_; rintro e w' ⟨rfl, hw⟩; obtain rfl := hw.symm) | (go_at_call 80; refine (unhide HU _ _ _).mono ?_; rintro e w' ⟨rfl, hw⟩; obtain rfl := hw.symm))
      go_ret
      exact ⟨by rw [unhide HR]; rfl, rfl⟩)
/-- What a sign ahead makes of an operand. -/
def prefM (s : List UInt8) (v : Vl) : Vl :=
  if s == [33] then truthM (v.b == 0) else if s == [45] then ⟨IntKind.u64.wrap (-v.b), v.u⟩ else if s == [126] then ⟨bits .xor .u64 IntKind.u64.max v.b, v.u⟩ else v
set_option maxRecDepth 100000 in
theorem prefixed_any (s : List UInt8) (v : Vl) (w : World) : Calls Tryd.prog 64 #[.string ⟨s.toArray⟩, v.v] w fun e w' => e = .returned (prefM s v).v ∧ Below w.heap.size w w' := by
  have HT := hide (fun b w => truth_any b w)
  obtain ⟨b, u⟩ := v
  have hz : ∀ o, (w.alloc o).heap.size = w.heap.size + 1 := fun o => by simp
  have hnw : ∀ o o', ((w.alloc o).alloc o').heap[w.heap.size + 1]? = some o' := fun o o' => by
    have := World.alloc_heap_new (w.alloc o) o'
    rwa [hz] at this
  have hb2 : ∀ o o', Below w.heap.size w ((w.alloc o).alloc o') := fun o o' => (below_new w o).alloc (by rw [hz]; omega) o'
  have HR : Hid (prefM s ⟨b, u⟩ = if s == [33] then truthM (b == 0) else if s == [45] then ⟨IntKind.u64.wrap (-b), u⟩ else if s == [126] then ⟨bits .xor .u64 IntKind.u64.max b, u⟩ else ⟨b, u⟩) := rfl
  generalize prefM s ⟨b, u⟩ = R at *
  obtain ⟨rb, ru⟩ := R
  simp only [Vl.v] at HT ⊢
  have HZ := hide hz
  have HN := hide hnw
  have HB := hide hb2
  clear hz hnw hb2
  cases h1 : s == [33]
  · cases h2 : s == [45]
    · cases h3 : s == [126]
      all_goals (
        simp only [h1, h2, h3, if_true, if_false, Bool.false_eq_true] at HR
        obtain ⟨rfl, rfl⟩ : rb = _ ∧ ru = _ := by have := unhide HR; simpa using this
        go_enter Tryd.func64, Tryd.ntmps64
        go_wp2
        refine bodyPost_ret (res_v (f := Tryd.f64) rfl rfl (unhide HN _ _) rfl) rfl ⟨rfl, unhide HB _ _⟩)
    · simp only [h1, h2, if_true, if_false, Bool.false_eq_true] at HR
      obtain ⟨rfl, rfl⟩ : rb = _ ∧ ru = _ := by have := unhide HR; simpa using this
      go_enter Tryd.func64, Tryd.ntmps64
      go_wp2
      refine bodyPost_ret (res_v (f := Tryd.f64) rfl rfl (unhide HN _ _) rfl) rfl ⟨rfl, unhide HB _ _⟩
  · simp only [h1, if_true, if_false, Bool.false_eq_true] at HR
    have hq : VBox ((w.alloc (.cells #[.int .u64 b, .bool u] 44)).alloc (.cells #[.int .u64 0, .bool false] 44)) (w.heap.size + 1) (.int .u64 0) false := unhide HN _ _
    have HQ := hide hq
    have hzz : ((w.alloc (.cells #[.int .u64 b, .bool u] 44)).alloc (.cells #[.int .u64 0, .bool false] 44)).heap.size = w.heap.size + 2 := by simp
    go_enter Tryd.func64, Tryd.ntmps64
    go_wp2_with fail
    refine (unhide HT _ _).mono ?_
    rintro e W ⟨rfl, hb⟩
    rw [← unhide HR]
    have hq2 := (unhide HQ).below hb (by omega)
    obtain ⟨c0, c1⟩ := hq2.two
    have f0 := hq2.frozen 0
    have f1 := hq2.frozen 1
    have HQ2 := hide hq2
    have HBB := hide ((unhide HB (.cells #[.int .u64 b, .bool u] 44) (.cells #[.int .u64 0, .bool false] 44)).trans (hb.mono (by omega)))
    clear hq hq2 hb
    go_wp2
    refine bodyPost_ret (res_v (f := Tryd.f64) rfl rfl ((unhide HQ2).put _ _) rfl) rfl ⟨rfl, below_put2 (unhide HBB) (by omega) _ _⟩
end Go.Proofs.YtfghfohlcofdpaaDoor
