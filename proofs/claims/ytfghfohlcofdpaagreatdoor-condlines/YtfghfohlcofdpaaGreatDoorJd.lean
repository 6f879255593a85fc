/-
  The document's parser: compare.
-/
import Derived.Test.YtfghfohlcofdpaaGreatDoorJb
namespace Go.Proofs.YtfghfohlcofdpaaGreatDoor
open Go Go.RowKit
set_option linter.unusedVariables false
set_option linter.unusedSimpArgs false

/-- What lies when three boxes are made. -/
structure Tw (w W : World) (a c : Vl) : Prop where
  a : RB W w.heap.size a.b a.u
  c : RB W (w.heap.size + 1) c.b c.u
  r : RB W (w.heap.size + 2) 0 false
  f : Below w.heap.size w W
theorem tw_made (w : World) (ab cb : Int) (au cu : Bool) : Tw w (((w.alloc (.cells #[.int .u64 ab, .bool au] 44)).alloc (.cells #[.int .u64 cb, .bool cu] 44)).alloc (.cells #[.int .u64 0, .bool false] 44)) ⟨ab, au⟩ ⟨cb, cu⟩ := by
  generalize ho1 : (.cells #[.int .u64 ab, .bool au] 44 : Obj) = o1
  generalize ho2 : (.cells #[.int .u64 cb, .bool cu] 44 : Obj) = o2
  generalize ho3 : (.cells #[.int .u64 0, .bool false] 44 : Obj) = o3
  have z1 : (w.alloc o1).heap.size = w.heap.size + 1 := by simp
  have z2 : ((w.alloc o1).alloc o2).heap.size = w.heap.size + 2 := by simp
  have b0 := below_new w o1
  have b1 := below_new (w.alloc o1) o2
  have b2 := below_new ((w.alloc o1).alloc o2) o3
  rw [z1] at b1
  rw [z2] at b2
  have B : Below w.heap.size w (((w.alloc o1).alloc o2).alloc o3) := (b0.trans (b1.mono (by omega))).trans (b2.mono (by omega))
  have h0 : (((w.alloc o1).alloc o2).alloc o3).heap[w.heap.size]? = some o1 := (b2.block _ (by omega)).trans ((b1.block _ (by omega)).trans (World.alloc_heap_new w o1))
  have h1 : (((w.alloc o1).alloc o2).alloc o3).heap[w.heap.size + 1]? = some o2 := (b2.block _ (by omega)).trans (by have := World.alloc_heap_new (w.alloc o1) o2; rwa [z1] at this)
  have h2 : (((w.alloc o1).alloc o2).alloc o3).heap[w.heap.size + 2]? = some o3 := by have := World.alloc_heap_new ((w.alloc o1).alloc o2) o3; rwa [z2] at this
  subst ho1 ho2 ho3
  exact ⟨h0, h1, h2, B⟩
def lessR (a c : Vl) : Bool := if a.u || c.u then decide (a.b < c.b) else decide (wrap64 a.b < wrap64 c.b)
def cmpR (s : List UInt8) (a c : Vl) : Bool :=
  if s == [60] then lessR a c else if s == [62] then !lessR a c && !(a.b == c.b) else if s == [60, 61] then lessR a c || a.b == c.b else if s == [62, 61] then !lessR a c else if s == [61, 61] then a.b == c.b else !(a.b == c.b)
def six6 : List (List UInt8) := [[60], [62], [60, 61], [62, 61], [61, 61], [33, 61]]
set_option maxRecDepth 100000 in
set_option maxHeartbeats 8000000 in
theorem compare_any (s : List UInt8) (hs : s = [60] ∨ s = [62] ∨ s = [60, 61] ∨ s = [62, 61] ∨ s = [61, 61] ∨ s = [33, 61]) (a c : Vl) (w : World) :
    Calls Tryz.prog 54 #[.string ⟨s.toArray⟩, a.v, c.v] w fun e w' => e = .returned (truthM (cmpR s a c)).v ∧ Below w.heap.size w w' := by
  obtain ⟨ab, au⟩ := a
  obtain ⟨cb, cu⟩ := c
  have HTr := hide (fun b w => rtruth_any b w)
  have HT := hide (tw_made w ab cb au cu)
  have HL : Hid (lessR ⟨ab, au⟩ ⟨cb, cu⟩ = if au || cu then decide (ab < cb) else decide (wrap64 ab < wrap64 cb)) := rfl
  have HR : Hid (cmpR s ⟨ab, au⟩ ⟨cb, cu⟩ = if s == [60] then lessR ⟨ab, au⟩ ⟨cb, cu⟩ else if s == [62] then !lessR ⟨ab, au⟩ ⟨cb, cu⟩ && !(ab == cb) else if s == [60, 61] then lessR ⟨ab, au⟩ ⟨cb, cu⟩ || ab == cb else if s == [62, 61] then !lessR ⟨ab, au⟩ ⟨cb, cu⟩ else if s == [61, 61] then ab == cb else !(ab == cb)) := rfl
  generalize cmpR s ⟨ab, au⟩ ⟨cb, cu⟩ = R at *
  generalize lessR ⟨ab, au⟩ ⟨cb, cu⟩ = L at *
  simp only [Vl.v] at *
  rcases hs with rfl | rfl | rfl | rfl | rfl | rfl <;> cases au <;> cases cu <;> cases hS : ab == cb <;> cases hL : L
  all_goals (
    subst hL
    rw [hS] at HR
    obtain rfl := unhide HR
    clear HR
    have hl := (unhide HL).symm
    simp only [Bool.or_false, Bool.or_true, Bool.or_self, if_true, if_false, Bool.false_eq_true] at hl
    clear HL
    go_enter Tryz.func54, Tryz.ntmps54
    go_upto_region 1 with fail
    generalize (((w.alloc (.cells #[.int .u64 ab, .bool _] 44)).alloc (.cells #[.int .u64 cb, .bool _] 44)).alloc (.cells #[.int .u64 0, .bool false] 44)) = W at *
    obtain ⟨a0, a1⟩ := (unhide HT).a.two
    obtain ⟨c0, c1⟩ := (unhide HT).c.two
    go_wp2_with fail
    refine (unhide HTr _ _).mono ?_
    rintro e W2 ⟨rfl, hb2⟩
    have hr2 := (unhide HT).r.next hb2
    obtain ⟨r0, r1⟩ := hr2.two
    have fr0 := hr2.frozen 0
    have fr1 := hr2.frozen 1
    have HR2 := hide hr2
    have HB2 := hide ((unhide HT).f.trans (hb2.mono (unhide HT).f.size))
    clear hr2 hb2
    go_wp2
    refine bodyPost_ret (res_x (f := Tryz.f54) rfl rfl ((unhide HR2).put _ _) rfl) rfl ⟨rfl, ?_⟩
    exact ((unhide HB2).setCell (p := ⟨w.heap.size + 2, 0, none⟩) (by show w.heap.size ≤ w.heap.size + 2; omega) _).setCell (p := ⟨w.heap.size + 2, 1, none⟩) (by show w.heap.size ≤ w.heap.size + 2; omega) _)
end Go.Proofs.YtfghfohlcofdpaaGreatDoor
