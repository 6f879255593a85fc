/-
  The document's parser: shift.
-/
import Derived.Test.YtfghfohlcofdpaaGreatDoorJa
namespace Go.Proofs.YtfghfohlcofdpaaGreatDoor
open Go Go.RowKit
set_option linter.unusedVariables false
set_option linter.unusedSimpArgs false

/-- A value of the document's in its box. -/
def RB (W : World) (M : Nat) (x : Int) (u : Bool) : Prop := W.heap[M]? = some (.cells #[.int .u64 x, .bool u] 44 (0, 0))
section
variable {W W' : World} {M n i b : Nat} {x : Int} {u : Bool} {v : Value}
theorem RB.lt (h : RB W M x u) : M < W.heap.size := (Array.getElem?_eq_some_iff.1 h).1
theorem RB.two (h : RB W M x u) : W.cell? ⟨M, 0, none⟩ = some (.int .u64 x) ∧ W.cell? ⟨M, 1, none⟩ = some (.bool u) := by
  refine ⟨?_, ?_⟩ <;> (rw [World.cell?, show W.heap[M]? = _ from h]; rfl)
theorem RB.frozen (h : RB W M x u) (i : Nat) : W.frozen? ⟨M, i, none⟩ = false := by simp [World.frozen?, show W.heap[M]? = _ from h]
theorem RB.below (h : RB W M x u) (hb : Below n W W') (hn : M < n) : RB W' M x u := (hb.block M hn).trans h
theorem RB.next (h : RB W M x u) (hb : Below W.heap.size W W') : RB W' M x u := h.below hb h.lt
theorem RB.other (h : RB W M x u) (hne : M ≠ n) : RB (W.setCell ⟨n, i, none⟩ v) M x u := (Below.heap_setCell W ⟨n, i, none⟩ v M hne).trans h
theorem RB.put (h : RB W M x u) (x' : Int) (u' : Bool) : RB ((W.setCell ⟨M, 0, none⟩ (.int .u64 x')).setCell ⟨M, 1, none⟩ (.bool u')) M x' u' := set_blockJ (set_blockJ h 0 _) 1 _
theorem RB.set0 (h : RB W M x u) (x' : Int) : RB (W.setCell ⟨M, 0, none⟩ (.int .u64 x')) M x' u := set_blockJ h 0 _
theorem RB.set1 (h : RB W M x u) (u' : Bool) : RB (W.setCell ⟨M, 1, none⟩ (.bool u')) M x u' := set_blockJ h 1 _
theorem RB.fb (h : RB W M x u) (hf : Fb b W W') (hne : M ≠ b) : RB W' M x u := (hf.keep M h.lt hne).trans h
end
/-- What lies when three boxes are made. -/
structure Th (w W : World) (b : Nat) (v : Value) (k : Int) (ok : Bool) (a c : Vl) : Prop where
  a : RB W w.heap.size a.b a.u
  c : RB W (w.heap.size + 1) c.b c.u
  r : RB W (w.heap.size + 2) 0 false
  p : Pb W b v k ok
  f : Fb b w W
  lt : b < w.heap.size
theorem th_made {w : World} {b : Nat} {v : Value} {k : Int} {ok : Bool} (hP : Pb w b v k ok) (ab cb : Int) (au cu : Bool) : Th w (((w.alloc (.cells #[.int .u64 ab, .bool au] 44)).alloc (.cells #[.int .u64 cb, .bool cu] 44)).alloc (.cells #[.int .u64 0, .bool false] 44)) b v k ok ⟨ab, au⟩ ⟨cb, cu⟩ := by
  generalize ho1 : (.cells #[.int .u64 ab, .bool au] 44 : Obj) = o1
  generalize ho2 : (.cells #[.int .u64 cb, .bool cu] 44 : Obj) = o2
  generalize ho3 : (.cells #[.int .u64 0, .bool false] 44 : Obj) = o3
  have z1 : (w.alloc o1).heap.size = w.heap.size + 1 := by simp
  have z2 : ((w.alloc o1).alloc o2).heap.size = w.heap.size + 2 := by simp
  have b0 := below_new w o1
  have b1 := below_new (w.alloc o1) o2
  have b2 := below_new ((w.alloc o1).alloc o2) o3
  rw [z1] at b1
  rw [z2] at b2
  have B : Below w.heap.size w (((w.alloc o1).alloc o2).alloc o3) := (b0.trans (b1.mono (by omega))).trans (b2.mono (by omega))
  have h0 : (((w.alloc o1).alloc o2).alloc o3).heap[w.heap.size]? = some o1 := (b2.block _ (by omega)).trans ((b1.block _ (by omega)).trans (World.alloc_heap_new w o1))
  have h1 : (((w.alloc o1).alloc o2).alloc o3).heap[w.heap.size + 1]? = some o2 := (b2.block _ (by omega)).trans (by have := World.alloc_heap_new (w.alloc o1) o2; rwa [z1] at this)
  have h2 : (((w.alloc o1).alloc o2).alloc o3).heap[w.heap.size + 2]? = some o3 := by have := World.alloc_heap_new ((w.alloc o1).alloc o2) o3; rwa [z2] at this
  have hlt := hP.lt
  subst ho1 ho2 ho3
  exact ⟨h0, h1, h2, hP.next B, Fb.of B (by omega), hlt⟩
/-- The end of each: the answer is put into its box; what was undefined is told. -/
theorem th_end {w W : World} {b : Nat} {v : Value} {k : Int} {ok : Bool} {a c : Vl} (h : Th w W b v k ok a c) (x : Int) (u : Bool) :
    RB ((W.setCell ⟨w.heap.size + 2, 0, none⟩ (.int .u64 x)).setCell ⟨w.heap.size + 2, 1, none⟩ (.bool u)) (w.heap.size + 2) x u ∧ Pb ((W.setCell ⟨w.heap.size + 2, 0, none⟩ (.int .u64 x)).setCell ⟨w.heap.size + 2, 1, none⟩ (.bool u)) b v k ok ∧ Fb b w ((W.setCell ⟨w.heap.size + 2, 0, none⟩ (.int .u64 x)).setCell ⟨w.heap.size + 2, 1, none⟩ (.bool u)) := by
  have := h.lt
  exact ⟨h.r.put x u, (h.p.other (by omega)).other (by omega), (h.f.setCell (.inr (by omega)) (by omega) _).setCell (.inr (by omega)) (by omega) _⟩
theorem th_und {w W : World} {b : Nat} {v : Value} {k : Int} {ok : Bool} {a c : Vl} (h : Th w W b v k ok a c) (o : Bool) (x : Int) (u : Bool) :
    RB (((W.setCell ⟨b, 2, none⟩ (.bool o)).setCell ⟨w.heap.size + 2, 0, none⟩ (.int .u64 x)).setCell ⟨w.heap.size + 2, 1, none⟩ (.bool u)) (w.heap.size + 2) x u ∧ Pb (((W.setCell ⟨b, 2, none⟩ (.bool o)).setCell ⟨w.heap.size + 2, 0, none⟩ (.int .u64 x)).setCell ⟨w.heap.size + 2, 1, none⟩ (.bool u)) b v k o ∧ Fb b w (((W.setCell ⟨b, 2, none⟩ (.bool o)).setCell ⟨w.heap.size + 2, 0, none⟩ (.int .u64 x)).setCell ⟨w.heap.size + 2, 1, none⟩ (.bool u)) := by
  have := h.lt
  exact ⟨(h.r.other (by omega)).put x u, ((h.p.set2 o).other (by omega)).other (by omega), ((h.f.setCell (.inl rfl) (by omega) _).setCell (.inr (by omega)) (by omega) _).setCell (.inr (by omega)) (by omega) _⟩
set_option maxRecDepth 100000 in
set_option maxHeartbeats 4000000 in
theorem shift_any (s : List UInt8) (hs : s = [60, 60] ∨ s = [62, 62]) (a c : Vl) (hc : 0 ≤ c.b) (live : Bool) (b : Nat) (v : Value) (k : Int) (ok : Bool) (w : World) (hP : Pb w b v k ok) :
    Calls Tryz.prog 53 #[.pointer (some ⟨b, 0, none⟩), .string ⟨s.toArray⟩, a.v, c.v, .bool live] w fun e w' => e = .returned (Vl.v ⟨(shiftM s a c.b).1, a.u⟩) ∧ Pb w' b v k (ok && (!live || (shiftM s a c.b).2)) ∧ Fb b w w' := by
  obtain ⟨ab, au⟩ := a
  obtain ⟨cb, cu⟩ := c
  have HT := hide (th_made hP ab cb au cu)
  have hlt := hP.lt
  simp only [Vl.v] at *
  clear hP
  by_cases h64 : 64 ≤ cb
  · have hR : shiftM s ⟨ab, au⟩ cb = (0, false) := by rw [shiftM, if_pos h64]
    rw [hR]
    clear hR
    cases ok
    all_goals (
    go_enter Tryz.func53, Tryz.ntmps53
    go_upto_region 1 with fail
    generalize (((w.alloc (.cells #[.int .u64 ab, .bool au] 44)).alloc (.cells #[.int .u64 cb, .bool cu] 44)).alloc (.cells #[.int .u64 0, .bool false] 44)) = W at *
    obtain ⟨a0, a1⟩ := (unhide HT).a.two
    obtain ⟨c0, c1⟩ := (unhide HT).c.two
    obtain ⟨r0, r1⟩ := (unhide HT).r.two
    obtain ⟨p0, p1, p2⟩ := (unhide HT).p.three
    have fr0 := (unhide HT).r.frozen 0
    have fr1 := (unhide HT).r.frozen 1
    have fp := (unhide HT).p.frozen 2
    have hne : w.heap.size + 2 ≠ b := by omega
    go_wp2
    first
      | (obtain ⟨g1, g2, g3⟩ := th_und (unhide HT) (!live) 0 au
         refine bodyPost_ret (res_x (f := Tryz.f53) rfl rfl g1 rfl) rfl ⟨rfl, ?_, g3⟩
         simpa using g2
         done)
      | (obtain ⟨g1, g2, g3⟩ := th_und (unhide HT) false 0 au
         refine bodyPost_ret (res_x (f := Tryz.f53) rfl rfl g1 rfl) rfl ⟨rfl, ?_, g3⟩
         simpa using g2))
  · have hc2 : decide (64 ≤ cb) = false := by simpa using h64
    have hR : shiftM s ⟨ab, au⟩ cb = if s == [60, 60] then (IntKind.u64.wrap (ab * 2 ^ cb.toNat), true) else if au then (ab / 2 ^ cb.toNat, true) else (IntKind.u64.wrap (wrap64 ab / 2 ^ cb.toNat), true) := by rw [shiftM, if_neg h64]
    rw [hR]
    clear hR
    rcases hs with rfl | rfl <;> cases au
    all_goals (
      go_enter Tryz.func53, Tryz.ntmps53
      go_upto_region 1 with fail
      generalize (((w.alloc (.cells #[.int .u64 ab, .bool _] 44)).alloc (.cells #[.int .u64 cb, .bool cu] 44)).alloc (.cells #[.int .u64 0, .bool false] 44)) = W at *
      obtain ⟨a0, a1⟩ := (unhide HT).a.two
      obtain ⟨c0, c1⟩ := (unhide HT).c.two
      obtain ⟨r0, r1⟩ := (unhide HT).r.two
      have fr0 := (unhide HT).r.frozen 0
      have fr1 := (unhide HT).r.frozen 1
      go_wp2
      obtain ⟨g1, g2, g3⟩ := th_end (unhide HT) _ _
      refine bodyPost_ret (res_x (f := Tryz.f53) rfl rfl g1 rfl) rfl ⟨rfl, ?_, g3⟩
      simpa using g2)
end Go.Proofs.YtfghfohlcofdpaaGreatDoor
