/-
  The document's parser: divide.
-/
import Derived.Test.YtfghfohlcofdpaaGreatDoorJb
namespace Go.Proofs.YtfghfohlcofdpaaGreatDoor
open Go Go.RowKit
set_option linter.unusedVariables false
set_option linter.unusedSimpArgs false

theorem div_m1 (a : Int) : IntKind.u64.wrap (-a) = IntKind.u64.wrap (wrap64 ((wrap64 a).tdiv (wrap64 18446744073709551615))) := by
  have h1 : wrap64 18446744073709551615 = -1 := by unfold wrap64; omega
  rw [h1, Int.tdiv_neg, Int.tdiv_one]
  unfold wrap64
  show (-a) % 18446744073709551616 = _ % 18446744073709551616
  omega
theorem mod_m1 (a : Int) : (0 : Int) = IntKind.u64.wrap ((wrap64 a).tmod (wrap64 18446744073709551615)) := by
  have h1 : wrap64 18446744073709551615 = -1 := by unfold wrap64; omega
  rw [h1, Int.tmod_neg, Int.tmod_one]
  rfl
set_option maxRecDepth 100000 in
set_option maxHeartbeats 4000000 in
theorem divide_any (s : List UInt8) (hs : s = [47] ∨ s = [37]) (a c : Vl) (hc : 0 ≤ c.b) (hc1 : c.b < 18446744073709551616) (live : Bool) (b : Nat) (v : Value) (k : Int) (ok : Bool) (w : World) (hP : Pb w b v k ok) :
    Calls Tryz.prog 52 #[.pointer (some ⟨b, 0, none⟩), .string ⟨s.toArray⟩, a.v, c.v, .bool live] w fun e w' => e = .returned (Vl.v ⟨(divM s a.b c.b (a.u || c.u)).1, a.u || c.u⟩) ∧ Pb w' b v k (ok && (!live || (divM s a.b c.b (a.u || c.u)).2)) ∧ Fb b w w' := by
  obtain ⟨ab, au⟩ := a
  obtain ⟨cb, cu⟩ := c
  have HT := hide (th_made hP ab cb au cu)
  have hlt := hP.lt
  simp only [Vl.v] at *
  clear hP
  by_cases h0 : cb = 0
  · have hR : divM s ab cb (au || cu) = (0, false) := by rw [divM, if_pos h0]
    rw [hR]
    subst h0
    clear hR
    cases au <;> cases ok
    all_goals (
      go_enter Tryz.func52, Tryz.ntmps52
      go_upto_region 1 with fail
      generalize (((w.alloc (.cells #[.int .u64 ab, .bool _] 44)).alloc (.cells #[.int .u64 0, .bool cu] 44)).alloc (.cells #[.int .u64 0, .bool false] 44)) = W at *
      obtain ⟨a0, a1⟩ := (unhide HT).a.two
      obtain ⟨c0, c1⟩ := (unhide HT).c.two
      obtain ⟨r0, r1⟩ := (unhide HT).r.two
      obtain ⟨p0, p1, p2⟩ := (unhide HT).p.three
      have fr0 := (unhide HT).r.frozen 0
      have fr1 := (unhide HT).r.frozen 1
      have fp := (unhide HT).p.frozen 2
      have hne : w.heap.size + 2 ≠ b := by omega
      go_wp2
      first
        | (obtain ⟨g1, g2, g3⟩ := th_und (unhide HT) (!live) 0 _
           refine bodyPost_ret (res_x (f := Tryz.f52) rfl rfl g1 rfl) rfl ⟨rfl, ?_, g3⟩
           simpa using g2
           done)
        | (obtain ⟨g1, g2, g3⟩ := th_und (unhide HT) false 0 _
           refine bodyPost_ret (res_x (f := Tryz.f52) rfl rfl g1 rfl) rfl ⟨rfl, ?_, g3⟩
           simpa using g2))
  · have h00 : (cb == 0) = false := by simpa using h0
    have hw : ¬ wrap64 cb = 0 := fun e => h0 ((wrap64_zero hc hc1).1 e)
    have hR : divM s ab cb (au || cu) = if (au || cu) then (if s == [47] then (IntKind.u64.wrap (ab.tdiv cb), true) else (ab.tmod cb, true)) else if s == [47] then (IntKind.u64.wrap (wrap64 ((wrap64 ab).tdiv (wrap64 cb))), true) else (IntKind.u64.wrap ((wrap64 ab).tmod (wrap64 cb)), true) := by rw [divM, if_neg h0]
    rw [hR]
    clear hR
    cases hu : (au || cu)
    · obtain ⟨rfl, rfl⟩ : au = false ∧ cu = false := by simpa using hu
      simp only [Bool.false_eq_true, if_false]
      by_cases hm : cb = 18446744073709551615
      · subst hm
        rcases hs with rfl | rfl
        · rw [show (if (([47] : List UInt8) == [47]) = true then (IntKind.u64.wrap (wrap64 ((wrap64 ab).tdiv (wrap64 18446744073709551615))), true) else (IntKind.u64.wrap ((wrap64 ab).tmod (wrap64 18446744073709551615)), true)) = (IntKind.u64.wrap (-ab), true) from by rw [div_m1]; rfl]
          go_enter Tryz.func52, Tryz.ntmps52
          go_upto_region 1 with fail
          generalize (((w.alloc (.cells #[.int .u64 ab, .bool false] 44)).alloc (.cells #[.int .u64 18446744073709551615, .bool false] 44)).alloc (.cells #[.int .u64 0, .bool false] 44)) = W at *
          obtain ⟨a0, a1⟩ := (unhide HT).a.two
          obtain ⟨c0, c1⟩ := (unhide HT).c.two
          obtain ⟨r0, r1⟩ := (unhide HT).r.two
          have fr0 := (unhide HT).r.frozen 0
          have fr1 := (unhide HT).r.frozen 1
          go_wp2
          obtain ⟨g1, g2, g3⟩ := th_end (unhide HT) _ _
          refine bodyPost_ret (res_x (f := Tryz.f52) rfl rfl g1 rfl) rfl ⟨rfl, ?_, g3⟩
          simpa using g2
        · rw [show (if (([37] : List UInt8) == [47]) = true then (IntKind.u64.wrap (wrap64 ((wrap64 ab).tdiv (wrap64 18446744073709551615))), true) else (IntKind.u64.wrap ((wrap64 ab).tmod (wrap64 18446744073709551615)), true)) = ((0 : Int), true) from by rw [← mod_m1]; rfl]
          go_enter Tryz.func52, Tryz.ntmps52
          go_upto_region 1 with fail
          generalize (((w.alloc (.cells #[.int .u64 ab, .bool false] 44)).alloc (.cells #[.int .u64 18446744073709551615, .bool false] 44)).alloc (.cells #[.int .u64 0, .bool false] 44)) = W at *
          obtain ⟨a0, a1⟩ := (unhide HT).a.two
          obtain ⟨c0, c1⟩ := (unhide HT).c.two
          obtain ⟨r0, r1⟩ := (unhide HT).r.two
          have fr0 := (unhide HT).r.frozen 0
          have fr1 := (unhide HT).r.frozen 1
          go_wp2
          obtain ⟨g1, g2, g3⟩ := th_end (unhide HT) _ _
          refine bodyPost_ret (res_x (f := Tryz.f52) rfl rfl g1 rfl) rfl ⟨rfl, ?_, g3⟩
          simpa using g2
      · have hm' : (cb == 18446744073709551615) = false := by simpa using hm
        rcases hs with rfl | rfl
        all_goals (
          go_enter Tryz.func52, Tryz.ntmps52
          go_upto_region 1 with fail
          generalize (((w.alloc (.cells #[.int .u64 ab, .bool false] 44)).alloc (.cells #[.int .u64 cb, .bool false] 44)).alloc (.cells #[.int .u64 0, .bool false] 44)) = W at *
          obtain ⟨a0, a1⟩ := (unhide HT).a.two
          obtain ⟨c0, c1⟩ := (unhide HT).c.two
          obtain ⟨r0, r1⟩ := (unhide HT).r.two
          have fr0 := (unhide HT).r.frozen 0
          have fr1 := (unhide HT).r.frozen 1
          go_wp2
          obtain ⟨g1, g2, g3⟩ := th_end (unhide HT) _ _
          refine bodyPost_ret (res_x (f := Tryz.f52) rfl rfl g1 rfl) rfl ⟨rfl, ?_, g3⟩
          simpa using g2)
    · simp only [if_true]
      rcases hs with rfl | rfl <;> cases au <;> cases cu <;> try (cases hu; done)
      all_goals (
        go_enter Tryz.func52, Tryz.ntmps52
        go_upto_region 1 with fail
        generalize (((w.alloc (.cells #[.int .u64 ab, .bool _] 44)).alloc (.cells #[.int .u64 cb, .bool _] 44)).alloc (.cells #[.int .u64 0, .bool false] 44)) = W at *
        obtain ⟨a0, a1⟩ := (unhide HT).a.two
        obtain ⟨c0, c1⟩ := (unhide HT).c.two
        obtain ⟨r0, r1⟩ := (unhide HT).r.two
        have fr0 := (unhide HT).r.frozen 0
        have fr1 := (unhide HT).r.frozen 1
        go_wp2
        obtain ⟨g1, g2, g3⟩ := th_end (unhide HT) _ _
        refine bodyPost_ret (res_x (f := Tryz.f52) rfl rfl g1 rfl) rfl ⟨rfl, ?_, g3⟩
        simpa using g2)
end Go.Proofs.YtfghfohlcofdpaaGreatDoor
