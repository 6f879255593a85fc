/-
  The document's parser: apply.
-/
import Derived.Test.YtfghfohlcofdpaaGreatDoorJc
import Derived.Test.YtfghfohlcofdpaaGreatDoorJd
import Derived.Test.YtfghfohlcofdpaaGreatDoorAb
import Derived.Test.YtfghfohlcofdpaaGreatDoorA4
namespace Go.Proofs.YtfghfohlcofdpaaGreatDoor
open Go Go.RowKit
set_option linter.unusedVariables false
set_option linter.unusedSimpArgs false

theorem cmp_facts (x y : Int) : decide (cmpM x y < 0) = decide (x < y) ∧ decide (0 < cmpM x y) = (!decide (x < y) && !decide (x = y)) ∧ decide (cmpM x y ≤ 0) = (decide (x < y) || decide (x = y)) ∧ decide (0 ≤ cmpM x y) = !decide (x < y) := by
  unfold cmpM
  by_cases h1 : x < y
  · have h2 : ¬ x = y := by omega
    simp [h1]
  · by_cases h2 : y < x
    · have h3 : ¬ x = y := by omega
      simp [h1, h2, h3]
    · have h3 : x = y := by omega
      simp [h1, h2, h3]
theorem wrap64_inj {a c : Int} (ha : 0 ≤ a ∧ a < 18446744073709551616) (hc : 0 ≤ c ∧ c < 18446744073709551616) : decide (wrap64 a = wrap64 c) = (a == c) := by
  have : wrap64 a = wrap64 c ↔ a = c := by unfold wrap64; omega
  by_cases h : a = c
  · subst h; simp
  · simp [this, h]
theorem ord_cmp (s : List UInt8) (hs : s = [60] ∨ s = [62] ∨ s = [60, 61] ∨ s = [62, 61]) {a c : Vl} (ha : okV a) (hc : okV c) : ordM s a.b c.b (a.u || c.u) = cmpR s a c := by
  obtain ⟨ab, au⟩ := a
  obtain ⟨cb, cu⟩ := c
  have f1 := cmp_facts ab cb
  have f2 := cmp_facts (wrap64 ab) (wrap64 cb)
  have hi := wrap64_inj ha hc
  have he : decide (ab = cb) = (ab == cb) := by by_cases h : ab = cb <;> simp [h]
  rw [he] at f1
  simp only at hi
  rw [hi] at f2
  obtain ⟨p1, p2, p3, p4⟩ := f1
  obtain ⟨q1, q2, q3, q4⟩ := f2
  unfold ordM cmpR lessR
  cases au <;> cases cu <;> rcases hs with rfl | rfl | rfl | rfl
  all_goals (simp only [Bool.or_false, Bool.or_true, Bool.or_self, Bool.false_eq_true, if_true, if_false]; first | exact p1 | exact p2 | exact p3 | exact p4 | exact q1 | exact q2 | exact q3 | exact q4)
/-- A sign between two, but && and ||. -/
def sixteen (s : List UInt8) : Prop := s = [42] ∨ s = [43] ∨ s = [45] ∨ s = [38] ∨ s = [94] ∨ s = [124] ∨ s = [47] ∨ s = [37] ∨ s = [60, 60] ∨ s = [62, 62] ∨ s = [60] ∨ s = [62] ∨ s = [60, 61] ∨ s = [62, 61] ∨ s = [61, 61] ∨ s = [33, 61]
theorem sixteen_of {s : List UInt8} (h : levM s ≠ 0) (h2 : s ≠ [124, 124]) (h3 : s ≠ [38, 38]) : sixteen s := by
  refine Classical.byContradiction fun hn => h ?_
  simp only [sixteen, not_or] at hn
  unfold levM
  simp [hn, h2, h3]
theorem ap_end {w W W2 : World} {b : Nat} {v : Value} {k : Int} {a c : Vl} {o ok : Bool} (h : Th w W b v k ok a c) (hf : Fb b W W2) (hp : Pb W2 b v k o) (x : Int) (u : Bool) :
    RB ((W2.setCell ⟨w.heap.size + 2, 0, none⟩ (.int .u64 x)).setCell ⟨w.heap.size + 2, 1, none⟩ (.bool u)) (w.heap.size + 2) x u ∧ Pb ((W2.setCell ⟨w.heap.size + 2, 0, none⟩ (.int .u64 x)).setCell ⟨w.heap.size + 2, 1, none⟩ (.bool u)) b v k o ∧ Fb b w ((W2.setCell ⟨w.heap.size + 2, 0, none⟩ (.int .u64 x)).setCell ⟨w.heap.size + 2, 1, none⟩ (.bool u)) := by
  have := h.lt
  have hr := h.r.fb hf (by omega)
  have hff := h.f.trans hf
  exact ⟨hr.put x u, (hp.other (by omega)).other (by omega), (hff.setCell (.inr (by omega)) (by omega) _).setCell (.inr (by omega)) (by omega) _⟩
set_option maxRecDepth 100000 in
set_option maxHeartbeats 8000000 in
theorem apply_plain (s : List UInt8) (hs : s = [42] ∨ s = [43] ∨ s = [45] ∨ s = [38] ∨ s = [94] ∨ s = [124]) (a c : Vl) (live : Bool) (b : Nat) (v : Value) (k : Int) (ok : Bool) (w : World) (hP : Pb w b v k ok) :
    Calls Tryz.prog 34 #[.pointer (some ⟨b, 0, none⟩), .string ⟨s.toArray⟩, a.v, c.v, .bool live] w fun e w' => e = .returned (Vl.v ⟨joinM s a.b c.b, a.u || c.u⟩) ∧ Pb w' b v k ok ∧ Fb b w w' := by
  obtain ⟨ab, au⟩ := a
  obtain ⟨cb, cu⟩ := c
  have HT := hide (th_made hP ab cb au cu)
  have hlt := hP.lt
  simp only [Vl.v] at *
  clear hP
  rcases hs with rfl | rfl | rfl | rfl | rfl | rfl <;> cases au
  all_goals (
    go_enter Tryz.func34, Tryz.ntmps34
    go_upto_region 1 with fail
    generalize (((w.alloc (.cells #[.int .u64 ab, .bool _] 44)).alloc (.cells #[.int .u64 cb, .bool cu] 44)).alloc (.cells #[.int .u64 0, .bool false] 44)) = W at *
    obtain ⟨a0, a1⟩ := (unhide HT).a.two
    obtain ⟨c0, c1⟩ := (unhide HT).c.two
    obtain ⟨r0, r1⟩ := (unhide HT).r.two
    have fr0 := (unhide HT).r.frozen 0
    have fr1 := (unhide HT).r.frozen 1
    go_wp2
    obtain ⟨g1, g2, g3⟩ := th_end (unhide HT) _ _
    exact bodyPost_ret (res_x (f := Tryz.f34) rfl rfl g1 rfl) rfl ⟨rfl, g2, g3⟩)
set_option maxRecDepth 100000 in
set_option maxHeartbeats 8000000 in
theorem apply_divide (s : List UInt8) (hs : s = [47] ∨ s = [37]) (a c : Vl) (hc : okV c) (live : Bool) (b : Nat) (v : Value) (k : Int) (ok : Bool) (w : World) (hP : Pb w b v k ok) :
    Calls Tryz.prog 34 #[.pointer (some ⟨b, 0, none⟩), .string ⟨s.toArray⟩, a.v, c.v, .bool live] w fun e w' => e = .returned (Vl.v ⟨(divM s a.b c.b (a.u || c.u)).1, a.u || c.u⟩) ∧ Pb w' b v k (ok && (!live || (divM s a.b c.b (a.u || c.u)).2)) ∧ Fb b w w' := by
  have HD := hide (fun W (h : Pb W b v k ok) => divide_any s hs a c hc.1 hc.2 live b v k ok W h)
  obtain ⟨ab, au⟩ := a
  obtain ⟨cb, cu⟩ := c
  have HT := hide (th_made hP ab cb au cu)
  have hlt := hP.lt
  simp only [Vl.v] at *
  generalize divM s ab cb (au || cu) = D at *
  obtain ⟨d, dk⟩ := D
  simp only at HD
  clear hP hc
  rcases hs with rfl | rfl <;> cases au
  all_goals (
    go_enter Tryz.func34, Tryz.ntmps34
    go_upto_region 1 with fail
    generalize (((w.alloc (.cells #[.int .u64 ab, .bool _] 44)).alloc (.cells #[.int .u64 cb, .bool cu] 44)).alloc (.cells #[.int .u64 0, .bool false] 44)) = W at *
    obtain ⟨a0, a1⟩ := (unhide HT).a.two
    obtain ⟨c0, c1⟩ := (unhide HT).c.two
    have H2 := hide (unhide HD W (unhide HT).p)
    go_wp2_with fail
    refine (unhide H2).mono ?_
    rintro e W2 ⟨rfl, hp2, hf2⟩
    have hr2 := (unhide HT).r.fb hf2 (by omega)
    obtain ⟨r0, r1⟩ := hr2.two
    have fr0 := hr2.frozen 0
    have fr1 := hr2.frozen 1
    have HP2 := hide hp2
    have HF2 := hide hf2
    clear hr2 hp2 hf2 H2
    go_wp2
    obtain ⟨g1, g2, g3⟩ := ap_end (unhide HT) (unhide HF2) (unhide HP2) _ _
    exact bodyPost_ret (res_x (f := Tryz.f34) rfl rfl g1 rfl) rfl ⟨rfl, g2, g3⟩)
set_option maxRecDepth 100000 in
set_option maxHeartbeats 8000000 in
theorem apply_shift (s : List UInt8) (hs : s = [60, 60] ∨ s = [62, 62]) (a c : Vl) (hc : okV c) (live : Bool) (b : Nat) (v : Value) (k : Int) (ok : Bool) (w : World) (hP : Pb w b v k ok) :
    Calls Tryz.prog 34 #[.pointer (some ⟨b, 0, none⟩), .string ⟨s.toArray⟩, a.v, c.v, .bool live] w fun e w' => e = .returned (Vl.v ⟨(shiftM s a c.b).1, a.u⟩) ∧ Pb w' b v k (ok && (!live || (shiftM s a c.b).2)) ∧ Fb b w w' := by
  have HD := hide (fun W (h : Pb W b v k ok) => shift_any s hs a c hc.1 live b v k ok W h)
  obtain ⟨ab, au⟩ := a
  obtain ⟨cb, cu⟩ := c
  have HT := hide (th_made hP ab cb au cu)
  have hlt := hP.lt
  simp only [Vl.v] at *
  generalize shiftM s ⟨ab, au⟩ cb = D at *
  obtain ⟨d, dk⟩ := D
  simp only at HD
  clear hP hc
  rcases hs with rfl | rfl <;> cases au
  all_goals (
    go_enter Tryz.func34, Tryz.ntmps34
    go_upto_region 1 with fail
    generalize (((w.alloc (.cells #[.int .u64 ab, .bool _] 44)).alloc (.cells #[.int .u64 cb, .bool cu] 44)).alloc (.cells #[.int .u64 0, .bool false] 44)) = W at *
    obtain ⟨a0, a1⟩ := (unhide HT).a.two
    obtain ⟨c0, c1⟩ := (unhide HT).c.two
    have H2 := hide (unhide HD W (unhide HT).p)
    go_wp2_with fail
    refine (unhide H2).mono ?_
    rintro e W2 ⟨rfl, hp2, hf2⟩
    have hr2 := (unhide HT).r.fb hf2 (by omega)
    obtain ⟨r0, r1⟩ := hr2.two
    have fr0 := hr2.frozen 0
    have fr1 := hr2.frozen 1
    have HP2 := hide hp2
    have HF2 := hide hf2
    clear hr2 hp2 hf2 H2
    go_wp2
    obtain ⟨g1, g2, g3⟩ := ap_end (unhide HT) (unhide HF2) (unhide HP2) _ _
    exact bodyPost_ret (res_x (f := Tryz.f34) rfl rfl g1 rfl) rfl ⟨rfl, g2, g3⟩)
set_option maxRecDepth 100000 in
set_option maxHeartbeats 8000000 in
theorem apply_compare (s : List UInt8) (hs : s = [60] ∨ s = [62] ∨ s = [60, 61] ∨ s = [62, 61] ∨ s = [61, 61] ∨ s = [33, 61]) (a c : Vl) (live : Bool) (b : Nat) (v : Value) (k : Int) (ok : Bool) (w : World) (hP : Pb w b v k ok) :
    Calls Tryz.prog 34 #[.pointer (some ⟨b, 0, none⟩), .string ⟨s.toArray⟩, a.v, c.v, .bool live] w fun e w' => e = .returned (truthM (cmpR s a c)).v ∧ Pb w' b v k ok ∧ Fb b w w' := by
  have HD := hide (fun W => compare_any s hs a c W)
  obtain ⟨ab, au⟩ := a
  obtain ⟨cb, cu⟩ := c
  have HT := hide (th_made hP ab cb au cu)
  have hlt := hP.lt
  generalize truthM (cmpR s ⟨ab, au⟩ ⟨cb, cu⟩) = D at *
  obtain ⟨d, dk⟩ := D
  simp only [Vl.v] at *
  clear hP
  rcases hs with rfl | rfl | rfl | rfl | rfl | rfl <;> cases au
  all_goals (
    go_enter Tryz.func34, Tryz.ntmps34
    go_upto_region 1 with fail
    generalize (((w.alloc (.cells #[.int .u64 ab, .bool _] 44)).alloc (.cells #[.int .u64 cb, .bool cu] 44)).alloc (.cells #[.int .u64 0, .bool false] 44)) = W at *
    obtain ⟨a0, a1⟩ := (unhide HT).a.two
    obtain ⟨c0, c1⟩ := (unhide HT).c.two
    go_wp2_with fail
    refine (unhide HD _).mono ?_
    rintro e W2 ⟨rfl, hb2⟩
    have hr2 := (unhide HT).r.next hb2
    obtain ⟨r0, r1⟩ := hr2.two
    have fr0 := hr2.frozen 0
    have fr1 := hr2.frozen 1
    have HP2 := hide ((unhide HT).p.next hb2)
    have HF2 := hide (Fb.of hb2 (Nat.le_of_lt (unhide HT).p.lt))
    clear hr2 hb2
    go_wp2
    obtain ⟨g1, g2, g3⟩ := ap_end (unhide HT) (unhide HF2) (unhide HP2) _ _
    exact bodyPost_ret (res_x (f := Tryz.f34) rfl rfl g1 rfl) rfl ⟨rfl, g2, g3⟩)
/-- A sign between two, but && and ||. -/
theorem apply_any (s : List UInt8) (hs : sixteen s) (a c : Vl) (ha : okV a) (hc : okV c) (live : Bool) (b : Nat) (v : Value) (k : Int) (ok : Bool) (w : World) (hP : Pb w b v k ok) :
    Calls Tryz.prog 34 #[.pointer (some ⟨b, 0, none⟩), .string ⟨s.toArray⟩, a.v, c.v, .bool live] w fun e w' => e = .returned (ofM ⟨s, levM s, a, false, false⟩ c).1.v ∧ Pb w' b v k (ok && (!live || (ofM ⟨s, levM s, a, false, false⟩ c).2)) ∧ Fb b w w' := by
  rcases hs with rfl | rfl | rfl | rfl | rfl | rfl | rfl | rfl | rfl | rfl | rfl | rfl | rfl | rfl | rfl | rfl
  iterate 6
    · refine (apply_plain _ (by simp) a c live b v k ok w hP).mono fun e w' ⟨h1, h2, h3⟩ => ⟨h1, ?_, h3⟩
      have : (ok && (!live || true)) = ok := by simp
      exact this.symm ▸ h2
  · exact apply_divide _ (.inl rfl) a c hc live b v k ok w hP
  · exact apply_divide _ (.inr rfl) a c hc live b v k ok w hP
  · exact apply_shift _ (.inl rfl) a c hc live b v k ok w hP
  · exact apply_shift _ (.inr rfl) a c hc live b v k ok w hP
  iterate 4
    · refine (apply_compare _ (by simp) a c live b v k ok w hP).mono fun e w' ⟨h1, h2, h3⟩ => ⟨?_, ?_, h3⟩
      · rw [h1, ← ord_cmp _ (by simp) ha hc]; rfl
      · have : (ok && (!live || true)) = ok := by simp
        exact this.symm ▸ h2
  · refine (apply_compare _ (by simp) a c live b v k ok w hP).mono fun e w' ⟨h1, h2, h3⟩ => ⟨?_, ?_, h3⟩
    · rw [h1]
      have e : cmpR [61, 61] a c = ((a.b == c.b) == true) := by
        show (a.b == c.b) = _
        cases a.b == c.b <;> rfl
      rw [e]; rfl
    · have : (ok && (!live || true)) = ok := by simp
      exact this.symm ▸ h2
  · refine (apply_compare _ (by simp) a c live b v k ok w hP).mono fun e w' ⟨h1, h2, h3⟩ => ⟨?_, ?_, h3⟩
    · rw [h1]
      have e : cmpR [33, 61] a c = ((a.b == c.b) == false) := by
        show (!(a.b == c.b)) = _
        cases a.b == c.b <;> rfl
      rw [e]; rfl
    · have : (ok && (!live || true)) = ok := by simp
      exact this.symm ▸ h2
end Go.Proofs.YtfghfohlcofdpaaGreatDoor
