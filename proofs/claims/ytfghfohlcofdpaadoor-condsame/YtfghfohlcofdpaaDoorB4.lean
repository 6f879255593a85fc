/-
  Package cond: close.
-/
import Derived.Test.YtfghfohlcofdpaaDoorB3
namespace Go.Proofs.YtfghfohlcofdpaaDoor
open Go Go.RowKit
set_option linter.unusedVariables false
set_option linter.unusedSimpArgs false

theorem settleM_len (l : Int) : ∀ (st : List Wt) (und : Bool) (v : Vl), (settleM l st und v).1.length ≤ st.length
  | [], und, v => by simp [settleM]
  | x :: st, und, v => by
    rw [settleM]
    split
    · have := settleM_len l st (und || (!(ofM x v).2 && skN st == 0)) (ofM x v).1
      simp only [List.length_cons]
      omega
    · exact Nat.le_refl _
theorem settleM_ok (l : Int) : ∀ (st : List Wt) (und : Bool) (v : Vl), okV v → (∀ y ∈ st, okV y.a) → okV (settleM l st und v).2.2 ∧ ∀ y ∈ (settleM l st und v).1, okV y.a
  | [], und, v, hv, hs => by simp only [settleM]; exact ⟨hv, hs⟩
  | x :: st, und, v, hv, hs => by
    rw [settleM]
    split
    · exact settleM_ok l st _ _ (ok_of (hs x (List.mem_cons_self ..)) hv) (fun y hy => hs y (List.mem_cons_of_mem _ hy))
    · exact ⟨hv, hs⟩
theorem leaveM_len (sg : List UInt8) (st : List Wt) : (leaveM sg st).2.2.length ≤ st.length := by
  cases st with
  | nil => exact Nat.le_refl _
  | cons x r =>
    simp only [leaveM]
    split
    · simp
    · exact Nat.le_refl _
theorem leaveM_ok (sg : List UInt8) {st : List Wt} (h : ∀ y ∈ st, okV y.a) : ∀ y ∈ (leaveM sg st).2.2, okV y.a := by
  cases st with
  | nil => exact h
  | cons x r =>
    simp only [leaveM]
    split
    · exact fun y hy => h y (List.mem_cons_of_mem _ hy)
    · exact h
/-- What waits, and whether something was undefined. -/
abbrev RS := List Wt × Bool
/-- The operand that an open bracket waits for ends. -/
def closeM (t : Gt) (st : List Wt) (und : Bool) (v : Vl) : Vl × Bool × List Wt × Bool :=
  if t.kind != 5 || t.s != [41] then (⟨0, false⟩, false, st, und)
  else ((settleM 1 st und v).2.2, (leaveM [40] (settleM 1 st und v).1).2.1, (leaveM [40] (settleM 1 st und v).1).2.2, (settleM 1 st und v).2.1)
set_option maxRecDepth 100000 in
set_option maxHeartbeats 8000000 in
theorem close_any (R : Nat) (vv : Value) (t : Gt) (v : Vl) (st : List Wt) (und : Bool) (w : World) (h : Rk w R vv st und) (hv : okV v) (hok : ∀ y ∈ st, okV y.a) :
    Calls Tryd.prog 38 #[.pointer (some ⟨R, 0, none⟩), t.v, v.v] w fun e w' => e = .returned (.tuple #[(closeM t st und v).1.v, .bool (closeM t st und v).2.1]) ∧ (∃ v', Rk w' R v' (closeM t st und v).2.2.1 (closeM t st und v).2.2.2) ∧ Fk R w w' := by
  have hlR := h.lt
  obtain ⟨kind, s, f, line, sp, fi⟩ := t
  have HSE := hide (fun W (hk : Rk W R vv st und) => settle_any R vv v 1 st und W hk hv hok)
  have HLV := hide (fun vv' W (hk : Rk W R vv' (settleM 1 st und v).1 (settleM 1 st und v).2.1) => leave_any R vv' [40] (settleM 1 st und v).1 (settleM 1 st und v).2.1 W hk)
  have HR : Hid (closeM ⟨kind, s, f, line, sp, fi⟩ st und v = if kind != 5 || s != [41] then (⟨0, false⟩, false, st, und) else ((settleM 1 st und v).2.2, (leaveM [40] (settleM 1 st und v).1).2.1, (leaveM [40] (settleM 1 st und v).1).2.2, (settleM 1 st und v).2.1)) := rfl
  generalize closeM ⟨kind, s, f, line, sp, fi⟩ st und v = C at *
  generalize settleM 1 st und v = S at *
  obtain ⟨st1, und1, ⟨sb, su⟩⟩ := S
  simp only at HLV HR HSE
  generalize leaveM [40] st1 = L at *
  obtain ⟨⟨lsg, llv, ⟨lb, lu⟩, ltk, lsk⟩, lok, st2⟩ := L
  simp only at HLV HR
  obtain ⟨b, u⟩ := v
  generalize ho1 : (.cells #[.int .i64 kind, .string ⟨s.toArray⟩, .string ⟨f.toArray⟩, .int .i64 line, .bool sp, .bool fi] 35 : Obj) = o1
  have z1 : (w.alloc o1).heap.size = w.heap.size + 1 := by simp
  have z2 : ((w.alloc o1).alloc (.cells #[.int .u64 b, .bool u] 44)).heap.size = w.heap.size + 1 + 1 := by simp
  have b1 := below_new w o1
  have b2 := below_new (w.alloc o1) (.cells #[.int .u64 b, .bool u] 44)
  have b3 := below_new ((w.alloc o1).alloc (.cells #[.int .u64 b, .bool u] 44)) (.cells #[.int .u64 0, .bool false] 44)
  have HK := hide (((h.next b1).next b2).next b3)
  have HF := hide (((Fk.of (R := R) b1 (by omega)).trans (Fk.of (R := R) b2 (by omega))).trans (Fk.of (R := R) b3 (by omega)))
  have HV : Hid (VBox (((w.alloc o1).alloc (.cells #[.int .u64 b, .bool u] 44)).alloc (.cells #[.int .u64 0, .bool false] 44)) (w.heap.size + 1) (.int .u64 b) u) := by
    have a := World.alloc_heap_new (w.alloc o1) (.cells #[.int .u64 b, .bool u] 44)
    rw [z1] at a
    exact (b3.block _ (by omega)).trans a
  have HQ : Hid (VBox (((w.alloc o1).alloc (.cells #[.int .u64 b, .bool u] 44)).alloc (.cells #[.int .u64 0, .bool false] 44)) (w.heap.size + 1 + 1) (.int .u64 0) false) := by
    have a := World.alloc_heap_new ((w.alloc o1).alloc (.cells #[.int .u64 b, .bool u] 44)) (.cells #[.int .u64 0, .bool false] 44)
    rw [z2] at a
    exact a
  subst ho1
  simp only [Gt.v, Vl.v] at *
  clear h hv hok b1 b2 b3 z1 z2
  cases hk : kind != 5
  · cases hs : s != [41]
    · have hs0 : (s == [41]) = true := by simpa [bne] using hs
      rw [hk, hs] at HR
      simp only [Bool.or_self, Bool.false_eq_true, if_false] at HR
      obtain rfl := unhide HR
      simp only
      have H1 := hide (unhide HSE _ (unhide HK))
      go_enter Tryd.func38, Tryd.ntmps38
      go_wp2_with fail
      refine (unhide H1).mono ?_
      rintro e W1 ⟨rfl, ⟨v1, hk1⟩, hf1⟩
      have hv1 := (unhide HV).fk hf1
      have hq1 := (unhide HQ).fk hf1
      obtain ⟨c0, c1⟩ := hv1.two
      have f0 := hv1.frozen 0
      have f1 := hv1.frozen 1
      have hkp := hk1.putV hv1 (.int .u64 sb) su
      have HF1 := hide (((unhide HF).trans hf1).putV (M := w.heap.size + 1) (by omega) (by omega) (.int .u64 sb) su)
      have HV1 := hide (hv1.put (.int .u64 sb) su)
      have HQ1 := hide ((hq1.setCell (b' := w.heap.size + 1) (i := 0) (by omega) (.int .u64 sb)).setCell (b' := w.heap.size + 1) (i := 1) (by omega) (.bool su))
      have H2 := hide (unhide HLV _ _ hkp)
      simp only [put2, Wt.v] at H2 HF1 HV1
      clear hk1 hf1 hv1 hq1 hkp H1
      go_wp2_with fail
      refine (unhide H2).mono ?_
      rintro e W2 ⟨rfl, ⟨v2, hk2⟩, hf2⟩
      have hal := below_new W2 (.cells #[.string ⟨lsg.toArray⟩, .int .i64 llv, .int .u64 lb, .bool lu, .bool ltk, .bool lsk] 97)
      have hv2 := VBox.fk (unhide HV1) hf2
      have hq2 := VBox.fk (unhide HQ1) hf2
      have hv3 := hv2.below hal hv2.lt
      have hq3 := hq2.below hal hq2.lt
      have HK3 := hide ((hk2.next hal).putV hq3 (.int .u64 sb) su)
      have HF3 := hide ((((unhide HF1).trans hf2).trans (Fk.of (R := R) hal (Nat.le_of_lt hk2.lt))).putV (M := w.heap.size + 1 + 1) (by omega) (by omega) (.int .u64 sb) su)
      have HQ3 := hide (hq3.put (.int .u64 sb) su)
      clear c0 c1 f0 f1
      obtain ⟨c0, c1⟩ := hv3.two
      obtain ⟨d0, d1⟩ := hq3.two
      have f0 := hq3.frozen 0
      have f1 := hq3.frozen 1
      clear hv2 hq2 hv3 hq3 hk2 hf2 hal H2 HF1 HV1 HQ1
      go_wp2
      refine bodyPost_ret (res_vt (f := Tryd.f38) rfl rfl (unhide HQ3) rfl) rfl ⟨rfl, ⟨_, unhide HK3⟩, unhide HF3⟩
    · have hs0 : (s == [41]) = false := by simpa [bne] using hs
      rw [hk, hs] at HR
      simp only [Bool.or_true, if_true] at HR
      obtain rfl := unhide HR
      simp only
      go_enter Tryd.func38, Tryd.ntmps38
      go_wp2
      refine bodyPost_ret (res_vt (f := Tryd.f38) rfl rfl (unhide HQ) rfl) rfl ⟨rfl, ⟨_, unhide HK⟩, unhide HF⟩
  · rw [hk] at HR
    simp only [Bool.true_or, if_true] at HR
    obtain rfl := unhide HR
    simp only
    go_enter Tryd.func38, Tryd.ntmps38
    go_wp2
    refine bodyPost_ret (res_vt (f := Tryd.f38) rfl rfl (unhide HQ) rfl) rfl ⟨rfl, ⟨_, unhide HK⟩, unhide HF⟩
end Go.Proofs.YtfghfohlcofdpaaDoor
