/-
  Package cond: behind.
-/
import Derived.Test.YtfghfohlcofdpaaDoorB4
namespace Go.Proofs.YtfghfohlcofdpaaDoor
open Go Go.RowKit
set_option linter.unusedVariables false
set_option linter.unusedSimpArgs false

/-- Does what comes behind a sign not count? -/
def skipsM (lev : Int) (b : Int) : Bool := (lev == 3 && b == 0) || (lev == 2 && b != 0)
/-- A sign between two operands waits. -/
def behindM (t : Gt) (st : List Wt) (und : Bool) (v : Vl) : Bool × List Wt × Bool :=
  if t.kind != 5 then (false, st, und)
  else if t.s == [63] then
    (true, ⟨[63], 0, ⟨0, false⟩, (settleM 2 st und v).2.2.b != 0, (settleM 2 st und v).2.2.b == 0⟩ :: (settleM 2 st und v).1, (settleM 2 st und v).2.1)
  else if t.s == [58] then
    if (leaveM [63] (settleM 1 st und v).1).2.1 then
      (true, ⟨[58], 1, (settleM 1 st und v).2.2, (leaveM [63] (settleM 1 st und v).1).1.taken, (leaveM [63] (settleM 1 st und v).1).1.taken⟩ :: (leaveM [63] (settleM 1 st und v).1).2.2, (settleM 1 st und v).2.1)
    else (false, (leaveM [63] (settleM 1 st und v).1).2.2, (settleM 1 st und v).2.1)
  else if levM t.s == 0 then (false, st, und)
  else (true, ⟨t.s, levM t.s, (settleM (levM t.s) st und v).2.2, false, skipsM (levM t.s) (settleM (levM t.s) st und v).2.2.b⟩ :: (settleM (levM t.s) st und v).1, (settleM (levM t.s) st und v).2.1)
set_option maxRecDepth 100000 in
set_option maxHeartbeats 8000000 in
theorem behind_any (R : Nat) (vv : Value) (t : Gt) (v : Vl) (st : List Wt) (und : Bool) (w : World) (h : Rk w R vv st und) (hv : okV v) (hok : ∀ y ∈ st, okV y.a) (hst : st.length ≤ 1000000) :
    Calls Tryd.prog 37 #[.pointer (some ⟨R, 0, none⟩), t.v, v.v] w fun e w' => e = .returned (.bool (behindM t st und v).1) ∧ (∃ v', Rk w' R v' (behindM t st und v).2.1 (behindM t st und v).2.2) ∧ Fk R w w' := by
  have hlR := h.lt
  obtain ⟨kind, s, f, line, sp, fi⟩ := t
  have HSE := hide (fun l W (hk : Rk W R vv st und) => settle_any R vv v l st und W hk hv hok)
  have HLEN := hide (fun l => settleM_len l st und v)
  have HR : Hid (behindM ⟨kind, s, f, line, sp, fi⟩ st und v = (if kind != 5 then (false, st, und)
    else if s == [63] then
      (true, ⟨[63], 0, ⟨0, false⟩, (settleM 2 st und v).2.2.b != 0, (settleM 2 st und v).2.2.b == 0⟩ :: (settleM 2 st und v).1, (settleM 2 st und v).2.1)
    else if s == [58] then
      if (leaveM [63] (settleM 1 st und v).1).2.1 then
        (true, ⟨[58], 1, (settleM 1 st und v).2.2, (leaveM [63] (settleM 1 st und v).1).1.taken, (leaveM [63] (settleM 1 st und v).1).1.taken⟩ :: (leaveM [63] (settleM 1 st und v).1).2.2, (settleM 1 st und v).2.1)
      else (false, (leaveM [63] (settleM 1 st und v).1).2.2, (settleM 1 st und v).2.1)
    else if levM s == 0 then (false, st, und)
    else (true, ⟨s, levM s, (settleM (levM s) st und v).2.2, false, skipsM (levM s) (settleM (levM s) st und v).2.2.b⟩ :: (settleM (levM s) st und v).1, (settleM (levM s) st und v).2.1))) := rfl
  generalize behindM ⟨kind, s, f, line, sp, fi⟩ st und v = C at *
  obtain ⟨b, u⟩ := v
  generalize ho1 : (.cells #[.int .i64 kind, .string ⟨s.toArray⟩, .string ⟨f.toArray⟩, .int .i64 line, .bool sp, .bool fi] 35 : Obj) = o1
  have z1 : (w.alloc o1).heap.size = w.heap.size + 1 := by simp
  have b1 := below_new w o1
  have b2 := below_new (w.alloc o1) (.cells #[.int .u64 b, .bool u] 44)
  have HK := hide ((h.next b1).next b2)
  have HF := hide ((Fk.of (R := R) b1 (by omega)).trans (Fk.of (R := R) b2 (by omega)))
  have HV : Hid (VBox ((w.alloc o1).alloc (.cells #[.int .u64 b, .bool u] 44)) (w.heap.size + 1) (.int .u64 b) u) := by
    have a := World.alloc_heap_new (w.alloc o1) (.cells #[.int .u64 b, .bool u] 44)
    rw [z1] at a
    exact a
  have HG : Hid (((w.alloc o1).alloc (.cells #[.int .u64 b, .bool u] 44)).heap[w.heap.size]? = some o1) := (b2.block _ (by omega)).trans (World.alloc_heap_new w o1)
  subst ho1
  have HGB : Hid (GBox _ w.heap.size ⟨kind, s, f, line, sp, fi⟩) := HG
  simp only [Gt.v, Vl.v] at *
  clear h hv hok b1 b2 z1 HG
  cases hk : kind != 5
  · rw [hk] at HR
    simp only [Bool.false_eq_true, if_false] at HR
    cases h63 : s == [63]
    · rw [h63] at HR
      simp only [Bool.false_eq_true, if_false] at HR
      cases h58 : s == [58]
      · rw [h58] at HR
        simp only [Bool.false_eq_true, if_false] at HR
        have HLV := hide (fun W => levelOf_any s W)
        generalize hlev : levM s = lev at *
        cases hl0 : lev == 0
        · rw [hl0] at HR
          simp only [Bool.false_eq_true, if_false] at HR
          have H1 := hide (unhide HSE lev _ (unhide HK))
          have HL2 := hide (unhide HLEN lev)
          generalize settleM lev st und ⟨b, u⟩ = S at *
          obtain ⟨st1, und1, ⟨sb, su⟩⟩ := S
          simp only at H1 HR HL2
          have HPU := hide (fun x vv' W (hk : Rk W R vv' st1 und1) => push_any R vv' x st1 und1 W hk (Nat.le_trans (unhide HL2) hst))
          go_enter Tryd.func37, Tryd.ntmps37
          go_wp2_with (go_at_call 50; refine (unhide HLV _).mono ?_; rintro e w' ⟨rfl, hw'⟩; obtain rfl := hw'.symm)
          refine (unhide H1).mono ?_
          rintro e W1 ⟨rfl, ⟨v1, hk1⟩, hf1⟩
          have hv1 := (unhide HV).fk hf1
          obtain ⟨c0, c1⟩ := hv1.two
          have f0 := hv1.frozen 0
          have f1 := hv1.frozen 1
          have hg1 := GBox.fk (unhide HGB) hf1
          have hkp := hk1.putV hv1 (.int .u64 sb) su
          have HF1 := hide (((unhide HF).trans hf1).putV (M := w.heap.size + 1) (by omega) (by omega) (.int .u64 sb) su)
          obtain ⟨k0, k1⟩ := hg1.two
          have hnw : w.heap.size ≠ w.heap.size + 1 := by omega
          have H2 := hide (unhide HPU ⟨s, lev, ⟨sb, su⟩, false, skipsM lev sb⟩ _ _ hkp)
          have HSK : Hid (skipsM lev sb = ((lev == 3 && sb == 0) || (lev == 2 && sb != 0))) := rfl
          obtain rfl := unhide HR
          obtain ⟨sk, hske⟩ : ∃ sk, skipsM lev sb = sk := ⟨_, rfl⟩
          have HSKE := hide hske
          rw [hske] at H2 HSK
          clear hske
          simp only [put2, Wt.v] at H2 HF1
          simp only
          clear hk1 hf1 hv1 hkp H1 HPU hg1 HSE HLV HR
          cases hl3 : lev == 3
          · cases hl2 : lev == 2
            · rw [hl3, hl2] at HSK
              simp only [Bool.false_and, Bool.or_false, Bool.false_or] at HSK
              obtain rfl := unhide HSK
              go_wp2_with fail
              refine (unhide H2).mono ?_
              rintro e W2 ⟨rfl, ⟨v2, hk2⟩, hf2⟩
              have HK2 := hide hk2
              have HF2 := hide ((unhide HF1).trans hf2)
              clear hk2 hf2
              go_wp2
              go_ret
              exact ⟨rfl, ⟨_, by rw [unhide HSKE]; exact unhide HK2⟩, unhide HF2⟩
            · rw [hl3, hl2] at HSK
              simp only [Bool.false_and, Bool.true_and, Bool.or_false, Bool.false_or] at HSK
              obtain rfl := unhide HSK
              go_wp2_with fail
              refine (unhide H2).mono ?_
              rintro e W2 ⟨rfl, ⟨v2, hk2⟩, hf2⟩
              have HK2 := hide hk2
              have HF2 := hide ((unhide HF1).trans hf2)
              clear hk2 hf2
              go_wp2
              go_ret
              exact ⟨rfl, ⟨_, by rw [unhide HSKE]; exact unhide HK2⟩, unhide HF2⟩
          · have l3 : lev = 3 := by simpa using hl3
            subst l3
            have HSK2 : Hid (sk = (sb == 0)) := by rw [Hid, unhide HSK]; simp
            cases hb0 : sb == 0
            · rw [hb0] at HSK2
              obtain rfl := unhide HSK2
              clear HSK HSK2
              go_wp2_with fail
              refine (unhide H2).mono ?_
              rintro e W2 ⟨rfl, ⟨v2, hk2⟩, hf2⟩
              have HK2 := hide hk2
              have HF2 := hide ((unhide HF1).trans hf2)
              clear hk2 hf2
              go_wp2
              go_ret
              exact ⟨rfl, ⟨_, by rw [unhide HSKE]; exact unhide HK2⟩, unhide HF2⟩
            · rw [hb0] at HSK2
              obtain rfl := unhide HSK2
              clear HSK HSK2
              go_wp2_with fail
              refine (unhide H2).mono ?_
              rintro e W2 ⟨rfl, ⟨v2, hk2⟩, hf2⟩
              have HK2 := hide hk2
              have HF2 := hide ((unhide HF1).trans hf2)
              clear hk2 hf2
              go_wp2
              go_ret
              exact ⟨rfl, ⟨_, by rw [unhide HSKE]; exact unhide HK2⟩, unhide HF2⟩
        · rw [hl0] at HR
          simp only [if_true] at HR
          obtain rfl := unhide HR
          simp only
          go_enter Tryd.func37, Tryd.ntmps37
          go_wp2_with (go_at_call 50; refine (unhide HLV _).mono ?_; rintro e w' ⟨rfl, hw'⟩; obtain rfl := hw'.symm)
          go_ret
          exact ⟨rfl, ⟨_, unhide HK⟩, unhide HF⟩
      · rw [h58] at HR
        simp only [if_true] at HR
        have H1 := hide (unhide HSE 1 _ (unhide HK))
        have HL2 := hide (unhide HLEN 1)
        generalize settleM 1 st und ⟨b, u⟩ = S at *
        obtain ⟨st1, und1, ⟨sb, su⟩⟩ := S
        simp only at H1 HR HL2
        have HLV := hide (fun vv' W (hk : Rk W R vv' st1 und1) => leave_any R vv' [63] st1 und1 W hk)
        have HL3 := hide (leaveM_len [63] st1)
        generalize leaveM [63] st1 = L at *
        obtain ⟨⟨lsg, llv, ⟨lb, lu⟩, ltk, lsk⟩, lok, st2⟩ := L
        simp only at HLV HR HL3
        have HPU := hide (fun x vv' W (hk : Rk W R vv' st2 und1) => push_any R vv' x st2 und1 W hk (Nat.le_trans (unhide HL3) (Nat.le_trans (unhide HL2) hst)))
        go_enter Tryd.func37, Tryd.ntmps37
        go_wp2_with fail
        refine (unhide H1).mono ?_
        rintro e W1 ⟨rfl, ⟨v1, hk1⟩, hf1⟩
        have hv1 := (unhide HV).fk hf1
        obtain ⟨c0, c1⟩ := hv1.two
        have f0 := hv1.frozen 0
        have f1 := hv1.frozen 1
        have hkp := hk1.putV hv1 (.int .u64 sb) su
        have HF1 := hide (((unhide HF).trans hf1).putV (M := w.heap.size + 1) (by omega) (by omega) (.int .u64 sb) su)
        have HV1 := hide (hv1.put (.int .u64 sb) su)
        have H2 := hide (unhide HLV _ _ hkp)
        simp only [put2, Wt.v] at H2 HF1 HV1
        clear hk1 hf1 hv1 hkp H1 HSE HLV
        go_wp2_with fail
        refine (unhide H2).mono ?_
        rintro e W2 ⟨rfl, ⟨v2, hk2⟩, hf2⟩
        have hal := below_new W2 (.cells #[.string ⟨lsg.toArray⟩, .int .i64 llv, .int .u64 lb, .bool lu, .bool ltk, .bool lsk] 97)
        have hv2 := VBox.fk (unhide HV1) hf2
        have hv3 := hv2.below hal hv2.lt
        have hk3 := hk2.next hal
        have HF3 := hide (((unhide HF1).trans hf2).trans (Fk.of (R := R) hal (Nat.le_of_lt hk2.lt)))
        obtain ⟨⟨x0, x1, x2, x3, x4, x5⟩, _⟩ := sixes (World.alloc_heap_new W2 (.cells #[.string ⟨lsg.toArray⟩, .int .i64 llv, .int .u64 lb, .bool lu, .bool ltk, .bool lsk] 97))
        clear c0 c1 f0 f1
        obtain ⟨c0, c1⟩ := hv3.two
        have hne : w.heap.size + 1 ≠ W2.heap.size := by have := hv2.lt; omega
        have H3 := hide (unhide HPU ⟨[58], 1, ⟨sb, su⟩, ltk, ltk⟩ _ _ hk3)
        have HK3 := hide hk3
        simp only [Wt.v] at H3
        clear hv2 hv3 hk2 hk3 hf2 hal H2 HF1 HV1 HPU
        cases lok
        · simp only [Bool.false_eq_true, if_false] at HR
          obtain rfl := unhide HR
          simp only
          go_wp2
          go_ret
          exact ⟨rfl, ⟨_, unhide HK3⟩, unhide HF3⟩
        · simp only [if_true] at HR
          obtain rfl := unhide HR
          simp only
          go_wp2_with fail
          refine (unhide H3).mono ?_
          rintro e W4 ⟨rfl, ⟨v4, hk4⟩, hf4⟩
          have HK4 := hide hk4
          have HF4 := hide ((unhide HF3).trans hf4)
          clear hk4 hf4
          go_wp2
          go_ret
          exact ⟨rfl, ⟨_, unhide HK4⟩, unhide HF4⟩
    · rw [h63] at HR
      simp only [if_true] at HR
      have H1 := hide (unhide HSE 2 _ (unhide HK))
      have HL2 := hide (unhide HLEN 2)
      generalize settleM 2 st und ⟨b, u⟩ = S at *
      obtain ⟨st1, und1, ⟨sb, su⟩⟩ := S
      simp only at H1 HR HL2
      obtain rfl := unhide HR
      simp only
      have HPU := hide (fun x vv' W (hk : Rk W R vv' st1 und1) => push_any R vv' x st1 und1 W hk (Nat.le_trans (unhide HL2) hst))
      go_enter Tryd.func37, Tryd.ntmps37
      go_wp2_with fail
      refine (unhide H1).mono ?_
      rintro e W1 ⟨rfl, ⟨v1, hk1⟩, hf1⟩
      have hv1 := (unhide HV).fk hf1
      obtain ⟨c0, c1⟩ := hv1.two
      have f0 := hv1.frozen 0
      have f1 := hv1.frozen 1
      have hkp := hk1.putV hv1 (.int .u64 sb) su
      have HF1 := hide (((unhide HF).trans hf1).putV (M := w.heap.size + 1) (by omega) (by omega) (.int .u64 sb) su)
      have H2 := hide (unhide HPU ⟨[63], 0, ⟨0, false⟩, sb != 0, sb == 0⟩ _ _ hkp)
      simp only [put2, Wt.v] at H2 HF1
      clear hk1 hf1 hv1 hkp H1 HPU
      go_wp2_with fail
      refine (unhide H2).mono ?_
      rintro e W2 ⟨rfl, ⟨v2, hk2⟩, hf2⟩
      have HK2 := hide hk2
      have HF2 := hide ((unhide HF1).trans hf2)
      clear hk2 hf2
      go_wp2
      go_ret
      exact ⟨rfl, ⟨_, unhide HK2⟩, unhide HF2⟩
  · rw [hk] at HR
    simp only [if_true] at HR
    obtain rfl := unhide HR
    simp only
    go_enter Tryd.func37, Tryd.ntmps37
    go_wp2
    go_ret
    exact ⟨rfl, ⟨_, unhide HK⟩, unhide HF⟩
end Go.Proofs.YtfghfohlcofdpaaDoor
