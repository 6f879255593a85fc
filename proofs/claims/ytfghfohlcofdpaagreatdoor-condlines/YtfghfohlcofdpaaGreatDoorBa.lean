/-
  Package cond: ahead, close.
  Package cond: close.
  Package cond: behind.
  Package cond: reckon, for whatever operands are.
-/
import Derived.Test.YtfghfohlcofdpaaGreatDoorB2
namespace Go.Proofs.YtfghfohlcofdpaaGreatDoor
open Go Go.RowKit
set_option linter.unusedVariables false
set_option linter.unusedSimpArgs false

def Gt.v (t : Gt) : Value := .agg #[.int .i64 t.kind, .string ⟨t.s.toArray⟩, .string ⟨t.f.toArray⟩, .int .i64 t.line, .bool t.sp, .bool t.fi]
/-- A token in its box. -/
def GBox (W : World) (M : Nat) (t : Gt) : Prop := W.heap[M]? = some (.cells #[.int .i64 t.kind, .string ⟨t.s.toArray⟩, .string ⟨t.f.toArray⟩, .int .i64 t.line, .bool t.sp, .bool t.fi] 50 (0, 0))
theorem GBox.lt {W : World} {M : Nat} {t : Gt} (h : GBox W M t) : M < W.heap.size := (Array.getElem?_eq_some_iff.1 h).1
theorem GBox.fk {R M : Nat} {W W' : World} {t : Gt} (h : GBox W M t) (hf : Fk R W W') : GBox W' M t := by
  have h' : W.heap[M]? = _ := h
  exact (hf.keep M h.lt (fun cs fr => by rw [h']; simp) (fun cs fr => by rw [h']; simp)).trans h
theorem GBox.two {W : World} {M : Nat} {t : Gt} (h : GBox W M t) : W.cell? ⟨M, 0, none⟩ = some (.int .i64 t.kind) ∧ W.cell? ⟨M, 1, none⟩ = some (.string ⟨t.s.toArray⟩) := by
  refine ⟨?_, ?_⟩ <;> (rw [World.cell?, show W.heap[M]? = _ from h]; rfl)
/-- A sign that may stand ahead of an operand waits. -/
def aheadM (t : Gt) (st : List Wt) : Bool × List Wt :=
  if t.kind != 5 then (false, st)
  else if t.s == [40] then (true, ⟨[40], 0, ⟨0, false⟩, false, false⟩ :: st)
  else if t.s == [43] || t.s == [45] || t.s == [126] || t.s == [33] then (true, ⟨t.s, 12, ⟨0, false⟩, false, false⟩ :: st)
  else (false, st)
set_option maxRecDepth 100000 in
set_option maxHeartbeats 8000000 in
theorem ahead_any (R : Nat) (vv : Value) (t : Gt) (st : List Wt) (und : Bool) (w : World) (h : Rk w R vv st und) (hst : st.length ≤ 1000000) :
    Calls Tryz.prog 13 #[.pointer (some ⟨R, 0, none⟩), t.v] w fun e w' => e = .returned (.bool (aheadM t st).1) ∧ (∃ v', Rk w' R v' (aheadM t st).2 und) ∧ Fk R w w' := by
  have hlR := h.lt
  obtain ⟨kind, s, f, line, sp, fi⟩ := t
  have hb1 := below_new w (.cells #[.int .i64 kind, .string ⟨s.toArray⟩, .string ⟨f.toArray⟩, .int .i64 line, .bool sp, .bool fi] 50)
  have HK1 := hide (h.next hb1)
  have HF1 := hide (Fk.of (R := R) hb1 (by omega))
  have HP := hide (fun x W (hk : Rk W R vv st und) => push_any R vv x st und W hk hst)
  have HR : Hid (aheadM ⟨kind, s, f, line, sp, fi⟩ st = if kind != 5 then (false, st) else if s == [40] then (true, ⟨[40], 0, ⟨0, false⟩, false, false⟩ :: st) else if s == [43] || s == [45] || s == [126] || s == [33] then (true, ⟨s, 12, ⟨0, false⟩, false, false⟩ :: st) else (false, st)) := rfl
  generalize aheadM ⟨kind, s, f, line, sp, fi⟩ st = A at *
  simp only [Gt.v]
  clear h hb1
  cases hk : kind != 5
  · rw [hk] at HR
    simp only [Bool.false_eq_true, if_false] at HR
    cases h40 : s == [40]
    · rw [h40] at HR
      simp only [Bool.false_eq_true, if_false] at HR
      have HP2 := hide (unhide HP ⟨s, 12, ⟨0, false⟩, false, false⟩ _ (unhide HK1))
      simp only [Wt.v] at HP2
      cases h43 : s == [43] <;> cases h45 : s == [45] <;> cases h126 : s == [126] <;> cases h33 : s == [33]
      all_goals (
        simp only [h43, h45, h126, h33, Bool.false_or, Bool.true_or, Bool.or_true, Bool.or_false, Bool.false_eq_true, if_false, if_true] at HR
        obtain rfl := unhide HR
        go_enter Tryz.func13, Tryz.ntmps13
        first
        | (go_wp2_with fail
           refine (unhide HP2).mono ?_
           rintro e W2 ⟨rfl, ⟨v', hk2⟩, hf2⟩
           have HK2 := hide hk2
           have HF2 := hide ((unhide HF1).trans hf2)
           clear hk2 hf2
           go_wp2
           go_ret
           exact ⟨rfl, ⟨_, unhide HK2⟩, unhide HF2⟩)
        | (go_wp2
           go_ret
           exact ⟨rfl, ⟨_, unhide HK1⟩, unhide HF1⟩))
    · rw [h40] at HR
      simp only [if_true] at HR
      obtain rfl := unhide HR
      have HP2 := hide (unhide HP ⟨[40], 0, ⟨0, false⟩, false, false⟩ _ (unhide HK1))
      simp only [Wt.v] at HP2
      go_enter Tryz.func13, Tryz.ntmps13
      go_wp2_with fail
      refine (unhide HP2).mono ?_
      rintro e W2 ⟨rfl, ⟨v', hk2⟩, hf2⟩
      have HK2 := hide hk2
      have HF2 := hide ((unhide HF1).trans hf2)
      clear hk2 hf2
      go_wp2
      go_ret
      exact ⟨rfl, ⟨_, unhide HK2⟩, unhide HF2⟩
  · rw [hk] at HR
    simp only [if_true] at HR
    obtain rfl := unhide HR
    go_enter Tryz.func13, Tryz.ntmps13
    go_wp2
    go_ret
    exact ⟨rfl, ⟨_, unhide HK1⟩, unhide HF1⟩
end Go.Proofs.YtfghfohlcofdpaaGreatDoor
namespace Go.Proofs.YtfghfohlcofdpaaGreatDoor
open Go Go.RowKit
set_option linter.unusedVariables false
set_option linter.unusedSimpArgs false

theorem settleM_len (l : Int) : ∀ (st : List Wt) (und : Bool) (v : Vl), (settleM l st und v).1.length ≤ st.length
  | [], und, v => by simp [settleM]
  | x :: st, und, v => by
    rw [settleM]
    split
    · have := settleM_len l st (und || (!(ofM x v).2 && skN st == 0)) (ofM x v).1
      simp only [List.length_cons]
      omega
    · exact Nat.le_refl _
theorem settleM_ok (l : Int) : ∀ (st : List Wt) (und : Bool) (v : Vl), okV v → (∀ y ∈ st, okV y.a) → okV (settleM l st und v).2.2 ∧ ∀ y ∈ (settleM l st und v).1, okV y.a
  | [], und, v, hv, hs => by simp only [settleM]; exact ⟨hv, hs⟩
  | x :: st, und, v, hv, hs => by
    rw [settleM]
    split
    · exact settleM_ok l st _ _ (ok_of (hs x (List.mem_cons_self ..)) hv) (fun y hy => hs y (List.mem_cons_of_mem _ hy))
    · exact ⟨hv, hs⟩
theorem leaveM_len (sg : List UInt8) (st : List Wt) : (leaveM sg st).2.2.length ≤ st.length := by
  cases st with
  | nil => exact Nat.le_refl _
  | cons x r =>
    simp only [leaveM]
    split
    · simp
    · exact Nat.le_refl _
theorem leaveM_ok (sg : List UInt8) {st : List Wt} (h : ∀ y ∈ st, okV y.a) : ∀ y ∈ (leaveM sg st).2.2, okV y.a := by
  cases st with
  | nil => exact h
  | cons x r =>
    simp only [leaveM]
    split
    · exact fun y hy => h y (List.mem_cons_of_mem _ hy)
    · exact h
/-- What waits, and whether something was undefined. -/
abbrev RS := List Wt × Bool
/-- The operand that an open bracket waits for ends. -/
def closeM (t : Gt) (st : List Wt) (und : Bool) (v : Vl) : Vl × Bool × List Wt × Bool :=
  if t.kind != 5 || t.s != [41] then (⟨0, false⟩, false, st, und)
  else ((settleM 1 st und v).2.2, (leaveM [40] (settleM 1 st und v).1).2.1, (leaveM [40] (settleM 1 st und v).1).2.2, (settleM 1 st und v).2.1)
set_option maxRecDepth 100000 in
set_option maxHeartbeats 8000000 in
theorem close_any (R : Nat) (vv : Value) (t : Gt) (v : Vl) (st : List Wt) (und : Bool) (w : World) (h : Rk w R vv st und) (hv : okV v) (hok : ∀ y ∈ st, okV y.a) :
    Calls Tryz.prog 16 #[.pointer (some ⟨R, 0, none⟩), t.v, v.v] w fun e w' => e = .returned (.tuple #[(closeM t st und v).1.v, .bool (closeM t st und v).2.1]) ∧ (∃ v', Rk w' R v' (closeM t st und v).2.2.1 (closeM t st und v).2.2.2) ∧ Fk R w w' := by
  have hlR := h.lt
  obtain ⟨kind, s, f, line, sp, fi⟩ := t
  have HSE := hide (fun W (hk : Rk W R vv st und) => settle_any R vv v 1 st und W hk hv hok)
  have HLV := hide (fun vv' W (hk : Rk W R vv' (settleM 1 st und v).1 (settleM 1 st und v).2.1) => leave_any R vv' [40] (settleM 1 st und v).1 (settleM 1 st und v).2.1 W hk)
  have HR : Hid (closeM ⟨kind, s, f, line, sp, fi⟩ st und v = if kind != 5 || s != [41] then (⟨0, false⟩, false, st, und) else ((settleM 1 st und v).2.2, (leaveM [40] (settleM 1 st und v).1).2.1, (leaveM [40] (settleM 1 st und v).1).2.2, (settleM 1 st und v).2.1)) := rfl
  generalize closeM ⟨kind, s, f, line, sp, fi⟩ st und v = C at *
  generalize settleM 1 st und v = S at *
  obtain ⟨st1, und1, ⟨sb, su⟩⟩ := S
  simp only at HLV HR HSE
  generalize leaveM [40] st1 = L at *
  obtain ⟨⟨lsg, llv, ⟨lb, lu⟩, ltk, lsk⟩, lok, st2⟩ := L
  simp only at HLV HR
  obtain ⟨b, u⟩ := v
  generalize ho1 : (.cells #[.int .i64 kind, .string ⟨s.toArray⟩, .string ⟨f.toArray⟩, .int .i64 line, .bool sp, .bool fi] 50 : Obj) = o1
  have z1 : (w.alloc o1).heap.size = w.heap.size + 1 := by simp
  have z2 : ((w.alloc o1).alloc (.cells #[.int .u64 b, .bool u] 37)).heap.size = w.heap.size + 1 + 1 := by simp
  have b1 := below_new w o1
  have b2 := below_new (w.alloc o1) (.cells #[.int .u64 b, .bool u] 37)
  have b3 := below_new ((w.alloc o1).alloc (.cells #[.int .u64 b, .bool u] 37)) (.cells #[.int .u64 0, .bool false] 37)
  have HK := hide (((h.next b1).next b2).next b3)
  have HF := hide (((Fk.of (R := R) b1 (by omega)).trans (Fk.of (R := R) b2 (by omega))).trans (Fk.of (R := R) b3 (by omega)))
  have HV : Hid (VBox (((w.alloc o1).alloc (.cells #[.int .u64 b, .bool u] 37)).alloc (.cells #[.int .u64 0, .bool false] 37)) (w.heap.size + 1) (.int .u64 b) u) := by
    have a := World.alloc_heap_new (w.alloc o1) (.cells #[.int .u64 b, .bool u] 37)
    rw [z1] at a
    exact (b3.block _ (by omega)).trans a
  have HQ : Hid (VBox (((w.alloc o1).alloc (.cells #[.int .u64 b, .bool u] 37)).alloc (.cells #[.int .u64 0, .bool false] 37)) (w.heap.size + 1 + 1) (.int .u64 0) false) := by
    have a := World.alloc_heap_new ((w.alloc o1).alloc (.cells #[.int .u64 b, .bool u] 37)) (.cells #[.int .u64 0, .bool false] 37)
    rw [z2] at a
    exact a
  subst ho1
  simp only [Gt.v, Vl.v] at *
  clear h hv hok b1 b2 b3 z1 z2
  cases hk : kind != 5
  · cases hs : s != [41]
    · have hs0 : (s == [41]) = true := by simpa [bne] using hs
      rw [hk, hs] at HR
      simp only [Bool.or_self, Bool.false_eq_true, if_false] at HR
      obtain rfl := unhide HR
      simp only
      have H1 := hide (unhide HSE _ (unhide HK))
      go_enter Tryz.func16, Tryz.ntmps16
      go_wp2_with fail
      refine (unhide H1).mono ?_
      rintro e W1 ⟨rfl, ⟨v1, hk1⟩, hf1⟩
      have hv1 := (unhide HV).fk hf1
      have hq1 := (unhide HQ).fk hf1
      obtain ⟨c0, c1⟩ := hv1.two
      have f0 := hv1.frozen 0
      have f1 := hv1.frozen 1
      have hkp := hk1.putV hv1 (.int .u64 sb) su
      have HF1 := hide (((unhide HF).trans hf1).putV (M := w.heap.size + 1) (by omega) (by omega) (.int .u64 sb) su)
      have HV1 := hide (hv1.put (.int .u64 sb) su)
      have HQ1 := hide ((hq1.setCell (b' := w.heap.size + 1) (i := 0) (by omega) (.int .u64 sb)).setCell (b' := w.heap.size + 1) (i := 1) (by omega) (.bool su))
      have H2 := hide (unhide HLV _ _ hkp)
      simp only [put2, Wt.v] at H2 HF1 HV1
      clear hk1 hf1 hv1 hq1 hkp H1
      go_wp2_with fail
      refine (unhide H2).mono ?_
      rintro e W2 ⟨rfl, ⟨v2, hk2⟩, hf2⟩
      have hal := below_new W2 (.cells #[.string ⟨lsg.toArray⟩, .int .i64 llv, .int .u64 lb, .bool lu, .bool ltk, .bool lsk] 70)
      have hv2 := VBox.fk (unhide HV1) hf2
      have hq2 := VBox.fk (unhide HQ1) hf2
      have hv3 := hv2.below hal hv2.lt
      have hq3 := hq2.below hal hq2.lt
      have HK3 := hide ((hk2.next hal).putV hq3 (.int .u64 sb) su)
      have HF3 := hide ((((unhide HF1).trans hf2).trans (Fk.of (R := R) hal (Nat.le_of_lt hk2.lt))).putV (M := w.heap.size + 1 + 1) (by omega) (by omega) (.int .u64 sb) su)
      have HQ3 := hide (hq3.put (.int .u64 sb) su)
      clear c0 c1 f0 f1
      obtain ⟨c0, c1⟩ := hv3.two
      obtain ⟨d0, d1⟩ := hq3.two
      have f0 := hq3.frozen 0
      have f1 := hq3.frozen 1
      clear hv2 hq2 hv3 hq3 hk2 hf2 hal H2 HF1 HV1 HQ1
      go_wp2
      refine bodyPost_ret (res_vt (f := Tryz.f16) rfl rfl (unhide HQ3) rfl) rfl ⟨rfl, ⟨_, unhide HK3⟩, unhide HF3⟩
    · have hs0 : (s == [41]) = false := by simpa [bne] using hs
      rw [hk, hs] at HR
      simp only [Bool.or_true, if_true] at HR
      obtain rfl := unhide HR
      simp only
      go_enter Tryz.func16, Tryz.ntmps16
      go_wp2
      refine bodyPost_ret (res_vt (f := Tryz.f16) rfl rfl (unhide HQ) rfl) rfl ⟨rfl, ⟨_, unhide HK⟩, unhide HF⟩
  · rw [hk] at HR
    simp only [Bool.true_or, if_true] at HR
    obtain rfl := unhide HR
    simp only
    go_enter Tryz.func16, Tryz.ntmps16
    go_wp2
    refine bodyPost_ret (res_vt (f := Tryz.f16) rfl rfl (unhide HQ) rfl) rfl ⟨rfl, ⟨_, unhide HK⟩, unhide HF⟩
end Go.Proofs.YtfghfohlcofdpaaGreatDoor
namespace Go.Proofs.YtfghfohlcofdpaaGreatDoor
open Go Go.RowKit
set_option linter.unusedVariables false
set_option linter.unusedSimpArgs false

/-- Does what comes behind a sign not count? -/
def skipsM (lev : Int) (b : Int) : Bool := (lev == 3 && b == 0) || (lev == 2 && b != 0)
/-- A sign between two operands waits. -/
def behindM (t : Gt) (st : List Wt) (und : Bool) (v : Vl) : Bool × List Wt × Bool :=
  if t.kind != 5 then (false, st, und)
  else if t.s == [63] then
    (true, ⟨[63], 0, ⟨0, false⟩, (settleM 2 st und v).2.2.b != 0, (settleM 2 st und v).2.2.b == 0⟩ :: (settleM 2 st und v).1, (settleM 2 st und v).2.1)
  else if t.s == [58] then
    if (leaveM [63] (settleM 1 st und v).1).2.1 then
      (true, ⟨[58], 1, (settleM 1 st und v).2.2, (leaveM [63] (settleM 1 st und v).1).1.taken, (leaveM [63] (settleM 1 st und v).1).1.taken⟩ :: (leaveM [63] (settleM 1 st und v).1).2.2, (settleM 1 st und v).2.1)
    else (false, (leaveM [63] (settleM 1 st und v).1).2.2, (settleM 1 st und v).2.1)
  else if levM t.s == 0 then (false, st, und)
  else (true, ⟨t.s, levM t.s, (settleM (levM t.s) st und v).2.2, false, skipsM (levM t.s) (settleM (levM t.s) st und v).2.2.b⟩ :: (settleM (levM t.s) st und v).1, (settleM (levM t.s) st und v).2.1)
set_option maxRecDepth 100000 in
set_option maxHeartbeats 8000000 in
theorem behind_any (R : Nat) (vv : Value) (t : Gt) (v : Vl) (st : List Wt) (und : Bool) (w : World) (h : Rk w R vv st und) (hv : okV v) (hok : ∀ y ∈ st, okV y.a) (hst : st.length ≤ 1000000) :
    Calls Tryz.prog 15 #[.pointer (some ⟨R, 0, none⟩), t.v, v.v] w fun e w' => e = .returned (.bool (behindM t st und v).1) ∧ (∃ v', Rk w' R v' (behindM t st und v).2.1 (behindM t st und v).2.2) ∧ Fk R w w' := by
  have hlR := h.lt
  obtain ⟨kind, s, f, line, sp, fi⟩ := t
  have HSE := hide (fun l W (hk : Rk W R vv st und) => settle_any R vv v l st und W hk hv hok)
  have HLEN := hide (fun l => settleM_len l st und v)
  have HR : Hid (behindM ⟨kind, s, f, line, sp, fi⟩ st und v = (if kind != 5 then (false, st, und)
    else if s == [63] then
      (true, ⟨[63], 0, ⟨0, false⟩, (settleM 2 st und v).2.2.b != 0, (settleM 2 st und v).2.2.b == 0⟩ :: (settleM 2 st und v).1, (settleM 2 st und v).2.1)
    else if s == [58] then
      if (leaveM [63] (settleM 1 st und v).1).2.1 then
        (true, ⟨[58], 1, (settleM 1 st und v).2.2, (leaveM [63] (settleM 1 st und v).1).1.taken, (leaveM [63] (settleM 1 st und v).1).1.taken⟩ :: (leaveM [63] (settleM 1 st und v).1).2.2, (settleM 1 st und v).2.1)
      else (false, (leaveM [63] (settleM 1 st und v).1).2.2, (settleM 1 st und v).2.1)
    else if levM s == 0 then (false, st, und)
    else (true, ⟨s, levM s, (settleM (levM s) st und v).2.2, false, skipsM (levM s) (settleM (levM s) st und v).2.2.b⟩ :: (settleM (levM s) st und v).1, (settleM (levM s) st und v).2.1))) := rfl
  generalize behindM ⟨kind, s, f, line, sp, fi⟩ st und v = C at *
  obtain ⟨b, u⟩ := v
  generalize ho1 : (.cells #[.int .i64 kind, .string ⟨s.toArray⟩, .string ⟨f.toArray⟩, .int .i64 line, .bool sp, .bool fi] 50 : Obj) = o1
  have z1 : (w.alloc o1).heap.size = w.heap.size + 1 := by simp
  have b1 := below_new w o1
  have b2 := below_new (w.alloc o1) (.cells #[.int .u64 b, .bool u] 37)
  have HK := hide ((h.next b1).next b2)
  have HF := hide ((Fk.of (R := R) b1 (by omega)).trans (Fk.of (R := R) b2 (by omega)))
  have HV : Hid (VBox ((w.alloc o1).alloc (.cells #[.int .u64 b, .bool u] 37)) (w.heap.size + 1) (.int .u64 b) u) := by
    have a := World.alloc_heap_new (w.alloc o1) (.cells #[.int .u64 b, .bool u] 37)
    rw [z1] at a
    exact a
  have HG : Hid (((w.alloc o1).alloc (.cells #[.int .u64 b, .bool u] 37)).heap[w.heap.size]? = some o1) := (b2.block _ (by omega)).trans (World.alloc_heap_new w o1)
  subst ho1
  have HGB : Hid (GBox _ w.heap.size ⟨kind, s, f, line, sp, fi⟩) := HG
  simp only [Gt.v, Vl.v] at *
  clear h hv hok b1 b2 z1 HG
  cases hk : kind != 5
  · rw [hk] at HR
    simp only [Bool.false_eq_true, if_false] at HR
    cases h63 : s == [63]
    · rw [h63] at HR
      simp only [Bool.false_eq_true, if_false] at HR
      cases h58 : s == [58]
      · rw [h58] at HR
        simp only [Bool.false_eq_true, if_false] at HR
        have HLV := hide (fun W => levelOf_any s W)
        generalize hlev : levM s = lev at *
        cases hl0 : lev == 0
        · rw [hl0] at HR
          simp only [Bool.false_eq_true, if_false] at HR
          have H1 := hide (unhide HSE lev _ (unhide HK))
          have HL2 := hide (unhide HLEN lev)
          generalize settleM lev st und ⟨b, u⟩ = S at *
          obtain ⟨st1, und1, ⟨sb, su⟩⟩ := S
          simp only at H1 HR HL2
          have HPU := hide (fun x vv' W (hk : Rk W R vv' st1 und1) => push_any R vv' x st1 und1 W hk (Nat.le_trans (unhide HL2) hst))
          go_enter Tryz.func15, Tryz.ntmps15
          go_wp2_with (go_at_call 27; refine (unhide HLV _).mono ?_; rintro e w' ⟨rfl, hw'⟩; obtain rfl := hw'.symm)
          refine (unhide H1).mono ?_
          rintro e W1 ⟨rfl, ⟨v1, hk1⟩, hf1⟩
          have hv1 := (unhide HV).fk hf1
          obtain ⟨c0, c1⟩ := hv1.two
          have f0 := hv1.frozen 0
          have f1 := hv1.frozen 1
          have hg1 := GBox.fk (unhide HGB) hf1
          have hkp := hk1.putV hv1 (.int .u64 sb) su
          have HF1 := hide (((unhide HF).trans hf1).putV (M := w.heap.size + 1) (by omega) (by omega) (.int .u64 sb) su)
          obtain ⟨k0, k1⟩ := hg1.two
          have hnw : w.heap.size ≠ w.heap.size + 1 := by omega
          have H2 := hide (unhide HPU ⟨s, lev, ⟨sb, su⟩, false, skipsM lev sb⟩ _ _ hkp)
          have HSK : Hid (skipsM lev sb = ((lev == 3 && sb == 0) || (lev == 2 && sb != 0))) := rfl
          obtain rfl := unhide HR
          obtain ⟨sk, hske⟩ : ∃ sk, skipsM lev sb = sk := ⟨_, rfl⟩
          have HSKE := hide hske
          rw [hske] at H2 HSK
          clear hske
          simp only [put2, Wt.v] at H2 HF1
          simp only
          clear hk1 hf1 hv1 hkp H1 HPU hg1 HSE HLV HR
          cases hl3 : lev == 3
          · cases hl2 : lev == 2
            · rw [hl3, hl2] at HSK
              simp only [Bool.false_and, Bool.or_false, Bool.false_or] at HSK
              obtain rfl := unhide HSK
              go_wp2_with fail
              refine (unhide H2).mono ?_
              rintro e W2 ⟨rfl, ⟨v2, hk2⟩, hf2⟩
              have HK2 := hide hk2
              have HF2 := hide ((unhide HF1).trans hf2)
              clear hk2 hf2
              go_wp2
              go_ret
              exact ⟨rfl, ⟨_, by rw [unhide HSKE]; exact unhide HK2⟩, unhide HF2⟩
            · rw [hl3, hl2] at HSK
              simp only [Bool.false_and, Bool.true_and, Bool.or_false, Bool.false_or] at HSK
              obtain rfl := unhide HSK
              go_wp2_with fail
              refine (unhide H2).mono ?_
              rintro e W2 ⟨rfl, ⟨v2, hk2⟩, hf2⟩
              have HK2 := hide hk2
              have HF2 := hide ((unhide HF1).trans hf2)
              clear hk2 hf2
              go_wp2
              go_ret
              exact ⟨rfl, ⟨_, by rw [unhide HSKE]; exact unhide HK2⟩, unhide HF2⟩
          · have l3 : lev = 3 := by simpa using hl3
            subst l3
            have HSK2 : Hid (sk = (sb == 0)) := by rw [Hid, unhide HSK]; simp
            cases hb0 : sb == 0
            · rw [hb0] at HSK2
              obtain rfl := unhide HSK2
              clear HSK HSK2
              go_wp2_with fail
              refine (unhide H2).mono ?_
              rintro e W2 ⟨rfl, ⟨v2, hk2⟩, hf2⟩
              have HK2 := hide hk2
              have HF2 := hide ((unhide HF1).trans hf2)
              clear hk2 hf2
              go_wp2
              go_ret
              exact ⟨rfl, ⟨_, by rw [unhide HSKE]; exact unhide HK2⟩, unhide HF2⟩
            · rw [hb0] at HSK2
              obtain rfl := unhide HSK2
              clear HSK HSK2
              go_wp2_with fail
              refine (unhide H2).mono ?_
              rintro e W2 ⟨rfl, ⟨v2, hk2⟩, hf2⟩
              have HK2 := hide hk2
              have HF2 := hide ((unhide HF1).trans hf2)
              clear hk2 hf2
              go_wp2
              go_ret
              exact ⟨rfl, ⟨_, by rw [unhide HSKE]; exact unhide HK2⟩, unhide HF2⟩
        · rw [hl0] at HR
          simp only [if_true] at HR
          obtain rfl := unhide HR
          simp only
          go_enter Tryz.func15, Tryz.ntmps15
          go_wp2_with (go_at_call 27; refine (unhide HLV _).mono ?_; rintro e w' ⟨rfl, hw'⟩; obtain rfl := hw'.symm)
          go_ret
          exact ⟨rfl, ⟨_, unhide HK⟩, unhide HF⟩
      · rw [h58] at HR
        simp only [if_true] at HR
        have H1 := hide (unhide HSE 1 _ (unhide HK))
        have HL2 := hide (unhide HLEN 1)
        generalize settleM 1 st und ⟨b, u⟩ = S at *
        obtain ⟨st1, und1, ⟨sb, su⟩⟩ := S
        simp only at H1 HR HL2
        have HLV := hide (fun vv' W (hk : Rk W R vv' st1 und1) => leave_any R vv' [63] st1 und1 W hk)
        have HL3 := hide (leaveM_len [63] st1)
        generalize leaveM [63] st1 = L at *
        obtain ⟨⟨lsg, llv, ⟨lb, lu⟩, ltk, lsk⟩, lok, st2⟩ := L
        simp only at HLV HR HL3
        have HPU := hide (fun x vv' W (hk : Rk W R vv' st2 und1) => push_any R vv' x st2 und1 W hk (Nat.le_trans (unhide HL3) (Nat.le_trans (unhide HL2) hst)))
        go_enter Tryz.func15, Tryz.ntmps15
        go_wp2_with fail
        refine (unhide H1).mono ?_
        rintro e W1 ⟨rfl, ⟨v1, hk1⟩, hf1⟩
        have hv1 := (unhide HV).fk hf1
        obtain ⟨c0, c1⟩ := hv1.two
        have f0 := hv1.frozen 0
        have f1 := hv1.frozen 1
        have hkp := hk1.putV hv1 (.int .u64 sb) su
        have HF1 := hide (((unhide HF).trans hf1).putV (M := w.heap.size + 1) (by omega) (by omega) (.int .u64 sb) su)
        have HV1 := hide (hv1.put (.int .u64 sb) su)
        have H2 := hide (unhide HLV _ _ hkp)
        simp only [put2, Wt.v] at H2 HF1 HV1
        clear hk1 hf1 hv1 hkp H1 HSE HLV
        go_wp2_with fail
        refine (unhide H2).mono ?_
        rintro e W2 ⟨rfl, ⟨v2, hk2⟩, hf2⟩
        have hal := below_new W2 (.cells #[.string ⟨lsg.toArray⟩, .int .i64 llv, .int .u64 lb, .bool lu, .bool ltk, .bool lsk] 70)
        have hv2 := VBox.fk (unhide HV1) hf2
        have hv3 := hv2.below hal hv2.lt
        have hk3 := hk2.next hal
        have HF3 := hide (((unhide HF1).trans hf2).trans (Fk.of (R := R) hal (Nat.le_of_lt hk2.lt)))
        obtain ⟨⟨x0, x1, x2, x3, x4, x5⟩, _⟩ := sixes (World.alloc_heap_new W2 (.cells #[.string ⟨lsg.toArray⟩, .int .i64 llv, .int .u64 lb, .bool lu, .bool ltk, .bool lsk] 70))
        clear c0 c1 f0 f1
        obtain ⟨c0, c1⟩ := hv3.two
        have hne : w.heap.size + 1 ≠ W2.heap.size := by have := hv2.lt; omega
        have H3 := hide (unhide HPU ⟨[58], 1, ⟨sb, su⟩, ltk, ltk⟩ _ _ hk3)
        have HK3 := hide hk3
        simp only [Wt.v] at H3
        clear hv2 hv3 hk2 hk3 hf2 hal H2 HF1 HV1 HPU
        cases lok
        · simp only [Bool.false_eq_true, if_false] at HR
          obtain rfl := unhide HR
          simp only
          go_wp2
          go_ret
          exact ⟨rfl, ⟨_, unhide HK3⟩, unhide HF3⟩
        · simp only [if_true] at HR
          obtain rfl := unhide HR
          simp only
          go_wp2_with fail
          refine (unhide H3).mono ?_
          rintro e W4 ⟨rfl, ⟨v4, hk4⟩, hf4⟩
          have HK4 := hide hk4
          have HF4 := hide ((unhide HF3).trans hf4)
          clear hk4 hf4
          go_wp2
          go_ret
          exact ⟨rfl, ⟨_, unhide HK4⟩, unhide HF4⟩
    · rw [h63] at HR
      simp only [if_true] at HR
      have H1 := hide (unhide HSE 2 _ (unhide HK))
      have HL2 := hide (unhide HLEN 2)
      generalize settleM 2 st und ⟨b, u⟩ = S at *
      obtain ⟨st1, und1, ⟨sb, su⟩⟩ := S
      simp only at H1 HR HL2
      obtain rfl := unhide HR
      simp only
      have HPU := hide (fun x vv' W (hk : Rk W R vv' st1 und1) => push_any R vv' x st1 und1 W hk (Nat.le_trans (unhide HL2) hst))
      go_enter Tryz.func15, Tryz.ntmps15
      go_wp2_with fail
      refine (unhide H1).mono ?_
      rintro e W1 ⟨rfl, ⟨v1, hk1⟩, hf1⟩
      have hv1 := (unhide HV).fk hf1
      obtain ⟨c0, c1⟩ := hv1.two
      have f0 := hv1.frozen 0
      have f1 := hv1.frozen 1
      have hkp := hk1.putV hv1 (.int .u64 sb) su
      have HF1 := hide (((unhide HF).trans hf1).putV (M := w.heap.size + 1) (by omega) (by omega) (.int .u64 sb) su)
      have H2 := hide (unhide HPU ⟨[63], 0, ⟨0, false⟩, sb != 0, sb == 0⟩ _ _ hkp)
      simp only [put2, Wt.v] at H2 HF1
      clear hk1 hf1 hv1 hkp H1 HPU
      go_wp2_with fail
      refine (unhide H2).mono ?_
      rintro e W2 ⟨rfl, ⟨v2, hk2⟩, hf2⟩
      have HK2 := hide hk2
      have HF2 := hide ((unhide HF1).trans hf2)
      clear hk2 hf2
      go_wp2
      go_ret
      exact ⟨rfl, ⟨_, unhide HK2⟩, unhide HF2⟩
  · rw [hk] at HR
    simp only [if_true] at HR
    obtain rfl := unhide HR
    simp only
    go_enter Tryz.func15, Tryz.ntmps15
    go_wp2
    go_ret
    exact ⟨rfl, ⟨_, unhide HK⟩, unhide HF⟩
end Go.Proofs.YtfghfohlcofdpaaGreatDoor
namespace Go.Proofs.YtfghfohlcofdpaaGreatDoor
open Go Go.RowKit
set_option linter.unusedVariables false
set_option linter.unusedSimpArgs false

/-- What is told at the end. -/
def finM (st : List Wt) (und : Bool) (v : Vl) (ok : Bool) : Vl × Bool :=
  ((settleM 1 st und v).2.2, ok && ((settleM 1 st und v).1.isEmpty && !(settleM 1 st und v).2.1))
/-- A condition's value: none: an operand must come; else what stands behind one. -/
def reckM (opM : Gt → Vl × Bool) : List Gt → List Wt → Bool → Option (Vl × Bool) → Vl × Bool
  | [], st, und, none => (⟨0, false⟩, false)
  | t :: r, st, und, none => if (aheadM t st).1 then reckM opM r (aheadM t st).2 und none else reckM opM r st und (some (opM t))
  | [], st, und, some (v, ok) => finM st und v ok
  | t :: r, st, und, some (v, ok) =>
    if ok then
      if (behindM t st und v).1 then reckM opM r (behindM t st und v).2.1 (behindM t st und v).2.2 none
      else reckM opM r (closeM t (behindM t st und v).2.1 (behindM t st und v).2.2 v).2.2.1 (closeM t (behindM t st und v).2.1 (behindM t st und v).2.2 v).2.2.2 (some ((closeM t (behindM t st und v).2.1 (behindM t st und v).2.2 v).1, (closeM t (behindM t st und v).2.1 (behindM t st und v).2.2 v).2.1))
    else finM st und v false
theorem aheadM_false {t : Gt} {st : List Wt} (h : (aheadM t st).1 = false) : (aheadM t st).2 = st := by
  unfold aheadM at h ⊢
  split
  · rfl
  · split
    · simp_all
    · split
      · simp_all
      · rfl
theorem aheadM_len (t : Gt) (st : List Wt) : (aheadM t st).2.length ≤ st.length + 1 := by
  unfold aheadM
  split
  · simp
  · split
    · simp
    · split <;> simp
theorem aheadM_ok (t : Gt) {st : List Wt} (h : ∀ y ∈ st, okV y.a) : ∀ y ∈ (aheadM t st).2, okV y.a := by
  have h0 : okV ⟨0, false⟩ := ⟨by decide, by decide⟩
  unfold aheadM
  split
  · exact h
  · split
    · intro y hy
      rcases List.mem_cons.1 hy with rfl | hy
      · exact h0
      · exact h y hy
    · split
      · intro y hy
        rcases List.mem_cons.1 hy with rfl | hy
        · exact h0
        · exact h y hy
      · exact h
theorem behindM_len (t : Gt) (st : List Wt) (und : Bool) (v : Vl) : (behindM t st und v).2.1.length ≤ st.length + 1 := by
  have h1 := settleM_len 1 st und v
  have h2 := settleM_len 2 st und v
  have h3 := settleM_len (levM t.s) st und v
  have h4 := leaveM_len [63] (settleM 1 st und v).1
  unfold behindM
  split
  · simp
  · split
    · simp only [List.length_cons]; omega
    · split
      · split
        · simp only [List.length_cons]; omega
        · simp only; omega
      · split
        · simp
        · simp only [List.length_cons]; omega
theorem behindM_ok (t : Gt) {st : List Wt} (und : Bool) {v : Vl} (hv : okV v) (h : ∀ y ∈ st, okV y.a) : ∀ y ∈ (behindM t st und v).2.1, okV y.a := by
  have h0 : okV ⟨0, false⟩ := ⟨by decide, by decide⟩
  have h1 := settleM_ok 1 st und v hv h
  have h2 := settleM_ok 2 st und v hv h
  have h3 := settleM_ok (levM t.s) st und v hv h
  have h4 := leaveM_ok [63] h1.2
  unfold behindM
  split
  · exact h
  · split
    · intro y hy
      rcases List.mem_cons.1 hy with rfl | hy
      · exact h0
      · exact h2.2 y hy
    · split
      · split
        · intro y hy
          rcases List.mem_cons.1 hy with rfl | hy
          · exact h1.1
          · exact h4 y hy
        · exact h4
      · split
        · exact h
        · intro y hy
          rcases List.mem_cons.1 hy with rfl | hy
          · exact h3.1
          · exact h3.2 y hy
theorem closeM_len (t : Gt) (st : List Wt) (und : Bool) (v : Vl) : (closeM t st und v).2.2.1.length ≤ st.length := by
  have h1 := settleM_len 1 st und v
  have h4 := leaveM_len [40] (settleM 1 st und v).1
  unfold closeM
  split
  · exact Nat.le_refl _
  · simp only; omega
theorem closeM_ok (t : Gt) {st : List Wt} (und : Bool) {v : Vl} (hv : okV v) (h : ∀ y ∈ st, okV y.a) : okV (closeM t st und v).1 ∧ ∀ y ∈ (closeM t st und v).2.2.1, okV y.a := by
  have h0 : okV ⟨0, false⟩ := ⟨by decide, by decide⟩
  have h1 := settleM_ok 1 st und v hv h
  have h4 := leaveM_ok [40] h1.2
  unfold closeM
  split
  · exact ⟨h0, h⟩
  · exact ⟨h1.1, h4⟩
/-- What lies when a round of reckon begins. -/
structure Ro (w W0 wr : World) (opM : Gt → Vl × Bool) (l : List Gt) (Z : Vl × Bool) (i : Nat) (vv : Value) (st : List Wt) (und : Bool) (m : Option (Vl × Bool)) : Prop where
  rk : Rk wr (w.heap.size + 1) vv st und
  res : VBox wr w.heap.size (.int .u64 0) false
  fk : Fk (w.heap.size + 1) W0 wr
  oks : ∀ y ∈ st, okV y.a
  len : st.length ≤ i
  is : reckM opM (l.drop i) st und m = Z
theorem TkG.at {B : Nat} {W : World} {p : Option Addr} {n cap : Nat} {l : List Gt} (h : TkG B W (.slice p n cap) l) (k : Nat) (hk : k < l.length) : ∃ g o, p = some ⟨g, o, none⟩ ∧ g < B ∧
    W.cell? ⟨g, o + k * 6, none⟩ = some (.int .i64 l[k].kind) ∧ W.cell? ⟨g, o + k * 6 + 1, none⟩ = some (.string ⟨l[k].s.toArray⟩) ∧ W.cell? ⟨g, o + k * 6 + 2, none⟩ = some (.string ⟨l[k].f.toArray⟩) ∧
    W.cell? ⟨g, o + k * 6 + 3, none⟩ = some (.int .i64 l[k].line) ∧ W.cell? ⟨g, o + k * 6 + 4, none⟩ = some (.bool l[k].sp) ∧ W.cell? ⟨g, o + k * 6 + 5, none⟩ = some (.bool l[k].fi) := by
  obtain ⟨p', cap', e, hc⟩ := h
  obtain ⟨rfl, _, rfl⟩ : p = p' ∧ n = l.length ∧ cap = cap' := by simpa using e
  exact hc k hk
theorem six_keep {B g o : Nat} {W W' : World} {t : Gt} (hb : Below B W W') (hg : g < B) (h : W.cell? ⟨g, o, none⟩ = some (.int .i64 t.kind) ∧ W.cell? ⟨g, o + 1, none⟩ = some (.string ⟨t.s.toArray⟩) ∧ W.cell? ⟨g, o + 2, none⟩ = some (.string ⟨t.f.toArray⟩) ∧
    W.cell? ⟨g, o + 3, none⟩ = some (.int .i64 t.line) ∧ W.cell? ⟨g, o + 4, none⟩ = some (.bool t.sp) ∧ W.cell? ⟨g, o + 5, none⟩ = some (.bool t.fi)) :
    W'.cell? ⟨g, o, none⟩ = some (.int .i64 t.kind) ∧ W'.cell? ⟨g, o + 1, none⟩ = some (.string ⟨t.s.toArray⟩) ∧ W'.cell? ⟨g, o + 2, none⟩ = some (.string ⟨t.f.toArray⟩) ∧
    W'.cell? ⟨g, o + 3, none⟩ = some (.int .i64 t.line) ∧ W'.cell? ⟨g, o + 4, none⟩ = some (.bool t.sp) ∧ W'.cell? ⟨g, o + 5, none⟩ = some (.bool t.fi) := by
  have key : ∀ j u, W.cell? ⟨g, j, none⟩ = some u → W'.cell? ⟨g, j, none⟩ = some u := fun j u hu => (hb.cell (p := ⟨g, j, none⟩) hg).trans hu
  exact ⟨key _ _ h.1, key _ _ h.2.1, key _ _ h.2.2.1, key _ _ h.2.2.2.1, key _ _ h.2.2.2.2.1, key _ _ h.2.2.2.2.2⟩
end Go.Proofs.YtfghfohlcofdpaaGreatDoor
