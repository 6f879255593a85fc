/-
  Package cond: ahead, close.
-/
import Derived.Test.YtfghfohlcofdpaaDoorB2
namespace Go.Proofs.YtfghfohlcofdpaaDoor
open Go Go.RowKit
set_option linter.unusedVariables false
set_option linter.unusedSimpArgs false

def Gt.v (t : Gt) : Value := .agg #[.int .i64 t.kind, .string ⟨t.s.toArray⟩, .string ⟨t.f.toArray⟩, .int .i64 t.line, .bool t.sp, .bool t.fi]
/-- A token in its box. -/
def GBox (W : World) (M : Nat) (t : Gt) : Prop := W.heap[M]? = some (.cells #[.int .i64 t.kind, .string ⟨t.s.toArray⟩, .string ⟨t.f.toArray⟩, .int .i64 t.line, .bool t.sp, .bool t.fi] 35 (0, 0))
theorem GBox.lt {W : World} {M : Nat} {t : Gt} (h : GBox W M t) : M < W.heap.size := (Array.getElem?_eq_some_iff.1 h).1
theorem GBox.fk {R M : Nat} {W W' : World} {t : Gt} (h : GBox W M t) (hf : Fk R W W') : GBox W' M t := by
  have h' : W.heap[M]? = _ := h
  exact (hf.keep M h.lt (fun cs fr => by rw [h']; simp) (fun cs fr => by rw [h']; simp)).trans h
theorem GBox.two {W : World} {M : Nat} {t : Gt} (h : GBox W M t) : W.cell? ⟨M, 0, none⟩ = some (.int .i64 t.kind) ∧ W.cell? ⟨M, 1, none⟩ = some (.string ⟨t.s.toArray⟩) := by
  refine ⟨?_, ?_⟩ <;> (rw [World.cell?, show W.heap[M]? = _ from h]; rfl)
/-- A sign that may stand ahead of an operand waits. -/
def aheadM (t : Gt) (st : List Wt) : Bool × List Wt :=
  if t.kind != 5 then (false, st)
  else if t.s == [40] then (true, ⟨[40], 0, ⟨0, false⟩, false, false⟩ :: st)
  else if t.s == [43] || t.s == [45] || t.s == [126] || t.s == [33] then (true, ⟨t.s, 12, ⟨0, false⟩, false, false⟩ :: st)
  else (false, st)
set_option maxRecDepth 100000 in
set_option maxHeartbeats 8000000 in
theorem ahead_any (R : Nat) (vv : Value) (t : Gt) (st : List Wt) (und : Bool) (w : World) (h : Rk w R vv st und) (hst : st.length ≤ 1000000) :
    Calls Tryd.prog 35 #[.pointer (some ⟨R, 0, none⟩), t.v] w fun e w' => e = .returned (.bool (aheadM t st).1) ∧ (∃ v', Rk w' R v' (aheadM t st).2 und) ∧ Fk R w w' := by
  have hlR := h.lt
  obtain ⟨kind, s, f, line, sp, fi⟩ := t
  have hb1 := below_new w (.cells #[.int .i64 kind, .string ⟨s.toArray⟩, .string ⟨f.toArray⟩, .int .i64 line, .bool sp, .bool fi] 35)
  have HK1 := hide (h.next hb1)
  have HF1 := hide (Fk.of (R := R) hb1 (by omega))
  have HP := hide (fun x W (hk : Rk W R vv st und) => push_any R vv x st und W hk hst)
  have HR : Hid (aheadM ⟨kind, s, f, line, sp, fi⟩ st = if kind != 5 then (false, st) else if s == [40] then (true, ⟨[40], 0, ⟨0, false⟩, false, false⟩ :: st) else if s == [43] || s == [45] || s == [126] || s == [33] then (true, ⟨s, 12, ⟨0, false⟩, false, false⟩ :: st) else (false, st)) := rfl
  generalize aheadM ⟨kind, s, f, line, sp, fi⟩ st = A at *
  simp only [Gt.v]
  clear h hb1
  cases hk : kind != 5
  · rw [hk] at HR
    simp only [Bool.false_eq_true, if_false] at HR
    cases h40 : s == [40]
    · rw [h40] at HR
      simp only [Bool.false_eq_true, if_false] at HR
      have HP2 := hide (unhide HP ⟨s, 12, ⟨0, false⟩, false, false⟩ _ (unhide HK1))
      simp only [Wt.v] at HP2
      cases h43 : s == [43] <;> cases h45 : s == [45] <;> cases h126 : s == [126] <;> cases h33 : s == [33]
      all_goals (
        simp only [h43, h45, h126, h33, Bool.false_or, Bool.true_or, Bool.or_true, Bool.or_false, Bool.false_eq_true, if_false, if_true] at HR
        obtain rfl := unhide HR
        go_enter Tryd.func35, Tryd.ntmps35
        first
        | (go_wp2_with fail
           refine (unhide HP2).mono ?_
           rintro e W2 ⟨rfl, ⟨v', hk2⟩, hf2⟩
           have HK2 := hide hk2
           have HF2 := hide ((unhide HF1).trans hf2)
           clear hk2 hf2
           go_wp2
           go_ret
           exact ⟨rfl, ⟨_, unhide HK2⟩, unhide HF2⟩)
        | (go_wp2
           go_ret
           exact ⟨rfl, ⟨_, unhide HK1⟩, unhide HF1⟩))
    · rw [h40] at HR
      simp only [if_true] at HR
      obtain rfl := unhide HR
      have HP2 := hide (unhide HP ⟨[40], 0, ⟨0, false⟩, false, false⟩ _ (unhide HK1))
      simp only [Wt.v] at HP2
      go_enter Tryd.func35, Tryd.ntmps35
      go_wp2_with fail
      refine (unhide HP2).mono ?_
      rintro e W2 ⟨rfl, ⟨v', hk2⟩, hf2⟩
      have HK2 := hide hk2
      have HF2 := hide ((unhide HF1).trans hf2)
      clear hk2 hf2
      go_wp2
      go_ret
      exact ⟨rfl, ⟨_, unhide HK2⟩, unhide HF2⟩
  · rw [hk] at HR
    simp only [if_true] at HR
    obtain rfl := unhide HR
    go_enter Tryd.func35, Tryd.ntmps35
    go_wp2
    go_ret
    exact ⟨rfl, ⟨_, unhide HK1⟩, unhide HF1⟩
end Go.Proofs.YtfghfohlcofdpaaDoor
