/-
  Two words compared; a list of words cut short; its cells.
-/
import Derived.Test.YtmpkgjonbjpohaaGreatDoorXk
import Derived.Laws.StructEq
namespace Go.Proofs.YtmpkgjonbjpohaaGreatDoor
open Go Go.RowKit
set_option linter.unusedVariables false
set_option linter.unusedSimpArgs false

theorem heldW : Tryz.prog.stoodInHeld 42 = false := by kernel_rfl
theorem fieldsW : Tryz.prog.underlying 42 = some (.struct (Tryz.prog.fieldsOf 42)) := by kernel_rfl
/-- Two words compared. -/
theorem wd_eq (x y : Wd) (W : World) : (Op.equalIn 10000 42 (.agg #[.int .i64 x.kind, .string ⟨x.s.toArray⟩, .int .i64 x.v, .int .i64 x.t, .string ⟨x.f.toArray⟩, .int .i64 x.line]) (.agg #[.int .i64 y.kind, .string ⟨y.s.toArray⟩, .int .i64 y.v, .int .i64 y.t, .string ⟨y.f.toArray⟩, .int .i64 y.line])).run Tryz.prog W = .ok (decide (x = y)) W := by
  rw [run_equalIn_struct _ 9999 42 _ _ fieldsW heldW]
  simp only [Program.fieldsOf, Tryz.underlying42]
  obtain ⟨a, s, v, t, f, m⟩ := x
  obtain ⟨b, s', v', t', g, n⟩ := y
  simp only [Wd.mk.injEq]
  have hb : ∀ (c d : List UInt8), (⟨c.toArray⟩ : ByteArray).toList = (⟨d.toArray⟩ : ByteArray).toList ↔ c = d := fun c d => by rw [ByteArray.toList_eq, ByteArray.toList_eq]
  simp [Op.eqFields, go_sem]
  by_cases h1 : a = b <;> by_cases h2 : s = s' <;> by_cases h3 : v = v' <;> by_cases h4 : t = t' <;> by_cases h5 : f = g <;> by_cases h6 : m = n <;> simp [*]
theorem wd_neq (x y : Wd) (W : World) : (binOp .neq 42 (.agg #[.int .i64 x.kind, .string ⟨x.s.toArray⟩, .int .i64 x.v, .int .i64 x.t, .string ⟨x.f.toArray⟩, .int .i64 x.line]) (.agg #[.int .i64 y.kind, .string ⟨y.s.toArray⟩, .int .i64 y.v, .int .i64 y.t, .string ⟨y.f.toArray⟩, .int .i64 y.line])).run Tryz.prog W = .ok (.bool (!decide (x = y))) W := by
  rw [run_neq_struct, wd_eq]; rfl
theorem WdG.takeZ {B : Nat} {W : World} {p : Option Addr} {cap : Nat} {l : List Wd} (h : WdG B W (.slice p l.length cap) l) (n : Nat) (hn : n ≤ l.length) : WdG B W (.slice p (l.take n).length cap) (l.take n) := by
  obtain ⟨p', cap', he, hc⟩ := h
  obtain ⟨rfl, rfl⟩ : p = p' ∧ cap = cap' := by simpa using he
  refine ⟨p, cap, rfl, fun i hi => ?_⟩
  have hi' : i < n := by simp at hi; omega
  obtain ⟨g, o, hg, hr⟩ := hc i (by omega)
  refine ⟨g, o, hg, ?_⟩
  rw [List.getElem_take]
  exact hr
/-- The cells of one word. -/
theorem WdG.at {B : Nat} {W : World} {p : Option Addr} {n cap : Nat} {l : List Wd} (h : WdG B W (.slice p n cap) l) {i : Nat} (hi : i < l.length) : ∃ g o, p = some ⟨g, o, none⟩ ∧ g < B ∧
    W.cell? ⟨g, o + i * 6, none⟩ = some (.int .i64 l[i].kind) ∧ W.cell? ⟨g, o + i * 6 + 1, none⟩ = some (.string ⟨l[i].s.toArray⟩) ∧ W.cell? ⟨g, o + i * 6 + 2, none⟩ = some (.int .i64 l[i].v) ∧
    W.cell? ⟨g, o + i * 6 + 3, none⟩ = some (.int .i64 l[i].t) ∧ W.cell? ⟨g, o + i * 6 + 4, none⟩ = some (.string ⟨l[i].f.toArray⟩) ∧ W.cell? ⟨g, o + i * 6 + 5, none⟩ = some (.int .i64 l[i].line) := by
  obtain ⟨p', cap', he, hc⟩ := h
  have : p = p' := by simp at he; exact he.1
  subst this
  exact hc i hi
end Go.Proofs.YtmpkgjonbjpohaaGreatDoor
