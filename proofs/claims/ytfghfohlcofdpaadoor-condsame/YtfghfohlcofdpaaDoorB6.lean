/-
  Package cond: reckon, for whatever operands are.
-/
import Derived.Test.YtfghfohlcofdpaaDoorB5
namespace Go.Proofs.YtfghfohlcofdpaaDoor
open Go Go.RowKit
set_option linter.unusedVariables false
set_option linter.unusedSimpArgs false

/-- What is told at the end. -/
def finM (st : List Wt) (und : Bool) (v : Vl) (ok : Bool) : Vl × Bool :=
  ((settleM 1 st und v).2.2, ok && ((settleM 1 st und v).1.isEmpty && !(settleM 1 st und v).2.1))
/-- A condition's value: none: an operand must come; else what stands behind one. -/
def reckM (opM : Gt → Vl × Bool) : List Gt → List Wt → Bool → Option (Vl × Bool) → Vl × Bool
  | [], st, und, none => (⟨0, false⟩, false)
  | t :: r, st, und, none => if (aheadM t st).1 then reckM opM r (aheadM t st).2 und none else reckM opM r st und (some (opM t))
  | [], st, und, some (v, ok) => finM st und v ok
  | t :: r, st, und, some (v, ok) =>
    if ok then
      if (behindM t st und v).1 then reckM opM r (behindM t st und v).2.1 (behindM t st und v).2.2 none
      else reckM opM r (closeM t (behindM t st und v).2.1 (behindM t st und v).2.2 v).2.2.1 (closeM t (behindM t st und v).2.1 (behindM t st und v).2.2 v).2.2.2 (some ((closeM t (behindM t st und v).2.1 (behindM t st und v).2.2 v).1, (closeM t (behindM t st und v).2.1 (behindM t st und v).2.2 v).2.1))
    else finM st und v false
theorem aheadM_false {t : Gt} {st : List Wt} (h : (aheadM t st).1 = false) : (aheadM t st).2 = st := by
  unfold aheadM at h ⊢
  split
  · rfl
  · split
    · simp_all
    · split
      · simp_all
      · rfl
theorem aheadM_len (t : Gt) (st : List Wt) : (aheadM t st).2.length ≤ st.length + 1 := by
  unfold aheadM
  split
  · simp
  · split
    · simp
    · split <;> simp
theorem aheadM_ok (t : Gt) {st : List Wt} (h : ∀ y ∈ st, okV y.a) : ∀ y ∈ (aheadM t st).2, okV y.a := by
  have h0 : okV ⟨0, false⟩ := ⟨by decide, by decide⟩
  unfold aheadM
  split
  · exact h
  · split
    · intro y hy
      rcases List.mem_cons.1 hy with rfl | hy
      · exact h0
      · exact h y hy
    · split
      · intro y hy
        rcases List.mem_cons.1 hy with rfl | hy
        · exact h0
        · exact h y hy
      · exact h
theorem behindM_len (t : Gt) (st : List Wt) (und : Bool) (v : Vl) : (behindM t st und v).2.1.length ≤ st.length + 1 := by
  have h1 := settleM_len 1 st und v
  have h2 := settleM_len 2 st und v
  have h3 := settleM_len (levM t.s) st und v
  have h4 := leaveM_len [63] (settleM 1 st und v).1
  unfold behindM
  split
  · simp
  · split
    · simp only [List.length_cons]; omega
    · split
      · split
        · simp only [List.length_cons]; omega
        · simp only; omega
      · split
        · simp
        · simp only [List.length_cons]; omega
theorem behindM_ok (t : Gt) {st : List Wt} (und : Bool) {v : Vl} (hv : okV v) (h : ∀ y ∈ st, okV y.a) : ∀ y ∈ (behindM t st und v).2.1, okV y.a := by
  have h0 : okV ⟨0, false⟩ := ⟨by decide, by decide⟩
  have h1 := settleM_ok 1 st und v hv h
  have h2 := settleM_ok 2 st und v hv h
  have h3 := settleM_ok (levM t.s) st und v hv h
  have h4 := leaveM_ok [63] h1.2
  unfold behindM
  split
  · exact h
  · split
    · intro y hy
      rcases List.mem_cons.1 hy with rfl | hy
      · exact h0
      · exact h2.2 y hy
    · split
      · split
        · intro y hy
          rcases List.mem_cons.1 hy with rfl | hy
          · exact h1.1
          · exact h4 y hy
        · exact h4
      · split
        · exact h
        · intro y hy
          rcases List.mem_cons.1 hy with rfl | hy
          · exact h3.1
          · exact h3.2 y hy
theorem closeM_len (t : Gt) (st : List Wt) (und : Bool) (v : Vl) : (closeM t st und v).2.2.1.length ≤ st.length := by
  have h1 := settleM_len 1 st und v
  have h4 := leaveM_len [40] (settleM 1 st und v).1
  unfold closeM
  split
  · exact Nat.le_refl _
  · simp only; omega
theorem closeM_ok (t : Gt) {st : List Wt} (und : Bool) {v : Vl} (hv : okV v) (h : ∀ y ∈ st, okV y.a) : okV (closeM t st und v).1 ∧ ∀ y ∈ (closeM t st und v).2.2.1, okV y.a := by
  have h0 : okV ⟨0, false⟩ := ⟨by decide, by decide⟩
  have h1 := settleM_ok 1 st und v hv h
  have h4 := leaveM_ok [40] h1.2
  unfold closeM
  split
  · exact ⟨h0, h⟩
  · exact ⟨h1.1, h4⟩
/-- What lies when a round of reckon begins. -/
structure Ro (w W0 wr : World) (opM : Gt → Vl × Bool) (l : List Gt) (Z : Vl × Bool) (i : Nat) (vv : Value) (st : List Wt) (und : Bool) (m : Option (Vl × Bool)) : Prop where
  rk : Rk wr (w.heap.size + 1) vv st und
  res : VBox wr w.heap.size (.int .u64 0) false
  fk : Fk (w.heap.size + 1) W0 wr
  oks : ∀ y ∈ st, okV y.a
  len : st.length ≤ i
  is : reckM opM (l.drop i) st und m = Z
theorem TkG.at {B : Nat} {W : World} {p : Option Addr} {n cap : Nat} {l : List Gt} (h : TkG B W (.slice p n cap) l) (k : Nat) (hk : k < l.length) : ∃ g o, p = some ⟨g, o, none⟩ ∧ g < B ∧
    W.cell? ⟨g, o + k * 6, none⟩ = some (.int .i64 l[k].kind) ∧ W.cell? ⟨g, o + k * 6 + 1, none⟩ = some (.string ⟨l[k].s.toArray⟩) ∧ W.cell? ⟨g, o + k * 6 + 2, none⟩ = some (.string ⟨l[k].f.toArray⟩) ∧
    W.cell? ⟨g, o + k * 6 + 3, none⟩ = some (.int .i64 l[k].line) ∧ W.cell? ⟨g, o + k * 6 + 4, none⟩ = some (.bool l[k].sp) ∧ W.cell? ⟨g, o + k * 6 + 5, none⟩ = some (.bool l[k].fi) := by
  obtain ⟨p', cap', e, hc⟩ := h
  obtain ⟨rfl, _, rfl⟩ : p = p' ∧ n = l.length ∧ cap = cap' := by simpa using e
  exact hc k hk
theorem six_keep {B g o : Nat} {W W' : World} {t : Gt} (hb : Below B W W') (hg : g < B) (h : W.cell? ⟨g, o, none⟩ = some (.int .i64 t.kind) ∧ W.cell? ⟨g, o + 1, none⟩ = some (.string ⟨t.s.toArray⟩) ∧ W.cell? ⟨g, o + 2, none⟩ = some (.string ⟨t.f.toArray⟩) ∧
    W.cell? ⟨g, o + 3, none⟩ = some (.int .i64 t.line) ∧ W.cell? ⟨g, o + 4, none⟩ = some (.bool t.sp) ∧ W.cell? ⟨g, o + 5, none⟩ = some (.bool t.fi)) :
    W'.cell? ⟨g, o, none⟩ = some (.int .i64 t.kind) ∧ W'.cell? ⟨g, o + 1, none⟩ = some (.string ⟨t.s.toArray⟩) ∧ W'.cell? ⟨g, o + 2, none⟩ = some (.string ⟨t.f.toArray⟩) ∧
    W'.cell? ⟨g, o + 3, none⟩ = some (.int .i64 t.line) ∧ W'.cell? ⟨g, o + 4, none⟩ = some (.bool t.sp) ∧ W'.cell? ⟨g, o + 5, none⟩ = some (.bool t.fi) := by
  have key : ∀ j u, W.cell? ⟨g, j, none⟩ = some u → W'.cell? ⟨g, j, none⟩ = some u := fun j u hu => (hb.cell (p := ⟨g, j, none⟩) hg).trans hu
  exact ⟨key _ _ h.1, key _ _ h.2.1, key _ _ h.2.2.1, key _ _ h.2.2.2.1, key _ _ h.2.2.2.2.1, key _ _ h.2.2.2.2.2⟩
end Go.Proofs.YtfghfohlcofdpaaDoor
