/-
  Package image: places as keys of a map; which member each union was led through by.
-/
import Derived.Test.YtgomlfaekfabpaaOo
import Derived.DeepKeys4
import Derived.Maps.OwnSet
namespace Go.Proofs.Ytgomlfaekfabpaa
open Go Go.RowKit Go.Shelf
set_option linter.unusedVariables false
set_option linter.unusedSimpArgs false

/-- A place's cells: the steps, and how many. -/
def plC (p : List Int) : Array Value := #[.int .i64 (p.getD 0 0), .int .i64 (p.getD 1 0), .int .i64 (p.getD 2 0), .int .i64 (p.getD 3 0), .int .i64 (p.getD 4 0), .int .i64 (p.getD 5 0), .int .i64 (p.length : Int)]
def OkS (p : List Int) : Prop := p.length ≤ 6 ∧ ∀ x ∈ p, 0 ≤ x ∧ x ≤ 1000000
theorem undP : ∃ fs, Try.prog.underlying 126 = some (.struct fs) := ⟨_, Try.underlying126⟩
theorem wideP : (match Try.prog.underlying 126 with | some (.array _ _) | some (.struct _) => true | _ => false) = true := by rw [Try.underlying126]
theorem laidB : laidOutB Try.prog = true := by kernel_rfl
theorem rowP : (126 : TypeId) < Try.prog.types.size := of_decide_eq_true (by kernel_rfl)
set_option maxRecDepth 100000 in
theorem keyedP : Maps.Keyed Try.prog 126 := Maps.Keyed.of_law (deep_law_laid laidB (m := 3) (by omega) rowP (by kernel_rfl) wideP)
theorem undA : Try.prog.underlying 124 = some (.array 6 3) := by kernel_rfl
theorem undM95 : Try.prog.underlying 95 = some (.map 126 3) := by kernel_rfl
theorem keyTP : Try.prog.keyType 126 = true := by kernel_rfl
theorem lits_place (a0 a1 a2 a3 a4 a5 a6 : Int) (h : ∀ x ∈ [a0, a1, a2, a3, a4, a5, a6], (Lit.int .i64 x).wf = true) :
    Try.prog.keyLits (Try.prog.types.size + 1) 126 [.int .i64 a0, .int .i64 a1, .int .i64 a2, .int .i64 a3, .int .i64 a4, .int .i64 a5, .int .i64 a6] = some [.int .i64 a0, .int .i64 a1, .int .i64 a2, .int .i64 a3, .int .i64 a4, .int .i64 a5, .int .i64 a6] := by
  have hs : ∃ n, Try.prog.types.size = n + 3 := ⟨Try.prog.types.size - 3, by have : 3 ≤ Try.prog.types.size := of_decide_eq_true (by kernel_rfl); omega⟩
  obtain ⟨n, hn⟩ := hs
  rw [hn]
  have h0 := h a0 (by simp)
  have h1 := h a1 (by simp)
  have h2 := h a2 (by simp)
  have h3 := h a3 (by simp)
  have h4 := h a4 (by simp)
  have h5 := h a5 (by simp)
  have h6 := h a6 (by simp)
  have c1 : Try.prog.cellsOf 126 = 7 := by kernel_rfl
  have c2 : Try.prog.cellsOf 124 = 6 := by kernel_rfl
  have c3 : Try.prog.cellsOf 3 = 1 := by kernel_rfl
  have hr : List.range 6 = [0, 1, 2, 3, 4, 5] := rfl
  simp [Program.keyLits, Try.underlying126, undA, undI, c1, c2, c3, h0, h1, h2, h3, h4, h5, h6, hr]
theorem formP (p : List Int) : (Value.agg (plC p)).formed Try.prog 126 = true := by
  have c1 : Try.prog.cellsOf 126 = 7 := by kernel_rfl
  simp [Value.formed, Try.underlying126, c1, plC]
theorem okS_get {p : List Int} (h : OkS p) (i : Nat) : (Lit.int .i64 (p.getD i 0)).wf = true := by
  refine WalkArith.wf_i64 ?_
  rw [List.getD_eq_getElem?_getD]
  cases hi : p[i]? with
  | none => simp
  | some x =>
    have := h.2 x (List.mem_of_getElem? hi)
    simp only [Option.getD_some]
    omega
def klP (p : List Int) : List UInt8 := keyBytes [.int .i64 (p.getD 0 0), .int .i64 (p.getD 1 0), .int .i64 (p.getD 2 0), .int .i64 (p.getD 3 0), .int .i64 (p.getD 4 0), .int .i64 (p.getD 5 0), .int .i64 (p.length : Int)]
theorem key_place {p : List Int} (h : OkS p) : keyOf Try.prog 126 (.agg (plC p)) = some (.string (klP p)) := by
  have hl := lits_place (p.getD 0 0) (p.getD 1 0) (p.getD 2 0) (p.getD 3 0) (p.getD 4 0) (p.getD 5 0) (p.length : Int) (by
    intro x hx
    simp only [List.mem_cons, List.not_mem_nil, or_false] at hx
    rcases hx with rfl | rfl | rfl | rfl | rfl | rfl | rfl
    · exact okS_get h 0
    · exact okS_get h 1
    · exact okS_get h 2
    · exact okS_get h 3
    · exact okS_get h 4
    · exact okS_get h 5
    · exact WalkArith.wf_i64 (by have := h.1; omega))
  unfold keyOf
  rw [Try.underlying126]
  simp only [keyTP, formP, Bool.and_true, if_true]
  have hc : (Value.agg (plC p)).cells.toList = [.int .i64 (p.getD 0 0), .int .i64 (p.getD 1 0), .int .i64 (p.getD 2 0), .int .i64 (p.getD 3 0), .int .i64 (p.getD 4 0), .int .i64 (p.getD 5 0), .int .i64 (p.length : Int)] := rfl
  rw [hc, hl]
  rfl
/-- Places that differ have keys that differ. -/
theorem kl_inj {p q : List Int} (hp : OkS p) (hq : OkS q) (h : klP p = klP q) : p = q := by
  have h1 := key_place hp
  have h2 := key_place hq
  rw [← h] at h2
  have h3 := keyedP.inj h1 h2
  unfold plC at h3
  simp only [Value.agg.injEq, Array.mk.injEq, List.cons.injEq, Value.int.injEq, true_and, and_true] at h3
  obtain ⟨e0, e1, e2, e3, e4, e5, el⟩ := h3
  have hl : p.length = q.length := by omega
  apply List.ext_getElem? 
  intro i
  by_cases hi : i < p.length
  · have hi' : i < q.length := by omega
    have hi6 : i < 6 := by have := hp.1; omega
    rw [List.getElem?_eq_getElem hi, List.getElem?_eq_getElem hi']
    have hd : ∀ i, i < 6 → p.getD i 0 = q.getD i 0 := fun i h6 => by
      have : i = 0 ∨ i = 1 ∨ i = 2 ∨ i = 3 ∨ i = 4 ∨ i = 5 := by omega
      rcases this with rfl | rfl | rfl | rfl | rfl | rfl <;> assumption
    have := hd i hi6
    rw [List.getD_eq_getElem?_getD, List.getD_eq_getElem?_getD, List.getElem?_eq_getElem hi, List.getElem?_eq_getElem hi'] at this
    simpa using this
  · rw [List.getElem?_eq_none (by omega), List.getElem?_eq_none (by omega)]
/-- What a map of places tells. -/
def LmD (D : DataW Unit) (L : List Int → Option Int) : Prop :=
  Maps.Tidy D ∧ ∀ p, OkS p → Maps.has D (.string (klP p)) = (L p).isSome ∧ D.atKey (.string (klP p)) (.lit (.int .i64 0)) = .lit (.int .i64 ((L p).getD 0))
def setM (L : List Int → Option Int) (p : List Int) (s : Int) : List Int → Option Int := fun q => if q = p then some s else L q
theorem LmD.nil : LmD (.map []) (fun _ => none) := ⟨Maps.tidy_empty, fun p _ => ⟨by simp [Maps.has], rfl⟩⟩
theorem LmD.put {D : DataW Unit} {L : List Int → Option Int} (h : LmD D L) {p : List Int} (hp : OkS p) (s : Int) : LmD (D.put (.string (klP p)) (.lit (.int .i64 s))) (setM L p s) := by
  have hk : WideAt.IsKeyLit (.string (klP p)) := by trivial
  refine ⟨h.1.put hk _, fun q hq => ?_⟩
  unfold setM
  by_cases e : q = p
  · subst e
    rw [Maps.has_put_same h.1.isMap hk, Maps.atKey_put_same h.1.isMap hk, if_pos rfl]
    exact ⟨rfl, rfl⟩
  · have hne : Lit.string (klP q) ≠ Lit.string (klP p) := fun h' => e (kl_inj hq hp (by simpa using h'))
    rw [Maps.has_put_other hne, Maps.atKey_put_other hne, if_neg e]
    exact h.2 q hq
/-- A map of the call's own, as it lies. -/
def MpA (W : World) (b n : Nat) (L : List Int → Option Int) : Prop := ∃ D, W.ownsMap (H := Unit) Try.prog 126 (plainElem Try.prog 3) b n D ∧ LmD D L
end Go.Proofs.Ytgomlfaekfabpaa
