/-
  Tokens of whatever fields, in memory; the document's own Same.
-/
import Derived.Test.YticiddcgafhkhaaGreatDoorS1
import Derived.Laws.StructEq
namespace Go.Proofs.YticiddcgafhkhaaGreatDoor
open Go Go.RowKit
set_option linter.unusedVariables false
set_option linter.unusedSimpArgs false

/-- A token of whatever fields. -/
structure Gt where
  kind : Int
  s : List UInt8
  f : List UInt8
  line : Int
  sp : Bool
  fi : Bool
  deriving DecidableEq
def Tk.T.g (t : Tk.T) : Gt := ⟨(t.kind : Nat), t.s, [], t.line, t.sp, t.fi⟩
/-- A slice value that reads as these tokens, in a block below B. -/
def TkG (B : Nat) (W : World) (v : Value) (l : List Gt) : Prop :=
  ∃ p cap, v = .slice p l.length cap ∧ ∀ (i : Nat) (h : i < l.length), ∃ g o, p = some ⟨g, o, none⟩ ∧ g < B ∧
    W.cell? ⟨g, o + i * 6, none⟩ = some (.int .i64 l[i].kind) ∧ W.cell? ⟨g, o + i * 6 + 1, none⟩ = some (.string ⟨l[i].s.toArray⟩) ∧ W.cell? ⟨g, o + i * 6 + 2, none⟩ = some (.string ⟨l[i].f.toArray⟩) ∧
    W.cell? ⟨g, o + i * 6 + 3, none⟩ = some (.int .i64 l[i].line) ∧ W.cell? ⟨g, o + i * 6 + 4, none⟩ = some (.bool l[i].sp) ∧ W.cell? ⟨g, o + i * 6 + 5, none⟩ = some (.bool l[i].fi)
theorem TkG.below {B : Nat} {W W' : World} {v : Value} {l : List Gt} (h : TkG B W v l) (hb : Below B W W') : TkG B W' v l := by
  obtain ⟨p, cap, rfl, hc⟩ := h
  refine ⟨p, cap, rfl, fun i hi => ?_⟩
  obtain ⟨g, o, rfl, h1, c0, c1, c2, c3, c4, c5⟩ := hc i hi
  have key : ∀ j u, W.cell? ⟨g, j, none⟩ = some u → W'.cell? ⟨g, j, none⟩ = some u := fun j u hu => (hb.cell (p := ⟨g, j, none⟩) h1).trans hu
  exact ⟨g, o, rfl, h1, key _ _ c0, key _ _ c1, key _ _ c2, key _ _ c3, key _ _ c4, key _ _ c5⟩
theorem TkG.mono {B B' : Nat} {W : World} {v : Value} {l : List Gt} (h : TkG B W v l) (hb : B ≤ B') : TkG B' W v l := by
  obtain ⟨p, cap, rfl, hc⟩ := h
  refine ⟨p, cap, rfl, fun i hi => ?_⟩
  obtain ⟨g, o, rfl, h1, hr⟩ := hc i hi
  exact ⟨g, o, rfl, by omega, hr⟩
theorem TkS.toG {base : Nat} {W : World} {v : Value} {l : List Tk.T} (h : TkS base W v l) : TkG W.heap.size W v (l.map Tk.T.g) := by
  obtain ⟨p, cap, rfl, hc⟩ := h
  refine ⟨p, cap, by simp, fun i hi => ?_⟩
  have hi' : i < l.length := by simpa using hi
  obtain ⟨g, rfl, h1, h2, c0, c1, c2, c3, c4, c5⟩ := hc i hi'
  refine ⟨g, 0, rfl, h2, ?_⟩
  simp only [List.getElem_map, Nat.zero_add, Tk.T.g]
  exact ⟨c0, c1, c2, c3, c4, c5⟩

theorem held34 : Tryz.prog.stoodInHeld 74 = false := by kernel_rfl
theorem guard34 : Tryz.prog.eqGuardType Tryz.prog.depth 74 = false := by kernel_rfl
theorem fields34 : Tryz.prog.underlying 74 = some (.struct (Tryz.prog.fieldsOf 74)) := by kernel_rfl
def gC (x : Gt) : Array Value := #[.int .i64 x.kind, .string ⟨x.s.toArray⟩, .string ⟨x.f.toArray⟩, .int .i64 x.line, .bool x.sp, .bool x.fi]
/-- Two tokens compared. -/
theorem gt_eq (x y : Gt) (W : World) : (Op.equalIn 10000 74 (.agg (gC x)) (.agg (gC y))).run Tryz.prog W = .ok (decide (x = y)) W := by
  rw [run_equalIn_struct _ 9999 74 _ _ fields34 held34]
  simp only [Program.fieldsOf, Tryz.underlying74, gC]
  obtain ⟨a, s, f, m, p, u⟩ := x
  obtain ⟨b, t, g, n, q, v⟩ := y
  simp only [Gt.mk.injEq]
  have hb : ∀ (c d : List UInt8), (⟨c.toArray⟩ : ByteArray).toList = (⟨d.toArray⟩ : ByteArray).toList ↔ c = d := fun c d => by rw [ByteArray.toList_eq, ByteArray.toList_eq]
  simp [Op.eqFields, go_sem]
  by_cases h1 : a = b <;> by_cases h2 : s = t <;> by_cases h3 : f = g <;> by_cases h4 : m = n <;> by_cases h5 : p = q <;> by_cases h6 : u = v <;> simp [*]
theorem gt_neq (x y : Gt) (W : World) : (binOp .neq 74 (.agg (gC x)) (.agg (gC y))).run Tryz.prog W = .ok (.bool (!decide (x = y))) W := by
  rw [run_neq_struct, gt_eq]; rfl
theorem gt_eql (x y : Gt) (W : World) : (binOp .eql 74 (.agg (gC x)) (.agg (gC y))).run Tryz.prog W = .ok (.bool (decide (x = y))) W := by
  rw [run_eql_struct, gt_eq]; rfl

set_option maxRecDepth 100000 in
set_option maxHeartbeats 4000000 in
theorem Same_any (va vb : Value) (A B : List Gt) (Ba Bb : Nat) (w : World) (hsz : A.length ≤ 140737488355328) (ha : TkG Ba w va A) (hb : TkG Bb w vb B) :
    Calls Tryz.prog 27 #[va, vb] w fun e w' => e = .returned (.bool (decide (A = B))) ∧ ∃ m, w' = w.drewN m := by
  have HA := hide ha
  have HB := hide hb
  obtain ⟨p, cap, rfl, _⟩ := ha
  obtain ⟨q, cbp, rfl, _⟩ := hb
  by_cases hl : A.length = B.length
  · have hd0 : decide (A = B) = decide (A.drop 0 = B.drop 0) := by simp
    generalize decide (A = B) = D at *
    have HD0 := hide hd0
    clear hd0
    have i0 : (((A.length : Nat) : Int) != ((B.length : Nat) : Int)) = false := by rw [bne_eq_false_iff_eq]; omega
    have HHL := hide hl
    have hbl : B.length ≤ A.length := by omega
    clear hl
    go_enter Tryz.func27, Tryz.ntmps27
    go_wp2
    go_loopg [5] A.length (fun gk i wr => ∃ (k m : Nat), gk = A.length - k ∧ i = .int .i64 k ∧ k ≤ A.length ∧ Hid (wr = w.drewN m) ∧ Hid (D = decide (A.drop k = B.drop k)))
    case atStart => exact ⟨0, 0, rfl, rfl, by omega, rfl, HD0⟩
    case round =>
      clear HD0
      obtain ⟨k, m, rfl, rfl, hk, hw, hD⟩ := hrel
      by_cases hlt : k < A.length
      · have hlb : k < B.length := by rw [← unhide HHL]; exact hlt
        have i1 : (k : Int) < (A.length : Int) := by omega
        have i2 : (k : Int) < (B.length : Int) := by omega
        obtain ⟨p', cap', hp', hcs⟩ := unhide HA
        obtain ⟨g, o, rfl, _, a0, a1, a2, a3, a4, a5⟩ := hcs k hlt
        obtain ⟨rfl, rfl⟩ : p = some ⟨g, o, none⟩ ∧ cap = cap' := by simpa using hp'
        obtain ⟨q', cbp', hq', hcs'⟩ := unhide HB
        obtain ⟨g', o', rfl, _, b0, b1, b2, b3, b4, b5⟩ := hcs' k hlb
        obtain ⟨rfl, rfl⟩ : q = some ⟨g', o', none⟩ ∧ cbp = cbp' := by simpa using hq'
        have hww : ∀ a v, w.cell? a = some v → wr.cell? a = some v := fun a v h => by rw [unhide hw]; exact h
        replace a0 := hww _ _ a0
        replace a1 := hww _ _ a1
        replace a2 := hww _ _ a2
        replace a3 := hww _ _ a3
        replace a4 := hww _ _ a4
        replace a5 := hww _ _ a5
        replace b0 := hww _ _ b0
        replace b1 := hww _ _ b1
        replace b2 := hww _ _ b2
        replace b3 := hww _ _ b3
        replace b4 := hww _ _ b4
        replace b5 := hww _ _ b5
        have hst := unhide hD
        rw [List.drop_eq_getElem_cons hlt, List.drop_eq_getElem_cons hlb] at hst
        have HST := hide hst
        clear hst hcs hcs' hp' hq' hww hD
        generalize A[k] = x at *
        generalize B[k] = y at *
        have hgd := guard34
        have hne := gt_neq x y
        simp only [gC] at hne
        have hxy : Hid (D = (decide (x = y) && decide (A.drop (k + 1) = B.drop (k + 1)))) := by
          rw [Hid, unhide HST]
          by_cases h1 : x = y <;> simp [h1]
        clear HST
        cases hE : decide (x = y)
        · rw [hE] at hxy
          simp only [hE] at hne
          clear hE
          go_upto_region 6 with fail
          go_quiet (fail)
          go_wp2
          go_ret
          exact ⟨by rw [unhide hxy]; rfl, _, Hdrew hw⟩
        · rw [hE] at hxy
          simp only [hE] at hne
          clear hE
          go_upto_region 6 with fail
          go_quiet (fail)
          go_wp2
          go_roundg (A.length - (k + 1))
          case measure => omega
          case rel => exact ⟨k + 1, _, rfl, by go_num, by omega, hide (Hdrew hw), by rw [Hid, unhide hxy, Bool.true_and]⟩
      · have i1 : ¬ (k : Int) < (A.length : Int) := by omega
        have hd : Hid (D = true) := by
          rw [Hid, unhide hD, List.drop_eq_nil_of_le (by omega), List.drop_eq_nil_of_le (by omega)]; rfl
        go_wp2
        go_ret
        exact ⟨by rw [unhide hd]; rfl, m, unhide hw⟩
  · have i0 : (((A.length : Nat) : Int) != ((B.length : Nat) : Int)) = true := by rw [bne_iff_ne]; omega
    have hd : Hid (decide (A = B) = false) := decide_eq_false (fun e => hl (by rw [e]))
    generalize decide (A = B) = D at *
    go_enter Tryz.func27, Tryz.ntmps27
    go_wp2
    go_ret
    exact ⟨by rw [unhide hd]; rfl, 0, rfl⟩
end Go.Proofs.YticiddcgafhkhaaGreatDoor
