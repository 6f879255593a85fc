/-
  token.Punct: is a text one of the signs?
-/
import Derived.Test.YtaoekfokpbebfaaDoorP1
import Derived.Deep.MidRow
import Derived.Deep.CutRange
import Derived.Deep.RegionWith
import Derived.Deep.DeepCutAuto
namespace Go.Proofs.YtaoekfokpbebfaaDoor
open Go Go.RowKit
set_option linter.unusedVariables false
set_option linter.unusedSimpArgs false
/-- The table of signs lies where the program's text lays it. -/
def Sg (w : World) : Prop := ∀ (i : Nat) (x : List UInt8), Tk.signs[i]? = some x → w.cell? ⟨0, i, none⟩ = some (.string ⟨x.toArray⟩)
def sgL : List Value := Tk.signs.map fun x => .string ⟨x.toArray⟩
theorem Sg.range {w : World} (h : Sg w) : w.rangeAt 0 0 sgL := by
  intro j v hj
  unfold sgL at hj
  rw [List.getElem?_map, Option.map_eq_some_iff] at hj
  obtain ⟨x, hx, rfl⟩ := hj
  rw [Nat.zero_add]; exact h j x hx
theorem Sg.below {w w' : World} {B : Nat} (h : Sg w) (hb : Below B w w') (hB : 0 < B) : Sg w' := fun i x hx => (hb.cell (p := ⟨0, i, none⟩) hB).trans (h i x hx)
theorem Sg.load {w : World} (h : Sg w) : (Instr.loadAt 65 (.pointer (some ⟨0, 0, none⟩))).run Tryd.prog w = .ok (.agg sgL.toArray) w :=
  run_loadAt_mid w 0 0 65 sgL _ h.range Tryd.underlying65 rfl (by kernel_rfl)
theorem idx65 (A : Array Value) (k : Nat) (v : Value) (hk : k < 48) (h : A[k]? = some v) (w : World) :
    (Instr.index 65 (.agg A) (.int .i64 (k : Int))).run Tryd.prog w = .ok v w := by
  have hn : (0 : Int) ≤ (k : Int) ∧ (k : Int) < 48 := by omega
  simp [Instr.index, run_underlying Tryd.underlying65, asIntOf, hn, go_sem]
  simp [hk, h, go_sem]
set_option maxRecDepth 100000 in
set_option maxHeartbeats 400000 in
theorem punct_any (s : ByteArray) (w : World) (hc : Sg w) (hs : s.size ≤ maxLen) :
    Calls Tryd.prog 19 #[.string s] w fun e w' => e = .returned (.bool (Tk.pn s.data.toList)) ∧ w' = w := by
  have hA : Hid (∀ (k : Nat), k < 48 → ∃ x, Tk.signs[k]? = some x ∧ sgL.toArray[k]? = some (.string ⟨x.toArray⟩)) := by
    intro k hk
    have : k < Tk.signs.length := hk
    refine ⟨Tk.signs[k], List.getElem?_eq_getElem this, ?_⟩
    simp [sgL, this]
  have hz : sgL.toArray.size = 48 := by kernel_rfl
  have HC := hide hc
  clear hc
  go_enter Tryd.func19, Tryd.ntmps19
  go_upto_region 1 with fail
  refine wp_region_lit (wpList_load_mid rfl 65 _ rfl 0 0 rfl sgL _ (unhide HC).range Tryd.underlying65 rfl (by kernel_rfl) ?_)
  generalize sgL.toArray = A at *
  go_wp2
  go_loopw [6] (fun i wr => ∃ k : Nat, i = .int .i64 k ∧ k ≤ 48 ∧ Hid (∀ j x, j < k → Tk.signs[j]? = some x → x ≠ s.data.toList) ∧ wr = w) (fun i wr => 48 - (intOf i).toNat)
  case atStart => exact ⟨0, rfl, by omega, fun j x hj => by omega, rfl⟩
  case round =>
    obtain ⟨k, rfl, hk, hno, rfl⟩ := hrel
    by_cases hlt : k < 48
    · obtain ⟨x, hx, hax⟩ := unhide hA k hlt
      have HX := hide hx
      clear hx
      have hidx := idx65 A k _ hlt hax wr
      have i1 : (k : Int) < 48 := by omega
      have he : (x == s.toList) = decide (x = s.data.toList) := by
        rw [ByteArray.toList_eq, Bool.eq_iff_iff]; simp
      by_cases hxs : x = s.data.toList
      · have he' : (x == s.toList) = true := by rw [he]; simp [hxs]
        have hp : Hid (Tk.pn s.data.toList = true) := by
          rw [Hid, ← hxs, Tk.pn, List.contains_iff_mem]
          exact List.mem_of_getElem? (unhide HX)
        clear he hxs
        go_wp2
        go_ret
        exact ⟨by rw [unhide hp]; rfl, rfl⟩
      · have he' : (x == s.toList) = false := by rw [he]; simp [hxs]
        have HN := hide hxs
        clear he hxs
        go_wp2
        go_roundw
        case rel =>
          refine ⟨k + 1, by go_num, by omega, fun j y hj hy => ?_, trivial⟩
          by_cases hjk : j = k
          · subst hjk; rw [unhide HX] at hy; cases hy; exact unhide HN
          · exact unhide hno j y (by omega) hy
        case measure => simp [intOf]; omega
    · have hkk : k = 48 := by omega
      subst hkk
      have hp : Hid (Tk.pn s.data.toList = false) := by
        rw [Hid, Tk.pn, Bool.eq_false_iff]
        intro h
        rw [List.contains_iff_mem] at h
        obtain ⟨j, hj, e⟩ := List.mem_iff_getElem.1 h
        exact unhide hno j _ hj (List.getElem?_eq_getElem hj) e
      go_wp2
      go_ret
      exact ⟨by rw [unhide hp]; rfl, rfl⟩
end Go.Proofs.YtaoekfokpbebfaaDoor
