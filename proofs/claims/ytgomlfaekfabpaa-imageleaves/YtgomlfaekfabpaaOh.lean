/-
  Package image: a member that is not there; the element of a node.
-/
import Derived.Test.YtgomlfaekfabpaaOg
import Derived.BigRegion
namespace Go.Proofs.Ytgomlfaekfabpaa
open Go Go.RowKit Go.Shelf
set_option linter.unusedVariables false
set_option linter.unusedSimpArgs false

/-- Is there such a member? -/
def memB (t : ShT) (at' : Int) : Bool := if at' < 0 then false else (match t.fs[at'.toNat]? with | some f => !(f.bits == 0) | none => false)
set_option maxRecDepth 100000 in
set_option maxHeartbeats 20000000 in
theorem member_no (N0 : Nat) (M : Nat → Option (List (ShT × Int × Int))) (w : World) (g i : Nat) (at' : Int) (l : List (ShT × Int × Int)) (x : ShT × Int × Int) (hn : NI N0 M w) (hg : M g = some l) (hi : l[i]? = some x) (hN : N0 ≤ w.heap.size) (hin : x.1.In N0 w) (hm : memB x.1 at' = false) :
    Calls Try.prog 75 #[.pointer (some ⟨g, i * 10, none⟩), .int .i64 at'] w fun e w' => e = .returned (.tuple #[.pointer none, .int .i64 0]) ∧ w' = w := by
  obtain ⟨pv, hnd, _, _⟩ := hn.at hg hi
  obtain ⟨⟨y0, y1, y2, y3, y4, y5, y6⟩, c7, c8, c9⟩ := hnd.ten
  unfold memB at hm
  by_cases h0 : at' < 0
  · clear hn hg hi hin hnd hm
    go_enter Try.func75, Try.ntmps75
    go_wp2_with fail
    refine bodyPost_ret (results_tmp2 rfl _ _ _) rfl ?_
    exact ⟨rfl, rfl⟩
  · rw [if_neg h0] at hm
    by_cases h1 : at' ≥ (x.1.fs.length : Int)
    · clear hn hg hi hin hnd hm
      go_enter Try.func75, Try.ntmps75
      go_wp2_with fail
      refine bodyPost_ret (results_tmp2 rfl _ _ _) rfl ?_
      exact ⟨rfl, rfl⟩
    · obtain ⟨k, rfl⟩ : ∃ k : Nat, at' = (k : Int) := ⟨at'.toNat, by omega⟩
      have hk : k < x.1.fs.length := by omega
      rw [Int.toNat_natCast, List.getElem?_eq_getElem hk] at hm
      simp only at hm
      obtain ⟨gf, of', hfp, hgf, hcf, _, _⟩ := hin.fs k hk
      obtain ⟨d0, d1, d2, d3, d4, d5, d6, d7, d8⟩ := nine hcf
      have hgflt : gf < w.heap.size := Nat.lt_of_lt_of_le hgf hN
      have hb : (x.1.fs[k].bits == 0) = true := by
        cases h : x.1.fs[k].bits == 0
        · rw [h] at hm; cases hm
        · rfl
      rw [hfp] at y4
      clear hn hg hi hin hnd hm hcf
      generalize x.1.fs[k] = f at *
      go_enter Try.func75, Try.ntmps75
      go_wp2_with fail
      refine bodyPost_ret (results_tmp2 rfl _ _ _) rfl ?_
      exact ⟨rfl, rfl⟩
set_option maxRecDepth 100000 in
set_option maxHeartbeats 20000000 in
theorem element_no (N0 : Nat) (M : Nat → Option (List (ShT × Int × Int))) (w : World) (g i : Nat) (at' : Int) (l : List (ShT × Int × Int)) (x : ShT × Int × Int) (hn : NI N0 M w) (hg : M g = some l) (hi : l[i]? = some x) (hm : at' < 0 ∨ at' ≥ x.1.n) :
    Calls Try.prog 74 #[.pointer (some ⟨g, i * 10, none⟩), .int .i64 at'] w fun e w' => e = .returned (.tuple #[.pointer none, .int .i64 0]) ∧ w' = w := by
  obtain ⟨pv, hnd, _, _⟩ := hn.at hg hi
  obtain ⟨⟨y0, y1, y2, y3, y4, y5, y6⟩, c7, c8, c9⟩ := hnd.ten
  clear hn hg hi hnd
  by_cases h0 : at' < 0
  · go_enter Try.func74, Try.ntmps74
    go_wp2_with fail
    refine bodyPost_ret (results_tmp2 rfl _ _ _) rfl ?_
    exact ⟨rfl, rfl⟩
  · have h1 : at' ≥ x.1.n := by omega
    go_enter Try.func74, Try.ntmps74
    go_wp2_with fail
    refine bodyPost_ret (results_tmp2 rfl _ _ _) rfl ?_
    exact ⟨rfl, rfl⟩
end Go.Proofs.Ytgomlfaekfabpaa
