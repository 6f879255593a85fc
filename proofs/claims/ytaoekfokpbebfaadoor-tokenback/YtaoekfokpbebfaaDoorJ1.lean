/-
  The lines of a text, as Lex takes them; burinlaw02.TokenFiles answers true for every string: the walk.
-/
import Derived.Test.YtaoekfokpbebfaaDoorTh
import Derived.Test.YtaoekfokpbebfaaDoorI1
namespace Go.Proofs.YtaoekfokpbebfaaDoor
open Go Go.RowKit
set_option linter.unusedVariables false
set_option linter.unusedSimpArgs false

/-- The lines of a text, as Lex takes them. -/
def lnOf (d : List UInt8) : List (Int × ByteArray) := (Sx.Tx.lines d).map fun x => ((x.1 : Int), ⟨x.2.toArray⟩)
theorem lnOf_cells (d : List UInt8) : Sx.lineCells (Sx.Tx.lines d) = lnCells (lnOf d) := by
  unfold Sx.lineCells lnCells lnOf
  rw [List.flatMap_map]
theorem lst_out (M : Nat) : ∀ pre : List (List UInt8 × Bool), (∀ x ∈ pre, x.1.length ≤ M) → ∀ y ∈ (Sx.Tx.lst pre).2.2.2, y.2.length ≤ pre.length * M := by
  refine Sx.Tx.snoc_induct (fun _ y hy => by simp [Sx.Tx.lst] at hy) (fun pre x ih h => ?_)
  have h0 := fun y hy => h y (List.mem_append_left _ hy)
  have ih := ih h0
  obtain ⟨h1, h2, h3, h4⟩ := Sx.Tx.lst_bounds M pre h0
  have hx := h x (by simp)
  rw [Sx.Tx.lst_snoc]
  unfold Sx.Tx.lstep
  intro y hy
  rw [List.length_append, List.length_singleton, Nat.add_mul, Nat.one_mul]
  split at hy
  · have := ih y hy
    omega
  · simp only [List.mem_append, List.mem_singleton] at hy
    rcases hy with hy | rfl
    · have := ih y hy
      omega
    · simp only [List.length_append]
      omega
theorem lnOf_fits {d : List UInt8} (h : d.length ≤ 65536) : Fits (lnOf d) := by
  obtain ⟨q1, q2, q3, q4⟩ := Sx.Tx.lst_bounds d.length (Sx.Tx.phys d) (Sx.Tx.phys_short d)
  have hp := Sx.Tx.phys_length d
  have h2 : (Sx.Tx.phys d).length * d.length ≤ 65536 * 65536 := Nat.mul_le_mul (by omega) h
  have h3 := lst_out d.length (Sx.Tx.phys d) (Sx.Tx.phys_short d)
  refine ⟨?_, fun x hx => ?_⟩
  · unfold lnOf Sx.Tx.lines
    rw [List.length_map]
    omega
  · obtain ⟨y, hy, rfl⟩ := List.mem_map.1 hx
    have := h3 y hy
    show y.2.toArray.size ≤ _
    rw [List.size_toArray]
    omega
theorem Lines_ln (s : ByteArray) (w : World) (hs : s.size ≤ 65536) :
    Calls Tryd.prog 16 #[.string s] w fun e w' => ∃ v, e = .returned (.tuple #[v, .int .i64 0]) ∧ w'.ownsRow w.heap.size 40 2 v (lnOf s.data.toList).length (lnCells (lnOf s.data.toList)) ∧ Below w.heap.size w w' := by
  have h := Sx.Lines_any s w hs
  rw [lnOf_cells] at h
  have hl : (lnOf s.data.toList).length = (Sx.Tx.lines s.data.toList).length := by simp [lnOf]
  rw [hl]
  exact h
set_option maxRecDepth 100000 in
set_option maxHeartbeats 4000000 in
theorem files_walk (s : ByteArray) (w : World) (hs : s.size ≤ 140737488355328) (hw0 : 0 < w.heap.size) (hsg : Sg w) :
    Calls Tryd.prog 4 #[.string s] w fun e w' => e = .returned (.bool true) ∧ Below w.heap.size w w' := by
  have HSG := hide hsg
  have HSH := hide (shown_any w hw0 hsg)
  clear hsg
  go_enter Tryd.func4, Tryd.ntmps4
  go_wp2_with fail
  refine (unhide HSH).mono ?_
  rintro e W1 ⟨rfl, hb1⟩
  have hz1 := hb1.size
  by_cases hl : s.size ≤ 65536
  · have HLN := hide (Lines_ln s W1 hl)
    have HF : Hid (Fits (lnOf s.data.toList)) := lnOf_fits (by simpa using hl)
    generalize lnOf s.data.toList = l at *
    go_wp2_with fail
    refine (unhide HLN).mono ?_
    rintro e W2 ⟨v2, rfl, hrow2, hb2⟩
    obtain ⟨p, cap, rfl⟩ := ownsRow_slice hrow2
    have hz2 := hb2.size
    have hbb2 : Below w.heap.size w W2 := hb1.trans (hb2.mono (by omega))
    have HL := hide (LnB.of_row hrow2 rfl)
    have HLX := hide (Lex_any _ l W2 (unhide HF) (by omega) (unhide HL) (Sg.below (unhide HSG) hbb2 hw0))
    clear hrow2 HLN
    go_wp2_with fail
    refine (unhide HLX).mono ?_
    rintro e W3 ⟨v3, rfl, hrow3, hb3⟩
    obtain ⟨p3, cap3, rfl⟩ := ownsRow_slice hrow3
    have hT3 := hide (TkS.of hrow3 rfl)
    have hz3 := hb3.size
    have hl3 : LnB W3.heap.size W3 (.slice p l.length cap) l := by
      obtain ⟨p', cap', h1, h2⟩ := (unhide HL).below hb3
      refine ⟨p', cap', h1, fun i hi => ?_⟩
      obtain ⟨g, o, a, b, c⟩ := h2 i hi
      exact ⟨g, o, a, by omega, c⟩
    have HRL := hide (rLex_q _ l W3 (unhide HF) hl3)
    clear hl3 HLX hrow3
    go_wp2_with fail
    refine (unhide HRL).mono ?_
    rintro e W4 ⟨v4, rfl, hrow4, hb4⟩
    obtain ⟨p4, cap4, rfl⟩ := ownsRow_slice hrow4
    have hlenR := Tk.lex_len (asL l)
    have hS4 := Same_any _ _ _ _ _ _ W4 (by simp; omega) ((unhide hT3).toG.below hb4) (TkS.of hrow4 rfl).toG
    simp only [decide_true] at hS4
    have HS4 := hide hS4
    have hfin : Hid (Below w.heap.size w W4) := (hbb2.trans (hb3.mono (by omega))).trans (hb4.mono (by omega))
    clear hS4 hrow4 HRL hlenR hT3 HL HF HSG HSH
    generalize Tk.lex (asL l) = R at *
    obtain ⟨L, er, n⟩ := R
    simp only at HS4 ⊢
    go_wp2_with (go_at_call 15; refine (unhide HS4).mono ?_; rintro e w' ⟨rfl, m, rfl⟩)
    go_ret
    exact ⟨rfl, (unhide hfin).trans (below_drewN0 _ _ _)⟩
  · have HLN := hide (Sx.Lines_long s W1 (by unfold maxLen; omega) (by omega))
    go_wp2_with fail
    refine (unhide HLN).mono ?_
    rintro e W2 ⟨rfl, rfl⟩
    go_wp2
    go_ret
    exact ⟨rfl, hb1⟩
end Go.Proofs.YtaoekfokpbebfaaDoor
