/-
  burinlaw05: lexed, shown; Eval of whatever tokens.
-/
import Derived.Test.YtfghfohlcofdpaaDoorD5
namespace Go.Proofs.YtfghfohlcofdpaaDoor
open Go Go.RowKit
set_option linter.unusedVariables false
set_option linter.unusedSimpArgs false

/-- The package variables that are read: the two errors, the table of signs. -/
structure Gl (w : World) : Prop where
  size : 2 < w.heap.size
  eg : Eg w
  sg : Sg w
theorem Gl.below {w w' : World} {B : Nat} (h : Gl w) (hb : Below B w w') (hB : 2 < B) : Gl w' :=
  ⟨Nat.lt_of_lt_of_le h.size hb.size, h.eg.below hb (by omega), Sg.below h.sg hb hB⟩
theorem Gl.next {w w' : World} (h : Gl w) (hb : Below w.heap.size w w') : Gl w' := h.below hb h.size

/-- What Eval tells of tokens. -/
def evM (l : List Gt) : Vl × Bool := reckM opT l [] false none
theorem EvalT_any (p : Option Addr) (cap : Nat) (l : List Gt) (w : World) (hl : l.length ≤ 1000000) (hls : ∀ t ∈ l, t.s.length ≤ 140737488355328) (hT : TkG w.heap.size w (.slice p l.length cap) l) (hg : Gl w) :
    Calls Tryd.prog 15 #[.slice p l.length cap] w fun e w' => e = .returned (evalV (evM l)) ∧ Below w.heap.size w w' :=
  Eval_any opT p cap l w hl hT (fun t ht W hb => ⟨opT_ok t, operand_any t (hls t ht) W (by have := (hg.next hb).size; omega) (hg.next hb).eg⟩)
set_option maxRecDepth 100000 in
set_option maxHeartbeats 4000000 in
theorem lexed_any (s : ByteArray) (w : World) (hs : s.size ≤ 140737488355328) (hg : Gl w) :
    Calls Tryd.prog 13 #[.string s] w fun e w' => ∃ p cap, e = .returned (.slice p ((lex1 s).1.map Tk.T.g).length cap) ∧ TkG w'.heap.size w' (.slice p ((lex1 s).1.map Tk.T.g).length cap) ((lex1 s).1.map Tk.T.g) ∧ Below w.heap.size w w' := by
  have HLX := hide (Lex_one s w hs hg.size hg.sg)
  have hb1 : Below w.heap.size w (w.alloc (.cells #[.int .i64 1, .string s] 61)) := (Below.refl _ w).alloc (Nat.le_refl _) _
  have HB := hide hb1
  clear hb1
  generalize lex1 s = R at *
  go_enter Tryd.func13, Tryd.ntmps13
  go_wp2_with fail
  refine (unhide HLX).mono ?_
  rintro e W1 ⟨v', rfl, hT, hb1⟩
  have hb2 : Below w.heap.size w W1 := (unhide HB).trans (hb1.mono (by omega))
  clear HLX HB
  go_wp2
  go_ret
  obtain ⟨p, cap, rfl, hc⟩ := hT.toG
  exact ⟨p, cap, rfl, hT.toG, hb2⟩
/-- A line's tokens. -/
def lx (s : List UInt8) : List Gt := (Tk.lex [(1, s)]).1.map Tk.T.g
theorem lx_len (s : List UInt8) : (lx s).length ≤ 1000000 := by
  have := Tk.lex_len [(1, s)]
  unfold lx; simp; omega
theorem lx_short (s : List UInt8) : ∀ t ∈ lx s, t.s.length ≤ s.length := by
  intro t ht
  obtain ⟨x, hx, rfl⟩ := List.mem_map.1 ht
  exact (Tk.lex_infix hx).length_le
theorem lexedL_any (s : List UInt8) (w : World) (hs : s.length ≤ 140737488355328) (hg : Gl w) :
    Calls Tryd.prog 13 #[.string ⟨s.toArray⟩] w fun e w' => ∃ p cap, e = .returned (.slice p (lx s).length cap) ∧ TkG w'.heap.size w' (.slice p (lx s).length cap) (lx s) ∧ Below w.heap.size w w' :=
  lexed_any ⟨s.toArray⟩ w (by show s.toArray.size ≤ _; simpa using hs) hg

def sh1 : List UInt8 := [49, 32, 43, 32, 50, 32, 42, 32, 51, 32, 61, 61, 32, 55, 32, 38, 38, 32, 33, 88]
def sh2 : List UInt8 := [45, 49, 32, 62, 32, 48, 117, 32, 63, 32, 53, 32, 58, 32, 49, 32, 47, 32, 48]
theorem sh1_is : evM (lx sh1) = (⟨1, false⟩, true) := by kernel_rfl
theorem sh2_is : evM (lx sh2) = (⟨5, false⟩, true) := by kernel_rfl
/-- lexed, and Eval of it, for a text that is told. -/
theorem evalLex (s : List UInt8) (hs : s.length ≤ 140737488355328) {p : Option Addr} {cap : Nat} {W : World} (hT : TkG W.heap.size W (.slice p (lx s).length cap) (lx s)) (hg : Gl W) :
    Calls Tryd.prog 15 #[.slice p (lx s).length cap] W fun e w' => e = .returned (evalV (evM (lx s))) ∧ Below W.heap.size W w' :=
  EvalT_any p cap (lx s) W (lx_len s) (fun t ht => Nat.le_trans (lx_short s t ht) hs) hT hg
set_option maxRecDepth 100000 in
set_option maxHeartbeats 4000000 in
theorem shown_any (w : World) (hg : Gl w) : Calls Tryd.prog 8 #[] w fun e w' => e = .returned (.bool true) ∧ Below w.heap.size w w' := by
  have HG := hide hg
  have HL1 := hide (lexedL_any sh1 w (by decide) hg)
  simp only [sh1] at HL1
  go_enter Tryd.func8, Tryd.ntmps8
  go_wp2_with fail
  refine (unhide HL1).mono ?_
  rintro e W1 ⟨p1, c1, rfl, hT1, hb1⟩
  have HE1 := hide (evalLex sh1 (by decide) hT1 (hg.next hb1))
  rw [sh1_is] at HE1
  have HB1 := hide hb1
  simp only [evalV, sh1, if_true] at HE1
  generalize (lx [49, 32, 43, 32, 50, 32, 42, 32, 51, 32, 61, 61, 32, 55, 32, 38, 38, 32, 33, 88]).length = n1 at *
  clear hT1 HL1 hb1
  go_wp2_with fail
  refine (unhide HE1).mono ?_
  rintro e W2 ⟨rfl, hb2⟩
  have hb2' := (unhide HB1).trans (hb2.mono (unhide HB1).size)
  have HB2 := hide hb2'
  have HL2 := hide (lexedL_any sh2 W2 (by decide) (hg.next hb2'))
  simp only [sh2] at HL2
  clear hb2 hb2' HE1 HB1
  go_wp2_with fail
  refine (unhide HL2).mono ?_
  rintro e W3 ⟨p3, c3, rfl, hT3, hb3⟩
  have hb3' := (unhide HB2).trans (hb3.mono (unhide HB2).size)
  have HB3 := hide hb3'
  have HE3 := hide (evalLex sh2 (by decide) hT3 (hg.next hb3'))
  rw [sh2_is] at HE3
  simp only [evalV, sh2, if_true] at HE3
  generalize (lx [45, 49, 32, 62, 32, 48, 117, 32, 63, 32, 53, 32, 58, 32, 49, 32, 47, 32, 48]).length = n3 at *
  clear hT3 HL2 hb3 hb3' HB2
  go_wp2_with fail
  refine (unhide HE3).mono ?_
  rintro e W4 ⟨rfl, hb4⟩
  have HB4 := hide ((unhide HB3).trans (hb4.mono (unhide HB3).size))
  clear hb4 HE3 HB3
  go_wp2
  go_ret
  exact ⟨rfl, unhide HB4⟩
end Go.Proofs.YtfghfohlcofdpaaDoor
