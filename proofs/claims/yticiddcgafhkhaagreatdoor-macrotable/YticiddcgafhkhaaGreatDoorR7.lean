/-
  The document's own Lex: the tokens of lines, or the error and its line.
-/
import Derived.Test.YticiddcgafhkhaaGreatDoorR6
namespace Go.Proofs.YticiddcgafhkhaaGreatDoor
open Go Go.RowKit
set_option linter.unusedVariables false
set_option linter.unusedSimpArgs false

def LexQ (R : List Tk.T × Int × Int) (w : World) (e : Ending) (w' : World) : Prop :=
  ∃ v', e = .returned (.tuple #[v', .int .i64 R.2.1, .int .i64 R.2.2]) ∧ w'.ownsRow w.heap.size 74 6 v' R.1.length (tokCells R.1) ∧ Below w.heap.size w w'
set_option maxRecDepth 100000 in
set_option maxHeartbeats 4000000 in
theorem rLex_q (v : Value) (l : List (Int × ByteArray)) (w : World) (hf : Fits l) (hl : LnB w.heap.size w v l) :
    Calls Tryz.prog 75 #[v] w fun e w' => LexQ (Tk.lex (asL l)) w e w' := by
  have HL := hide hl
  obtain ⟨p, cap, rfl, _⟩ := hl
  have HF := hide hf
  have hlen := hf.1
  clear hf
  have hR0 : Tk.lex (asL l) = Tk.col [] (if false = true then Tk.evO 0 (asL (l.drop 0)) false else Tk.ev (asL (l.drop 0)) false true) := rfl
  generalize Tk.lex (asL l) = R at *
  have HR0 := hide hR0
  clear hR0
  have hx0 : Lx (w.alloc (.cells #[.slice none 0 0, .bool false, .bool false, .bool false, .int .i64 0] 142)) w.heap.size (.slice none 0 0) false false false 0 := World.alloc_heap_new w _
  have hrow0 : (w.alloc (.cells #[.slice none 0 0, .bool false, .bool false, .bool false, .int .i64 0] 142)).ownsRow (w.heap.size + 1) 74 6 (.slice none 0 0) ([] : List Tk.T).length (tokCells []) := World.ownsRow_nil _ _ _ _
  have hbe0 : Below w.heap.size w (w.alloc (.cells #[.slice none 0 0, .bool false, .bool false, .bool false, .int .i64 0] 142)) := (Below.refl _ w).alloc (Nat.le_refl _) _
  go_enter Tryz.func75, Tryz.ntmps75
  go_wp2
  generalize (w.alloc (.cells #[.slice none 0 0, .bool false, .bool false, .bool false, .int .i64 0] 142)) = w1 at *
  generalize hB : w.heap.size = B at *
  have HB := hide hB
  clear hB
  go_loopg [6] l.length (fun gk i wr => ∃ (k : Nat) (out : List Tk.T) (v : Value) (sp fi op : Bool) (fr : Int), gk = l.length - k ∧ i = .int .i64 k ∧ k ≤ l.length ∧ Lx wr B v sp fi op fr ∧ wr.ownsRow (B + 1) 74 6 v out.length (tokCells out) ∧ out.length ≤ 20000 ∧ Hid (Below B w wr) ∧
    Hid (R = Tk.col out (if op then Tk.evO fr (asL (l.drop k)) fi else Tk.ev (asL (l.drop k)) false true)))
  case atStart => exact ⟨0, [], _, false, false, false, 0, rfl, rfl, by omega, hx0, hrow0, by simp, hbe0, HR0⟩
  case round =>
    clear hx0 hrow0 hbe0 HR0
    obtain ⟨k, out, v, sp, fi, op, fr, rfl, rfl, hk, hx, hrow, hfew, hbe, hR⟩ := hrel
    by_cases hlt : k < l.length
    · have i1 : (k : Int) < (l.length : Int) := by omega
      obtain ⟨p', cap', hp', hcs⟩ := LnB.below (unhide HL) (unhide hbe)
      obtain ⟨g, o, rfl, hgB, c0, c1⟩ := hcs k hlt
      obtain ⟨rfl, rfl⟩ : p = some ⟨g, o, none⟩ ∧ cap = cap' := by simpa using hp'
      have hS : l[k].2.size ≤ 140737488355328 := (unhide HF).2 _ (List.getElem_mem hlt)
      have hline := rline_any B v out sp fi op fr l[k].1 l[k].2 wr hS hx hrow hfew
      have hRR := unhide hR
      have hdr : asL (l.drop k) = (l[k].1, l[k].2.data.toList) :: asL (l.drop (k + 1)) := by rw [List.drop_eq_getElem_cons hlt]; rfl
      have hF : Hid (R = (fun rest => Tk.col out (stt op (if op then sp else false) (if op then fi else true) fr ((l[k].1, l[k].2.data.toList) :: rest))) (asL (l.drop (k + 1)))) := by
        rw [Hid, hRR, hdr]
        cases op <;> rfl
      generalize (fun rest => Tk.col out (stt op (if op then sp else false) (if op then fi else true) fr ((l[k].1, l[k].2.data.toList) :: rest))) = F at *
      generalize l[k].1 = N at *
      generalize l[k].2 = S at *
      have HLI := hide hline
      clear hline hRR hdr hcs hp' hR
      go_wp2_with fail
      refine (unhide HLI).mono ?_
      rintro e w2 ⟨er, v2, out2, sp2, fi2, op2, fr2, rfl, hx2, hrow2, hfew2, hbe2, hres⟩
      have hbe3 : Hid (Below B w w2) := (unhide hbe).trans hbe2
      by_cases her : er = 0
      · subst her
        have hR2 : Hid (R = Tk.col out2 (if op2 then Tk.evO fr2 (asL (l.drop (k + 1))) fi2 else Tk.ev (asL (l.drop (k + 1))) false true)) := by
          rcases hres with ⟨_, h⟩ | ⟨h, _⟩
          · rw [Hid, unhide hF, h]
          · exact absurd rfl h
        clear hres
        go_wp2
        go_roundg (l.length - (k + 1))
        case measure => omega
        case rel => exact ⟨k + 1, out2, v2, sp2, fi2, op2, fr2, rfl, by go_num, by omega, hx2, hrow2, hfew2, hbe3, hR2⟩
      · have hR2 : Hid (R = ([], er, N)) := by
          rcases hres with ⟨h, _⟩ | ⟨_, h⟩
          · exact absurd h her
          · rw [Hid, unhide hF, h]
        clear hres
        have j1 : ((er : Int) != 0) = true := by rw [bne_iff_ne]; exact her
        have k0 : w2.cell? ⟨g, o + k * 2, none⟩ = some (.int .i64 N) := (hbe2.cell (p := ⟨g, o + k * 2, none⟩) hgB).trans c0
        clear c0 c1
        go_wp2
        go_quiet (fail)
        go_wp2
        go_ret3
        refine ⟨.slice none 0 0, ?_, ?_, ?_⟩
        · rw [unhide hR2]; rfl
        · rw [unhide hR2]; exact World.ownsRow_nil _ _ _ _
        · rw [unhide HB]; exact (unhide hbe3).trans (below_drewN0 _ _ _)
    · have i1 : ¬ (k : Int) < (l.length : Int) := by omega
      obtain ⟨c0, c1, c2, c3, c4⟩ := hx.cells
      have hR2 := unhide hR
      rw [List.drop_eq_nil_of_le (by omega)] at hR2
      cases op
      · have HR2 : Hid (R = (out, 0, 0)) := hR2
        clear hR2 hR
        go_wp2
        go_ret3
        refine ⟨v, ?_, ?_, ?_⟩
        · rw [unhide HR2]; rfl
        · rw [unhide HR2, unhide HB]; exact ownsRow_base hrow (by omega)
        · rw [unhide HB]; exact unhide hbe
      · have HR2 : Hid (R = ([], 20, fr)) := hR2
        clear hR2 hR
        go_wp2
        go_quiet (fail)
        go_wp2
        go_ret3
        refine ⟨.slice none 0 0, ?_, ?_, ?_⟩
        · rw [unhide HR2]; rfl
        · rw [unhide HR2]; exact World.ownsRow_nil _ _ _ _
        · rw [unhide HB]; exact (unhide hbe).trans (below_drewN0 _ _ _)
end Go.Proofs.YticiddcgafhkhaaGreatDoor
