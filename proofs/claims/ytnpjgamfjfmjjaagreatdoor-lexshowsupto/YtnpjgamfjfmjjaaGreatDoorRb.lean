/-
  The document's own lexer: what it holds, what a line does to it, on lists.
  The document's own lexer: line, a line's tokens.
  The document's own Lex: the tokens of lines, or the error and its line.
  The document's own One: which token a text alone is.
-/
import Derived.Test.YtnpjgamfjfmjjaaGreatDoorS1
import Derived.Test.YtnpjgamfjfmjjaaGreatDoorSo
import Derived.Test.YtnpjgamfjfmjjaaGreatDoorRa
import Derived.Test.YtnpjgamfjfmjjaaGreatDoorNa
import Derived.Deep.RegionHeld3
import Derived.Deep.AppendLies
import Derived.Deep.DrawnRows
import Derived.Test.YtnpjgamfjfmjjaaGreatDoorLa
namespace Go.Proofs.YtnpjgamfjfmjjaaGreatDoor
open Go Go.RowKit
set_option linter.unusedVariables false
set_option linter.unusedSimpArgs false

theorem below_drewN0 (B : Nat) (W : World) (n : Nat) : Below B W (W.drewN n) := ⟨rfl, rfl, rfl, Nat.le_refl _, fun _ _ => rfl⟩

/-- Events from a place on, within a comment or not. -/
def stt (op sp fi : Bool) (fr : Int) (l : List Tk.Ln) : List (Tk.T × Int) := if op then Tk.evO fr l fi else Tk.ev l sp fi
theorem stt_close {N : Int} {s : List UInt8} (sp fi : Bool) (fr : Int) (r : List Tk.Ln) (h : Tk.pre [42, 47] s = true) : stt true sp fi fr ((N, s) :: r) = stt false true fi fr ((N, s.drop 2) :: r) := Tk.evO_yes r fi h
theorem stt_go {N : Int} {c : UInt8} {s : List UInt8} (sp sp' fi : Bool) (fr : Int) (r : List Tk.Ln) (h : Tk.pre [42, 47] (c :: s) = false) : stt true sp fi fr ((N, c :: s) :: r) = stt true sp' fi fr ((N, s) :: r) := Tk.evO_no r fi h
theorem stt_blank {N : Int} {c : UInt8} {s : List UInt8} (sp fi : Bool) (fr : Int) (r : List Tk.Ln) (h : Tk.bl c = true) : stt false sp fi fr ((N, c :: s) :: r) = stt false true fi fr ((N, s) :: r) := Tk.ev_blank r sp fi h
theorem stt_open {N : Int} {s : List UInt8} (sp sp' fi : Bool) (fr : Int) (r : List Tk.Ln) (h : Tk.pre [47, 42] s = true) : stt false sp fi fr ((N, s) :: r) = stt true sp' fi N ((N, s.drop 2) :: r) := Tk.ev_open r sp fi h
theorem stt_end (N : Int) (op sp fi : Bool) (fr : Int) (r : List Tk.Ln) : stt op sp fi fr ((N, []) :: r) = if op then Tk.evO fr r fi else Tk.ev r false true := by
  cases op
  · exact Tk.ev_end N r sp fi
  · exact Tk.evO_end fr N r fi
theorem stt_line {N : Int} {s : List UInt8} (sp fi : Bool) (fr : Int) (r : List Tk.Ln) (h : Tk.pre [47, 47] s = true) : stt false sp fi fr ((N, s) :: r) = Tk.ev r false true := Tk.ev_line r sp fi h
theorem stt_quote {N : Int} {s : List UInt8} (sp fi : Bool) (fr : Int) (r : List Tk.Ln) (h : Tk.isT s = true) (h0 : (Tk.ms s).2 = 0) : stt false sp fi fr ((N, s) :: r) = [Tk.er 21 N] := Tk.ev_quote r sp fi h h0
theorem stt_tok {N : Int} {s : List UInt8} (sp fi : Bool) (fr : Int) (r : List Tk.Ln) (h : Tk.isT s = true) (h0 : (Tk.ms s).2 ≠ 0) :
    stt false sp fi fr ((N, s) :: r) = (⟨(Tk.ms s).1, s.take (Tk.ms s).2, N, sp, fi⟩, 0) :: stt false false false fr ((N, s.drop (Tk.ms s).2) :: r) := Tk.ev_tok r sp fi h h0
/-- What is told behind 'out' hangs together: from the line's first byte on, and from here on. -/
def LRel (F : List Tk.Ln → List Tk.T × Int × Int) (out : List Tk.T) (op sp fi : Bool) (fr N : Int) (s : List UInt8) : Prop := ∀ rest, F rest = Tk.col out (stt op sp fi fr ((N, s) :: rest))

/-- The lexer in block b. -/
def Lx (w : World) (b : Nat) (v : Value) (sp fi op : Bool) (fr : Int) : Prop := w.heap[b]? = some (.cells #[v, .bool sp, .bool fi, .bool op, .int .i64 fr] 102 (0, 0))
theorem Lx.cells {w : World} {b : Nat} {v : Value} {sp fi op : Bool} {fr : Int} (h : Lx w b v sp fi op fr) :
    w.cell? ⟨b, 0, none⟩ = some v ∧ w.cell? ⟨b, 1, none⟩ = some (.bool sp) ∧ w.cell? ⟨b, 2, none⟩ = some (.bool fi) ∧ w.cell? ⟨b, 3, none⟩ = some (.bool op) ∧ w.cell? ⟨b, 4, none⟩ = some (.int .i64 fr) := by
  refine ⟨?_, ?_, ?_, ?_, ?_⟩ <;> (rw [World.cell?, h]; rfl)
theorem Lx.frozen {w : World} {b : Nat} {v : Value} {sp fi op : Bool} {fr : Int} (h : Lx w b v sp fi op fr) (i : Nat) : w.frozen? ⟨b, i, none⟩ = false := by
  simp [World.frozen?, show w.heap[b]? = _ from h]
theorem Lx.lt {w : World} {b : Nat} {v : Value} {sp fi op : Bool} {fr : Int} (h : Lx w b v sp fi op fr) : b < w.heap.size := (Array.getElem?_eq_some_iff.1 h).1
/-- The lexer, the row of its tokens, and the line that it is at. -/
structure LxI (w : World) (b Bl : Nat) (N : Int) (S : ByteArray) (out : List Tk.T) (v : Value) (sp fi op : Bool) (fr : Int) : Prop where
  lx : Lx w b v sp fi op fr
  row : w.ownsRow (b + 1) 42 6 v out.length (tokCells out)
  box : w.heap[Bl]? = some (.cells #[.int .i64 N, .string S] 50 (0, 0))
  ne : Bl ≠ b
  few : out.length ≤ 20000
theorem LxI.own {w : World} {b Bl : Nat} {N : Int} {S : ByteArray} {out : List Tk.T} {v : Value} {sp fi op : Bool} {fr : Int} (h : LxI w b Bl N S out v sp fi op fr) : v.ownBlock ≠ some b ∧ v.ownBlock ≠ some Bl := by
  refine ⟨fun e => ?_, fun e => ?_⟩
  · have := (row_turn h.row b e).1; omega
  · obtain ⟨_, cur, hc⟩ := row_turn h.row Bl e
    rw [h.box] at hc; cases hc
theorem LxI.box0 {w : World} {b Bl : Nat} {N : Int} {S : ByteArray} {out : List Tk.T} {v : Value} {sp fi op : Bool} {fr : Int} (h : LxI w b Bl N S out v sp fi op fr) : w.cell? ⟨Bl, 0, none⟩ = some (.int .i64 N) := by
  rw [World.cell?, h.box]; rfl
theorem LxI.drewN {w : World} {b Bl : Nat} {N : Int} {S : ByteArray} {out : List Tk.T} {v : Value} {sp fi op : Bool} {fr : Int} (h : LxI w b Bl N S out v sp fi op fr) (n : Nat) : LxI (w.drewN n) b Bl N S out v sp fi op fr :=
  ⟨h.lx, h.row, h.box, h.ne, h.few⟩
theorem LxI.set {w : World} {b Bl : Nat} {N : Int} {S : ByteArray} {out : List Tk.T} {v : Value} {sp fi op : Bool} {fr : Int} (h : LxI w b Bl N S out v sp fi op fr) {i : Nat} {u : Value} {sp' fi' op' : Bool} {fr' : Int} (hl : Lx (w.setCell ⟨b, i, none⟩ u) b v sp' fi' op' fr') :
    LxI (w.setCell ⟨b, i, none⟩ u) b Bl N S out v sp' fi' op' fr' :=
  ⟨hl, ownsRow_setCell h.row (by omega) u, (Below.heap_setCell _ _ _ _ h.ne).trans h.box, h.ne, h.few⟩
theorem Lx.set1 {w : World} {b : Nat} {v : Value} {sp fi op : Bool} {fr : Int} (h : Lx w b v sp fi op fr) (k : Bool) : Lx (w.setCell ⟨b, 1, none⟩ (.bool k)) b v k fi op fr := by
  unfold Lx at *; simp [World.setCell, Array.getElem?_modify, h]
theorem Lx.set2 {w : World} {b : Nat} {v : Value} {sp fi op : Bool} {fr : Int} (h : Lx w b v sp fi op fr) (k : Bool) : Lx (w.setCell ⟨b, 2, none⟩ (.bool k)) b v sp k op fr := by
  unfold Lx at *; simp [World.setCell, Array.getElem?_modify, h]
theorem Lx.set3 {w : World} {b : Nat} {v : Value} {sp fi op : Bool} {fr : Int} (h : Lx w b v sp fi op fr) (k : Bool) : Lx (w.setCell ⟨b, 3, none⟩ (.bool k)) b v sp fi k fr := by
  unfold Lx at *; simp [World.setCell, Array.getElem?_modify, h]
theorem Lx.set4 {w : World} {b : Nat} {v : Value} {sp fi op : Bool} {fr : Int} (h : Lx w b v sp fi op fr) (k : Int) : Lx (w.setCell ⟨b, 4, none⟩ (.int .i64 k)) b v sp fi op k := by
  unfold Lx at *; simp [World.setCell, Array.getElem?_modify, h]
theorem Lx.set0 {w : World} {b : Nat} {v : Value} {sp fi op : Bool} {fr : Int} (h : Lx w b v sp fi op fr) (u : Value) : Lx (w.setCell ⟨b, 0, none⟩ u) b u sp fi op fr := by
  unfold Lx at *; simp [World.setCell, Array.getElem?_modify, h]
theorem LxI.push {w w1 w3 : World} {b Bl : Nat} {N : Int} {S : ByteArray} {out : List Tk.T} {v nv : Value} {sp fi op : Bool} {fr : Int} (h : LxI w b Bl N S out v sp fi op fr) (o : Obj) (h1 : w1.heap = (w.alloc o).heap) (t : Tk.T)
    (hg : w1.grownBy w3 v.ownBlock) (hown : w3.ownsRow (b + 1) 42 6 nv (out.length + 1) (tokCells out ++ tokC t)) (hf : out.length < 20000) : LxI (w3.setCell ⟨b, 0, none⟩ nv) b Bl N S (out ++ [t]) nv sp fi op fr := by
  obtain ⟨n1, n2⟩ := h.own
  have hbl : Bl < w.heap.size := (Array.getElem?_eq_some_iff.1 h.box).1
  have e1 : w3.heap[b]? = w.heap[b]? := (hg.block b (by rw [h1]; simp; have := h.lx.lt; omega) (Ne.symm n1)).trans (by rw [h1]; exact Below.heap_alloc _ _ _ h.lx.lt)
  have e2 : w3.heap[Bl]? = w.heap[Bl]? := (hg.block Bl (by rw [h1]; simp; omega) (Ne.symm n2)).trans (by rw [h1]; exact Below.heap_alloc _ _ _ hbl)
  refine ⟨Lx.set0 (e1.trans h.lx) nv, ?_, (Below.heap_setCell _ _ _ _ h.ne).trans (e2.trans h.box), h.ne, by simp; omega⟩
  have := ownsRow_setCell (b := b) (i := 0) hown (by omega) nv
  rw [← tokCells_snoc] at this
  simpa using this
/-- Two bytes at a place. -/
theorem pre_cases (S : ByteArray) (k : Nat) (a b : UInt8) (x y : Int) (hx : (a.toNat : Int) = x) (hy : (b.toNat : Int) = y) (h : k < S.size) :
    (Tk.pre [a, b] (S.data.toList.drop k) = false ∧ decide ((k : Int) + 1 < (S.size : Int)) = false) ∨
    (Tk.pre [a, b] (S.data.toList.drop k) = false ∧ (k : Int) + 1 < (S.size : Int) ∧ ((S[k].toNat : Int) == x) = false) ∨
    (Tk.pre [a, b] (S.data.toList.drop k) = false ∧ (k : Int) + 1 < (S.size : Int) ∧ ((S[k].toNat : Int) == x) = true ∧ ∃ h : k + 1 < S.size, ((S[k + 1].toNat : Int) == y) = false) ∨
    (Tk.pre [a, b] (S.data.toList.drop k) = true ∧ (k : Int) + 1 < (S.size : Int) ∧ ((S[k].toNat : Int) == x) = true ∧ ∃ h : k + 1 < S.size, ((S[k + 1].toNat : Int) == y) = true) := by
  subst hx; subst hy
  by_cases h1 : k + 1 < S.size
  · rw [drop_at S k h, drop_at S (k + 1) h1, Tk.pre_two, ← byte_eq]
    have e : (a == S[k]) = (S[k] == a) := Bool.beq_comm
    have e2 : (b == S[k + 1]) = (S[k + 1] == b) := Bool.beq_comm
    rw [e, e2]
    cases hA : (S[k] == a)
    · exact .inr (.inl ⟨rfl, by omega, rfl⟩)
    · cases hB : (S[k + 1] == b)
      · exact .inr (.inr (.inl ⟨rfl, by omega, rfl, h1, by rw [← byte_eq]; exact hB⟩))
      · exact .inr (.inr (.inr ⟨rfl, by omega, rfl, h1, by rw [← byte_eq]; exact hB⟩))
  · rw [drop_at S k h, drop_end S (k + 1) (by omega)]
    exact .inl ⟨by simp [Tk.pre, List.isPrefixOf], decide_eq_false (by omega)⟩
end Go.Proofs.YtnpjgamfjfmjjaaGreatDoor
namespace Go.Proofs.YtnpjgamfjfmjjaaGreatDoor
open Go Go.RowKit
attribute [local go_sem ↓] Go.wp_at_zero Go.wp_at_succ
set_option linter.unusedVariables false
set_option linter.unusedSimpArgs false

/-- What a line leaves. -/
def LineP (F : List Tk.Ln → List Tk.T × Int × Int) (w : World) (b : Nat) (N : Int) (e : Ending) (w' : World) : Prop :=
  ∃ (er : Int) (v : Value) (out : List Tk.T) (sp fi op : Bool) (fr : Int), e = .returned (.int .i64 er) ∧ Lx w' b v sp fi op fr ∧ w'.ownsRow (b + 1) 42 6 v out.length (tokCells out) ∧ out.length ≤ 20000 ∧ Below b w w' ∧
    ((er = 0 ∧ ∀ rest, F rest = Tk.col out (if op then Tk.evO fr rest fi else Tk.ev rest false true)) ∨ (er ≠ 0 ∧ ∀ rest, F rest = ([], er, N)))

set_option maxRecDepth 100000 in
set_option maxHeartbeats 16000000 in
theorem rline_any (b : Nat) (v : Value) (out : List Tk.T) (sp fi op : Bool) (fr N : Int) (S : ByteArray) (w : World) (hS : S.size ≤ 140737488355328) (hx : Lx w b v sp fi op fr)
    (hrow : w.ownsRow (b + 1) 42 6 v out.length (tokCells out)) (hfew : out.length ≤ 20000) :
    Calls Tryz.prog 56 #[.pointer (some ⟨b, 0, none⟩), .agg #[.int .i64 N, .string S]] w fun e w' =>
      LineP (fun rest => Tk.col out (stt op (if op then sp else false) (if op then fi else true) fr ((N, S.data.toList) :: rest))) w b N e w' := by
  have hF : ∀ rest, (fun rest => Tk.col out (stt op (if op then sp else false) (if op then fi else true) fr ((N, S.data.toList) :: rest))) rest = Tk.col out (stt op (if op then sp else false) (if op then fi else true) fr ((N, S.data.toList) :: rest)) := fun _ => rfl
  generalize (fun rest => Tk.col out (stt op (if op then sp else false) (if op then fi else true) fr ((N, S.data.toList) :: rest))) = F at *
  have HF := hide hF
  clear hF
  have hb0 := hx.lt
  have hI : LxI (w.alloc (.cells #[.int .i64 N, .string S] 50)) b w.heap.size N S out v sp fi op fr :=
    ⟨(Below.heap_alloc _ _ _ hb0).trans hx, hrow.alloc _, World.alloc_heap_new w _, by omega, hfew⟩
  have hbe : Below b w (w.alloc (.cells #[.int .i64 N, .string S] 50)) := (Below.refl _ w).alloc (by omega) _
  have e3 : w.cell? ⟨b, 3, none⟩ = some (.bool op) := hx.cells.2.2.2.1
  have hnb : w.heap.size ≠ b := by omega
  have hbs : (w.alloc (.cells #[.int .i64 N, .string S] 50)).cell? ⟨w.heap.size, 1, none⟩ = some (.string S) := by rw [World.cell?, hI.box]; rfl
  go_enter Tryz.func56, Tryz.ntmps56
  go_upto_region 1 with fail
  generalize (w.alloc (.cells #[.int .i64 N, .string S] 50)) = w1 at *
  generalize w.heap.size = Bl at *
  obtain ⟨c0, c1, c2, c3, c4⟩ := hI.lx.cells
  have f1 := hI.lx.frozen 1
  have f2 := hI.lx.frozen 2
  clear e3 hx hrow
  go_upto_if 15 with fail
  go_cut [] (fun wx => ∃ sp1 fi1, LxI wx b Bl N S out v sp1 fi1 op fr ∧ Below b w wx ∧ Hid (LRel F out op sp1 fi1 fr N S.data.toList))
  case first =>
    cases op
    · go_wp2
      go_meet
      case rel =>
        refine ⟨false, true, ?_, (hbe.setCell (p := ⟨b, 2, none⟩) (Nat.le_refl _) _).setCell (p := ⟨b, 1, none⟩) (Nat.le_refl _) _, fun rest => unhide HF rest⟩
        have h2 := hI.set (hI.lx.set2 true)
        exact h2.set (h2.lx.set1 false)
    · go_wp2
      go_meet
      case rel => exact ⟨sp, fi, hI, hbe, fun rest => unhide HF rest⟩
  case rest =>
    obtain ⟨sp1, fi1, hI1, hbe1, hL1⟩ := hcut
    clear hI hbe c0 c1 c2 c3 c4 f1 f2 HF hbs
    have HBE : Hid (Below b w wc) := hbe1
    clear hbe1
    go_wp2
    go_loopg [6] S.size (fun gk i wr => ∃ (k : Nat) (out : List Tk.T) (v : Value) (sp fi op : Bool) (fr : Int), gk = S.size - k ∧ i = .int .i64 k ∧ k ≤ S.size ∧ LxI wr b Bl N S out v sp fi op fr ∧ Hid (Below b w wr) ∧ Hid (LRel F out op sp fi fr N (S.data.toList.drop k)))
    case atStart => exact ⟨0, out, v, sp1, fi1, op, fr, rfl, rfl, by omega, hI1, HBE, hL1⟩
    case round =>
      clear hI1 HBE hL1 hnb hfew
      obtain ⟨k, out, v, sp, fi, op, fr, rfl, rfl, hk, hI, hbe, hL⟩ := hrel
      obtain ⟨c0, c1, c2, c3, c4⟩ := hI.lx.cells
      have f0 := hI.lx.frozen 0
      have f1 := hI.lx.frozen 1
      have f2 := hI.lx.frozen 2
      have f3 := hI.lx.frozen 3
      have f4 := hI.lx.frozen 4
      have d0 := hI.box0
      have hne := hI.ne
      by_cases hlt : k < S.size
      · have i1 : (k : Int) < (S.size : Int) := by omega
        cases op
        · -- no comment is open
          have HB := fun W => blank_any S[k] W
          cases hbl : Tk.bl S[k]
          · simp only [hbl] at HB
            have HB' := hide HB
            clear HB
            have hp1 := pre_cases S k 47 47 47 47 rfl rfl hlt
            have hp2 := pre_cases S k 47 42 47 42 rfl rfl hlt
            have hT : Hid (Tk.pre [47, 47] (S.data.toList.drop k) = false → Tk.pre [47, 42] (S.data.toList.drop k) = false → Tk.isT (S.data.toList.drop k) = true) := by
              intro h1 h2
              rw [drop_at S k hlt] at h1 h2 ⊢
              rw [Tk.isT_iff, h1, h2, hbl]; rfl
            clear hbl
            generalize hP1 : Tk.pre [47, 47] (S.data.toList.drop k) = P1 at *
            generalize hP2 : Tk.pre [47, 42] (S.data.toList.drop k) = P2 at *
            have HP1 := hide hP1
            have HP2 := hide hP2
            clear hP1 hP2
            go_upto_region 16 with (go_at_call 72; refine (unhide HB' _).mono ?_; rintro e w' ⟨rfl, hw'⟩; obtain rfl := hw'.symm)
            go_cut [84] from 22 to 163 (fun c wx => c = .bool P1 ∧ wx = wr)
            case first =>
              rcases hp1 with ⟨rfl, e1⟩ | ⟨rfl, e1, e2⟩ | ⟨rfl, e1, e2, e3, e4⟩ | ⟨rfl, e1, e2, e3, e4⟩
              all_goals
                go_wp2_with fail
                go_meet
                case rel => exact ⟨rfl, rfl⟩
            case rest =>
              obtain ⟨rfl, hwc⟩ := hcut
              obtain rfl := hwc.symm
              clear hp1
              cases P1
              · go_upto_region 18 with fail
                go_cut [102] from 22 to 163 (fun c wx => c = .bool P2 ∧ wx = wr)
                case first =>
                  rcases hp2 with ⟨rfl, e1⟩ | ⟨rfl, e1, e2⟩ | ⟨rfl, e1, e2, e3, e4⟩ | ⟨rfl, e1, e2, e3, e4⟩
                  all_goals
                    go_wp2_with fail
                    go_meet
                    case rel => exact ⟨rfl, rfl⟩
                case rest =>
                  obtain ⟨rfl, hwc⟩ := hcut
                  obtain rfl := hwc.symm
                  cases P2
                  · -- a token
                    clear hp2
                    have hTk := unhide hT rfl rfl
                    have hSS := hS
                    have hTd := drop_data S k
                    have hTs : (S.extract k S.size).size = S.size - k := by simp
                    have hme := fun W => rfirst_any (S.extract k S.size) W (by omega) (by omega)
                    rw [hTd] at hme
                    have hml := Tk.ms_le (Tk.isT_ne hTk)
                    have hml2 : (Tk.ms (S.data.toList.drop k)).2 + k ≤ S.size := by
                      simp at hml
                      have e : S.data.size = S.size := rfl
                      omega
                    have hLt := unhide hL
                    generalize hke : Tk.ms (S.data.toList.drop k) = km at *
                    obtain ⟨kd, m⟩ := km
                    have HKE := hide hke
                    have HTK := hide hTk
                    have HME := hide hme
                    have HLT := hide hLt
                    clear hke hTk hme hTd hTs hml hLt hT HP1 HP2 HB'
                    simp only at hml2
                    unfold pairV at HME
                    go_upto_region 23 with (go_at_call 73; refine (unhide HME _).mono ?_; rintro e w' ⟨rfl, mm, rfl⟩)
                    have hI2 := hI.drewN mm
                    have hbe2 : Hid (Below b w (wr.drewN mm)) := (unhide hbe).trans (below_drewN0 _ _ _)
                    clear c0 c1 c2 c3 c4 f0 f1 f2 f3 f4 d0 hI hbe HME
                    generalize wr.drewN mm = w2 at *
                    obtain ⟨c0, c1, c2, c3, c4⟩ := hI2.lx.cells
                    have d0 := hI2.box0
                    have f0 := hI2.lx.frozen 0
                    have f1 := hI2.lx.frozen 1
                    have f2 := hI2.lx.frozen 2
                    have hvl : ∃ q cp, v = .slice q out.length cp := by
                      rcases hI2.row.2 with ⟨rfl, h0⟩ | ⟨g, cp, cur, rfl, _⟩
                      · exact ⟨none, 0, by rw [h0]⟩
                      · exact ⟨_, _, rfl⟩
                    by_cases hm0 : m = 0
                    · subst hm0
                      go_wp2
                      go_ret
                      refine ⟨21, v, out, sp, fi, false, fr, rfl, hI2.lx, hI2.row, hI2.few, unhide hbe2, .inr ⟨by decide, fun rest => ?_⟩⟩
                      rw [unhide HLT rest, stt_quote sp fi fr rest (unhide HTK) (by rw [unhide HKE])]
                      rfl
                    · have n1 : ((m : Int) == 0) = false := by rw [beq_eq_false_iff_ne]; omega
                      obtain ⟨q, cp, rfl⟩ := hvl
                      have hfw := hI2.few
                      have HLC : Hid (∀ rest, F rest = Tk.col out ((⟨kd, (S.data.toList.drop k).take m, N, sp, fi⟩, 0) :: stt false false false fr ((N, S.data.toList.drop (k + m)) :: rest))) := by
                        intro rest
                        rw [unhide HLT rest, stt_tok sp fi fr rest (unhide HTK) (by rw [unhide HKE]; exact hm0), unhide HKE, List.drop_drop]
                      clear HLT HTK HKE
                      by_cases hfull : out.length = 20000
                      · have j1 : (20000 : Int) ≤ ((out.length : Nat) : Int) := by omega
                        go_wp2
                        go_ret
                        refine ⟨22, _, out, sp, fi, false, fr, rfl, hI2.lx, hI2.row, hI2.few, unhide hbe2, .inr ⟨by decide, fun rest => ?_⟩⟩
                        rw [unhide HLC rest, Tk.col, if_pos rfl, if_neg (by omega)]
                      · have j1 : ¬ (20000 : Int) ≤ ((out.length : Nat) : Int) := by omega
                        have j2 : (k : Int) + (m : Int) ≤ (S.size : Int) := by omega
                        have j3 : (0 : Int) ≤ (k : Int) + (m : Int) := by omega
                        have j4 : (k : Int) ≤ (k : Int) + (m : Int) := by omega
                        have j5 : (0 : Int) ≤ (k : Int) := by omega
                        have j6 : IntKind.i64.wrap ((k : Int) + (m : Int)) = (k : Int) + (m : Int) := by rw [IntKind.wrap_i64]; omega
                        have lb := hI2.lx.lt
                        have lbl : Bl < w2.heap.size := (Array.getElem?_eq_some_iff.1 hI2.box).1
                        have hro := hI2.row
                        obtain ⟨o1, o2⟩ := hI2.own
                        obtain ⟨i0, hi0, hz0, hz1, hz2⟩ := info_parts Tryz.info42
                        have hbase : b + 1 ≤ w2.heap.size := by omega
                        have HI2 := hide hI2
                        clear hI2
                        go_upto_region 27 with fail
                        have hmix : Tryz.prog.follows .mixedOrders = true := by kernel_rfl
                        refine wp_region_noPanic (wpIn_wide.1 (wpIn_region_held (ro := none) (n := 0) (fun w' => w'.cell? ⟨b, 0, none⟩ = some (.slice q out.length cp) ∧ w'.cell? ⟨b, 1, none⟩ = some (.bool sp) ∧ w'.cell? ⟨b, 2, none⟩ = some (.bool fi) ∧ w'.cell? ⟨Bl, 0, none⟩ = some (.int .i64 N))
                          23 27 hmix (by kernel_rfl) (by kernel_rfl) (by kernel_rfl) (by kernel_rfl) (by kernel_rfl) (by kernel_rfl) (fun _ _ _ _ h => h) ⟨c0, c1, c2, d0⟩ ?_))
                        simp only [List.take_succ_cons, List.take_zero, List.drop_succ_cons, List.drop_zero]
                        iterate 23 (refine yields_cons _ (.inl ⟨rfl, fun W hS => (by obtain ⟨hs1, hs2, hs3, hs4⟩ := hS; go_simp; rfl)⟩) (fun B hB => ?_); simp only [Act.put, List.setIfInBounds_toArray, List.set_cons_zero, List.set_cons_succ] at hB; subst hB)
                        refine yields_nil ?_
                        refine wpListS_wide (fun K hK => ?_)
                        go_simp
                        have j7 : ((k : Int) + (m : Int)).toNat = k + m := by omega
                        rw [j7]
                        refine hK _ _ ⟨(World.cell?_of_block (Below.heap_alloc w2 _ b lb)).trans c0, (World.cell?_of_block (Below.heap_alloc w2 _ b lb)).trans c1, (World.cell?_of_block (Below.heap_alloc w2 _ b lb)).trans c2, (World.cell?_of_block (Below.heap_alloc w2 _ Bl lbl)).trans d0⟩ ?_
                        clear hK K
                        refine wpListS_wide (fun K hK => ?_)
                        refine stepIn_append (by rfl) _ _ 22 (by rfl) (b + 1) 42 i0 _ 6 56 Tryz.underlying22 hi0 hz0 hz1 hz2 rfl (by decide) (.slice q out.length cp) out.length (tokCells out) (by rfl) ((hro.alloc _).drew)
                          ⟨w2.heap.size, 0, none⟩ 1 1 [.int .i64 (kd : Nat), .string (S.extract k (k + m)), .string ⟨#[]⟩, .int .i64 N, .bool sp, .bool fi] (by rfl) (by rfl)
                          (World.news_of_block (cs := #[.int .i64 (kd : Nat), .string (S.extract k (k + m)), .string ⟨#[]⟩, .int .i64 N, .bool sp, .bool fi]) (t := 42) (fr := (0, 0)) (heap_alloc_new w2 _)) (by simp [Value.oneCell'])
                          (by unfold maxLen; omega) (by omega) (by simp; omega) ?_
                        intro v3 w3 hown3 hgrow
                        obtain ⟨gg, cap, rfl⟩ := ownsRow_succ hown3
                        have hb3 : Below b w2 w3 := (((Below.refl b w2).alloc (by omega) _).drew).grown hgrow (by simp; omega) (fun r e => by have := (row_turn hro r e).1; omega)
                        have hP3 := hide ((unhide HI2).push (w1 := ((w2.alloc (.cells #[.int .i64 (kd : Nat), .string (S.extract k (k + m)), .string ⟨#[]⟩, .int .i64 N, .bool sp, .bool fi] 42)).drew)) (.cells #[.int .i64 (kd : Nat), .string (S.extract k (k + m)), .string ⟨#[]⟩, .int .i64 N, .bool sp, .bool fi] 42) rfl ⟨kd, (S.data.toList.drop k).take m, N, sp, fi⟩ hgrow (by
                          have e : (⟨((S.data.toList.drop k).take m).toArray⟩ : ByteArray) = S.extract k (k + m) := by
                            apply WideShapes.bytes_inj
                            rw [ext_data, show k + m - k = m by omega]
                          simp only [tokC, e]
                          exact hown3) (by omega))
                        have fz : w3.frozen? ⟨b, 0, none⟩ = false := (hgrow.frozen_far ⟨b, 0, none⟩ (by simp; omega) (Ne.symm o1)).trans ((World.frozen?_of_block (Below.heap_alloc w2 _ b lb)).trans f0)
                        have g0 : w3.cell? ⟨b, 0, none⟩ = some (.slice q out.length cp) := (hgrow.cell_far ⟨b, 0, none⟩ (by simp; omega) (Ne.symm o1)).trans ((World.cell?_of_block (Below.heap_alloc w2 _ b lb)).trans c0)
                        have g1 : w3.cell? ⟨b, 1, none⟩ = some (.bool sp) := (hgrow.cell_far ⟨b, 1, none⟩ (by simp; omega) (Ne.symm o1)).trans ((World.cell?_of_block (Below.heap_alloc w2 _ b lb)).trans c1)
                        have g2 : w3.cell? ⟨b, 2, none⟩ = some (.bool fi) := (hgrow.cell_far ⟨b, 2, none⟩ (by simp; omega) (Ne.symm o1)).trans ((World.cell?_of_block (Below.heap_alloc w2 _ b lb)).trans c2)
                        have gl : w3.cell? ⟨Bl, 0, none⟩ = some (.int .i64 N) := (hgrow.cell_far ⟨Bl, 0, none⟩ (by simp; omega) (Ne.symm o2)).trans ((World.cell?_of_block (Below.heap_alloc w2 _ Bl lbl)).trans d0)
                        refine hK _ _ ⟨g0, g1, g2, gl⟩ ?_
                        clear hK K
                        refine wpListS_wide (fun K hK => ?_)
                        go_simp
                        refine hK _ _ ⟨g0, g1, g2, gl⟩ ?_
                        clear hK K
                        refine wpListS_wide (fun K hK => ?_)
                        go_simp
                        refine hK _ _ ⟨g0, g1, g2, gl⟩ ?_
                        clear hK K
                        refine listS_nil ?_
                        refine listIn_last rfl (fun K hK => ?_)
                        go_simp
                        refine hK _ _ ?_
                        clear hK K
                        have hI3 := unhide hP3
                        have hb4 : Hid (Below b w (w3.setCell ⟨b, 0, none⟩ (.slice (some ⟨gg, 0, none⟩) (out.length + 1) cap))) := ((unhide hbe2).trans hb3).setCell (p := ⟨b, 0, none⟩) (Nat.le_refl _) _
                        clear g0 g1 g2 gl fz hP3 hb3 hown3 hgrow c0 c1 c2 c3 c4 f0 f1 f2 d0 hro HI2 hbe2
                        generalize w3.setCell ⟨b, 0, none⟩ (.slice (some ⟨gg, 0, none⟩) (out.length + 1) cap) = w4 at *
                        obtain ⟨c0, c1, c2, c3, c4⟩ := hI3.lx.cells
                        have f1 := hI3.lx.frozen 1
                        have f2 := hI3.lx.frozen 2
                        go_wp2
                        go_roundg (S.size - (k + m))
                        case measure => omega
                        case rel =>
                          have h1 := hI3.set (hI3.lx.set1 false)
                          have h2 := h1.set (h1.lx.set2 false)
                          refine ⟨k + m, _, _, false, false, false, fr, rfl, by go_num, by omega, h2, ((unhide hb4).setCell (p := ⟨b, 1, none⟩) (Nat.le_refl _) _).setCell (p := ⟨b, 2, none⟩) (Nat.le_refl _) _, fun rest => ?_⟩
                          rw [unhide HLC rest, Tk.col, if_pos rfl, if_pos (by omega)]
                  · -- a comment opens
                    have hk2 : k + 2 ≤ S.size := by
                      rcases hp2 with ⟨h, _⟩ | ⟨h, _⟩ | ⟨h, _⟩ | ⟨_, _, _, h, _⟩
                      · cases h
                      · cases h
                      · cases h
                      · omega
                    clear hp2
                    go_wp2_with fail
                    go_roundg (S.size - (k + 2))
                    case measure => omega
                    case rel =>
                      have h1 := hI.set (hI.lx.set3 true)
                      have h2 := h1.set (h1.lx.set4 N)
                      refine ⟨k + 2, out, v, sp, fi, true, N, rfl, by go_num, hk2, h2, ((unhide hbe).setCell (p := ⟨b, 3, none⟩) (Nat.le_refl _) _).setCell (p := ⟨b, 4, none⟩) (Nat.le_refl _) _, fun rest => ?_⟩
                      rw [unhide hL rest, stt_open sp sp fi fr rest (unhide HP2), List.drop_drop]
              · -- a comment to the line's end
                go_wp2_with fail
                go_ret
                exact ⟨0, v, out, sp, fi, false, fr, rfl, hI.lx, hI.row, hI.few, unhide hbe, .inl ⟨rfl, fun rest => by rw [unhide hL rest, stt_line sp fi fr rest (unhide HP1)]; rfl⟩⟩
          · simp only [hbl] at HB
            have HB' := hide HB
            have HBL := hide hbl
            clear HB hbl
            go_wp2_with (go_at_call 72; refine (unhide HB' _).mono ?_; rintro e w' ⟨rfl, hw'⟩; obtain rfl := hw'.symm)
            go_roundg (S.size - (k + 1))
            case measure => omega
            case rel =>
              refine ⟨k + 1, out, v, true, fi, false, fr, rfl, by go_num, by omega, hI.set (hI.lx.set1 true), (unhide hbe).setCell (p := ⟨b, 1, none⟩) (Nat.le_refl _) _, fun rest => ?_⟩
              rw [unhide hL rest, drop_at S k hlt, stt_blank sp fi fr rest (unhide HBL)]
        · -- within a comment
          have hp := pre_cases S k 42 47 42 47 rfl rfl hlt
          generalize hP : Tk.pre [42, 47] (S.data.toList.drop k) = P at *
          have HP := hide hP
          clear hP
          go_upto_region 8 with fail
          go_cut [47] from 22 to 163 (fun c wx => c = .bool P ∧ wx = wr)
          case first =>
            rcases hp with ⟨rfl, e1⟩ | ⟨rfl, e1, e2⟩ | ⟨rfl, e1, e2, e3, e4⟩ | ⟨rfl, e1, e2, e3, e4⟩
            all_goals
              go_wp2_with fail
              go_meet
              case rel => exact ⟨rfl, rfl⟩
          case rest =>
            obtain ⟨rfl, hwc⟩ := hcut
            obtain rfl := hwc.symm
            cases P
            · clear hp
              go_wp2_with fail
              go_roundg (S.size - (k + 1))
              case measure => omega
              case rel =>
                refine ⟨k + 1, out, v, true, fi, true, fr, rfl, by go_num, by omega, hI.set (hI.lx.set1 true), (unhide hbe).setCell (p := ⟨b, 1, none⟩) (Nat.le_refl _) _, fun rest => ?_⟩
                have hpp := unhide HP
                rw [drop_at S k hlt] at hpp
                rw [unhide hL rest, drop_at S k hlt, stt_go sp true fi fr rest hpp]
            · have hk2 : k + 2 ≤ S.size := by
                rcases hp with ⟨h, _⟩ | ⟨h, _⟩ | ⟨h, _⟩ | ⟨_, _, _, h, _⟩
                · cases h
                · cases h
                · cases h
                · omega
              clear hp
              go_wp2_with fail
              go_roundg (S.size - (k + 2))
              case measure => omega
              case rel =>
                have h1 := hI.set (hI.lx.set3 false)
                have h2 := h1.set (h1.lx.set1 true)
                refine ⟨k + 2, out, v, true, fi, false, fr, rfl, by go_num, hk2, h2, ((unhide hbe).setCell (p := ⟨b, 3, none⟩) (Nat.le_refl _) _).setCell (p := ⟨b, 1, none⟩) (Nat.le_refl _) _, fun rest => ?_⟩
                rw [unhide hL rest, stt_close sp fi fr rest (unhide HP), List.drop_drop]
      · have i1 : ¬ (k : Int) < (S.size : Int) := by omega
        go_wp2
        go_ret
        exact ⟨0, v, out, sp, fi, op, fr, rfl, hI.lx, hI.row, hI.few, unhide hbe, .inl ⟨rfl, fun rest => by rw [unhide hL rest, drop_end S k (by omega), stt_end]⟩⟩
end Go.Proofs.YtnpjgamfjfmjjaaGreatDoor
namespace Go.Proofs.YtnpjgamfjfmjjaaGreatDoor
open Go Go.RowKit
set_option linter.unusedVariables false
set_option linter.unusedSimpArgs false

def LexQ (R : List Tk.T × Int × Int) (w : World) (e : Ending) (w' : World) : Prop :=
  ∃ v', e = .returned (.tuple #[v', .int .i64 R.2.1, .int .i64 R.2.2]) ∧ w'.ownsRow w.heap.size 42 6 v' R.1.length (tokCells R.1) ∧ Below w.heap.size w w'
set_option maxRecDepth 100000 in
set_option maxHeartbeats 4000000 in
theorem rLex_q (v : Value) (l : List (Int × ByteArray)) (w : World) (hf : Fits l) (hl : LnB w.heap.size w v l) :
    Calls Tryz.prog 41 #[v] w fun e w' => LexQ (Tk.lex (asL l)) w e w' := by
  have HL := hide hl
  obtain ⟨p, cap, rfl, _⟩ := hl
  have HF := hide hf
  have hlen := hf.1
  clear hf
  have hR0 : Tk.lex (asL l) = Tk.col [] (if false = true then Tk.evO 0 (asL (l.drop 0)) false else Tk.ev (asL (l.drop 0)) false true) := rfl
  generalize Tk.lex (asL l) = R at *
  have HR0 := hide hR0
  clear hR0
  have hx0 : Lx (w.alloc (.cells #[.slice none 0 0, .bool false, .bool false, .bool false, .int .i64 0] 102)) w.heap.size (.slice none 0 0) false false false 0 := World.alloc_heap_new w _
  have hrow0 : (w.alloc (.cells #[.slice none 0 0, .bool false, .bool false, .bool false, .int .i64 0] 102)).ownsRow (w.heap.size + 1) 42 6 (.slice none 0 0) ([] : List Tk.T).length (tokCells []) := World.ownsRow_nil _ _ _ _
  have hbe0 : Below w.heap.size w (w.alloc (.cells #[.slice none 0 0, .bool false, .bool false, .bool false, .int .i64 0] 102)) := (Below.refl _ w).alloc (Nat.le_refl _) _
  go_enter Tryz.func41, Tryz.ntmps41
  go_wp2
  generalize (w.alloc (.cells #[.slice none 0 0, .bool false, .bool false, .bool false, .int .i64 0] 102)) = w1 at *
  generalize hB : w.heap.size = B at *
  have HB := hide hB
  clear hB
  go_loopg [6] l.length (fun gk i wr => ∃ (k : Nat) (out : List Tk.T) (v : Value) (sp fi op : Bool) (fr : Int), gk = l.length - k ∧ i = .int .i64 k ∧ k ≤ l.length ∧ Lx wr B v sp fi op fr ∧ wr.ownsRow (B + 1) 42 6 v out.length (tokCells out) ∧ out.length ≤ 20000 ∧ Hid (Below B w wr) ∧
    Hid (R = Tk.col out (if op then Tk.evO fr (asL (l.drop k)) fi else Tk.ev (asL (l.drop k)) false true)))
  case atStart => exact ⟨0, [], _, false, false, false, 0, rfl, rfl, by omega, hx0, hrow0, by simp, hbe0, HR0⟩
  case round =>
    clear hx0 hrow0 hbe0 HR0
    obtain ⟨k, out, v, sp, fi, op, fr, rfl, rfl, hk, hx, hrow, hfew, hbe, hR⟩ := hrel
    by_cases hlt : k < l.length
    · have i1 : (k : Int) < (l.length : Int) := by omega
      obtain ⟨p', cap', hp', hcs⟩ := LnB.below (unhide HL) (unhide hbe)
      obtain ⟨g, o, rfl, hgB, c0, c1⟩ := hcs k hlt
      obtain ⟨rfl, rfl⟩ : p = some ⟨g, o, none⟩ ∧ cap = cap' := by simpa using hp'
      have hS : l[k].2.size ≤ 140737488355328 := (unhide HF).2 _ (List.getElem_mem hlt)
      have hline := rline_any B v out sp fi op fr l[k].1 l[k].2 wr hS hx hrow hfew
      have hRR := unhide hR
      have hdr : asL (l.drop k) = (l[k].1, l[k].2.data.toList) :: asL (l.drop (k + 1)) := by rw [List.drop_eq_getElem_cons hlt]; rfl
      have hF : Hid (R = (fun rest => Tk.col out (stt op (if op then sp else false) (if op then fi else true) fr ((l[k].1, l[k].2.data.toList) :: rest))) (asL (l.drop (k + 1)))) := by
        rw [Hid, hRR, hdr]
        cases op <;> rfl
      generalize (fun rest => Tk.col out (stt op (if op then sp else false) (if op then fi else true) fr ((l[k].1, l[k].2.data.toList) :: rest))) = F at *
      generalize l[k].1 = N at *
      generalize l[k].2 = S at *
      have HLI := hide hline
      clear hline hRR hdr hcs hp' hR
      go_wp2_with fail
      refine (unhide HLI).mono ?_
      rintro e w2 ⟨er, v2, out2, sp2, fi2, op2, fr2, rfl, hx2, hrow2, hfew2, hbe2, hres⟩
      have hbe3 : Hid (Below B w w2) := (unhide hbe).trans hbe2
      by_cases her : er = 0
      · subst her
        have hR2 : Hid (R = Tk.col out2 (if op2 then Tk.evO fr2 (asL (l.drop (k + 1))) fi2 else Tk.ev (asL (l.drop (k + 1))) false true)) := by
          rcases hres with ⟨_, h⟩ | ⟨h, _⟩
          · rw [Hid, unhide hF, h]
          · exact absurd rfl h
        clear hres
        go_wp2
        go_roundg (l.length - (k + 1))
        case measure => omega
        case rel => exact ⟨k + 1, out2, v2, sp2, fi2, op2, fr2, rfl, by go_num, by omega, hx2, hrow2, hfew2, hbe3, hR2⟩
      · have hR2 : Hid (R = ([], er, N)) := by
          rcases hres with ⟨h, _⟩ | ⟨_, h⟩
          · exact absurd h her
          · rw [Hid, unhide hF, h]
        clear hres
        have j1 : ((er : Int) != 0) = true := by rw [bne_iff_ne]; exact her
        have k0 : w2.cell? ⟨g, o + k * 2, none⟩ = some (.int .i64 N) := (hbe2.cell (p := ⟨g, o + k * 2, none⟩) hgB).trans c0
        clear c0 c1
        go_wp2
        go_quiet (fail)
        go_wp2
        go_ret3
        refine ⟨.slice none 0 0, ?_, ?_, ?_⟩
        · rw [unhide hR2]; rfl
        · rw [unhide hR2]; exact World.ownsRow_nil _ _ _ _
        · rw [unhide HB]; exact (unhide hbe3).trans (below_drewN0 _ _ _)
    · have i1 : ¬ (k : Int) < (l.length : Int) := by omega
      obtain ⟨c0, c1, c2, c3, c4⟩ := hx.cells
      have hR2 := unhide hR
      rw [List.drop_eq_nil_of_le (by omega)] at hR2
      cases op
      · have HR2 : Hid (R = (out, 0, 0)) := hR2
        clear hR2 hR
        go_wp2
        go_ret3
        refine ⟨v, ?_, ?_, ?_⟩
        · rw [unhide HR2]; rfl
        · rw [unhide HR2, unhide HB]; exact ownsRow_base hrow (by omega)
        · rw [unhide HB]; exact unhide hbe
      · have HR2 : Hid (R = ([], 20, fr)) := hR2
        clear hR2 hR
        go_wp2
        go_quiet (fail)
        go_wp2
        go_ret3
        refine ⟨.slice none 0 0, ?_, ?_, ?_⟩
        · rw [unhide HR2]; rfl
        · rw [unhide HR2]; exact World.ownsRow_nil _ _ _ _
        · rw [unhide HB]; exact (unhide hbe).trans (below_drewN0 _ _ _)
end Go.Proofs.YtnpjgamfjfmjjaaGreatDoor
namespace Go.Proofs.YtnpjgamfjfmjjaaGreatDoor
open Go Go.RowKit
set_option linter.unusedVariables false
set_option linter.unusedSimpArgs false

theorem rLex_one (s : ByteArray) (w : World) (hs : s.size ≤ 140737488355328) :
    Calls Tryz.prog 41 #[.slice (some ⟨w.heap.size, 0, none⟩) 1 1] (w.alloc (.cells #[.int .i64 1, .string s] 50)) fun e w' => ∃ v', e = .returned (.tuple #[v', .int .i64 (lex1 s).2.1, .int .i64 (lex1 s).2.2]) ∧
      TkS (w.heap.size + 1) w' v' (lex1 s).1 ∧ Below (w.heap.size + 1) (w.alloc (.cells #[.int .i64 1, .string s] 50)) w' := by
  have hz : (w.alloc (.cells #[.int .i64 1, .string s] 50)).heap.size = w.heap.size + 1 := by simp
  have hnew : (w.alloc (.cells #[.int .i64 1, .string s] 50)).heap[w.heap.size]? = some (.cells #[.int .i64 1, .string s] 50 (0, 0)) := World.alloc_heap_new w _
  have hl : LnB (w.alloc (.cells #[.int .i64 1, .string s] 50)).heap.size (w.alloc (.cells #[.int .i64 1, .string s] 50)) (.slice (some ⟨w.heap.size, 0, none⟩) 1 1) [(1, s)] := by
    refine ⟨some ⟨w.heap.size, 0, none⟩, 1, rfl, fun i hi => ⟨w.heap.size, 0, rfl, by omega, ?_, ?_⟩⟩
    · obtain rfl : i = 0 := by simpa using hi
      rw [World.cell?, hnew]; rfl
    · obtain rfl : i = 0 := by simpa using hi
      rw [World.cell?, hnew]; rfl
  have hf : Fits [(1, s)] := ⟨by simp, fun x hx => by simp at hx; subst hx; exact hs⟩
  refine (rLex_q _ _ _ hf hl).mono ?_
  rintro e w' ⟨v', rfl, hrow, hb⟩
  rw [hz] at hrow hb
  exact ⟨v', rfl, TkS.of hrow rfl, hb⟩

theorem res18 {tmps : Array Value} {w : World} {R : Nat} {cs : Array Value} (hp : tmps.getD 2 undef = .pointer (some ⟨R, 0, none⟩)) (hg : w.heap[R]? = some (.cells cs 42 (0, 0))) (hz : cs.size = 6) :
    (results Tryz.f25 tmps).run Tryz.prog w = .ok (.tuple #[.agg cs, tmps.getD 3 undef]) w := by
  rw [results_cell_tmp rfl, hp]
  have hi : (Tryz.prog.info? 42).map (·.size) = some cs.size := by rw [hz]; kernel_rfl
  simp [asAddr, run_loadVar_row w R 42 42 cs (0, 0) _ hg Tryz.underlying42 rfl hi]

set_option maxRecDepth 100000 in
set_option maxHeartbeats 4000000 in
theorem rOne_any (s : ByteArray) (w : World) (hs : s.size ≤ 140737488355328) :
    Calls Tryz.prog 25 #[.string s] w fun e w' => e = .returned (oneV s) ∧ Below w.heap.size w w' := by
  have hR1 : (w.alloc (.cells zeroT 42)).heap[w.heap.size]? = some (.cells zeroT 42 (0, 0)) := World.alloc_heap_new w _
  have hb1 : Below w.heap.size w (w.alloc (.cells zeroT 42)) := (Below.refl _ w).alloc (Nat.le_refl _) _
  have hz1 : (w.alloc (.cells zeroT 42)).heap.size = w.heap.size + 1 := by simp
  have HLX := hide (rLex_one s (w.alloc (.cells zeroT 42)) hs)
  have HV : Hid (oneV s = match (lex1 s).1 with | [t] => if t.s = s.data.toList then Value.tuple #[tokV t, .bool true] else .tuple #[.agg zeroT, .bool false] | _ => .tuple #[.agg zeroT, .bool false]) := rfl
  have HE : Hid ((lex1 s).2.1 ≠ 0 → (lex1 s).1 = []) := fun h => Tk.lex_err h
  have HI : Hid (∀ t ∈ (lex1 s).1, t.s <:+: s.data.toList) := fun t ht => Tk.lex_infix ht
  generalize oneV s = V at *
  generalize lex1 s = R at *
  obtain ⟨L, er, n⟩ := R
  simp only at HE HI
  simp only at HV
  unfold zeroT at hR1 hb1 hz1 HLX
  rw [hz1] at HLX
  go_enter Tryz.func25, Tryz.ntmps25
  go_wp2_with fail
  refine (unhide HLX).mono ?_
  rintro e W2 ⟨v', rfl, hT, hb2⟩
  have hR2 : W2.heap[w.heap.size]? = some (.cells #[.int .i64 0, .string ⟨#[]⟩, .string ⟨#[]⟩, .int .i64 0, .bool false, .bool false] 42 (0, 0)) :=
    (hb2.block _ (by omega)).trans ((Below.heap_alloc _ _ _ (by omega)).trans hR1)
  have hb3 : Below w.heap.size w W2 := (hb1.trans ((Below.refl _ _).alloc (by omega) _)).trans (hb2.mono (by omega))
  have r0 : W2.cell? ⟨w.heap.size, 0, none⟩ = some (.int .i64 0) := by rw [World.cell?, hR2]; rfl
  have r1 : W2.cell? ⟨w.heap.size, 1, none⟩ = some (.string ⟨#[]⟩) := by rw [World.cell?, hR2]; rfl
  have r2 : W2.cell? ⟨w.heap.size, 2, none⟩ = some (.string ⟨#[]⟩) := by rw [World.cell?, hR2]; rfl
  have r3 : W2.cell? ⟨w.heap.size, 3, none⟩ = some (.int .i64 0) := by rw [World.cell?, hR2]; rfl
  have r4 : W2.cell? ⟨w.heap.size, 4, none⟩ = some (.bool false) := by rw [World.cell?, hR2]; rfl
  have r5 : W2.cell? ⟨w.heap.size, 5, none⟩ = some (.bool false) := by rw [World.cell?, hR2]; rfl
  have fr : ∀ i, W2.frozen? ⟨w.heap.size, i, none⟩ = false := fun i => by simp [World.frozen?, hR2]
  have fr0 := fr 0
  have fr1 := fr 1
  have fr2 := fr 2
  have fr3 := fr 3
  have fr4 := fr 4
  have fr5 := fr 5
  have hset : ∀ i v, Below w.heap.size w (W2.setCell ⟨w.heap.size, i, none⟩ v) := fun i v => hb3.setCell (p := ⟨w.heap.size, i, none⟩) (Nat.le_refl _) v
  clear fr hset HLX hR1 hb1 hz1
  obtain ⟨p, cap, rfl, hc⟩ := hT
  have HC := hide hc
  clear hc
  have fin : ∀ a0 a1 a2 a3 a4 a5, Below w.heap.size w ((((((W2.setCell ⟨w.heap.size, 0, none⟩ a0).setCell ⟨w.heap.size, 1, none⟩ a1).setCell ⟨w.heap.size, 2, none⟩ a2).setCell ⟨w.heap.size, 3, none⟩ a3).setCell ⟨w.heap.size, 4, none⟩ a4).setCell ⟨w.heap.size, 5, none⟩ a5) := fun a0 a1 a2 a3 a4 a5 =>
    (((((hb3.setCell (p := ⟨w.heap.size, 0, none⟩) (Nat.le_refl _) _).setCell (p := ⟨w.heap.size, 1, none⟩) (Nat.le_refl _) _).setCell (p := ⟨w.heap.size, 2, none⟩) (Nat.le_refl _) _).setCell (p := ⟨w.heap.size, 3, none⟩) (Nat.le_refl _) _).setCell (p := ⟨w.heap.size, 4, none⟩) (Nat.le_refl _) _).setCell (p := ⟨w.heap.size, 5, none⟩) (Nat.le_refl _) _
  have FIN := hide fin
  clear fin
  by_cases her : er = 0
  · subst her
    clear HE
    by_cases h1 : L.length = 1
    · match L, h1 with
      | [t], _ =>
        obtain ⟨g, rfl, hg1, hg2, c0, c1, c2, c3, c4, c5⟩ := unhide HC 0 (by simp)
        simp only [List.getElem_cons_zero, Nat.zero_mul, Nat.zero_add] at c0 c1 c2 c3 c4 c5
        have hgn : g ≠ w.heap.size := by omega
        have hin := unhide HI t (by simp)
        have hiff : t.s.length = s.size ↔ t.s = s.data.toList := ⟨fun h => Tk.infix_eq hin (by simpa using h), fun h => by rw [h]; simp⟩
        clear HI hin
        by_cases hts : t.s = s.data.toList
        · have he' : (((t.s.length : Nat) : Int) != ((s.size : Nat) : Int)) = false := by rw [bne_eq_false_iff_eq, hiff.2 hts]
          have HVV : Hid (V = .tuple #[tokV t, .bool true]) := by rw [Hid, unhide HV]; simp only [hts, if_true]
          clear hiff hts HV
          go_wp2
          refine bodyPost_ret (res18 rfl (six_set hR2 _ _ _ _ _ _) rfl) rfl ⟨?_, unhide FIN _ _ _ _ _ _⟩
          rw [unhide HVV]; rfl
        · have he' : (((t.s.length : Nat) : Int) != ((s.size : Nat) : Int)) = true := by
            rw [bne_iff_ne]
            intro h
            exact hts (hiff.1 (by omega))
          have HVV : Hid (V = .tuple #[.agg zeroT, .bool false]) := by rw [Hid, unhide HV]; simp only [hts, if_false]
          clear hiff hts HV
          go_wp2
          refine bodyPost_ret (res18 rfl (six_set hR2 _ _ _ _ _ _) rfl) rfl ⟨?_, unhide FIN _ _ _ _ _ _⟩
          rw [unhide HVV]; rfl
    · have i1 : (((L.length : Nat) : Int) != 1) = true := by rw [bne_iff_ne]; omega
      have hm : Hid (V = Value.tuple #[.agg zeroT, .bool false]) := by
        rw [Hid, unhide HV]
        match L, h1 with
        | [], _ => rfl
        | [t], h => simp at h
        | _ :: _ :: _, _ => rfl
      clear HV HI
      go_wp2
      refine bodyPost_ret (res18 rfl (six_set hR2 _ _ _ _ _ _) rfl) rfl ⟨?_, unhide FIN _ _ _ _ _ _⟩
      rw [unhide hm]; rfl
  · have hL := unhide HE her
    subst hL
    have i1 : ((er : Int) != 0) = true := by rw [bne_iff_ne]; exact her
    have hm : Hid (V = Value.tuple #[.agg zeroT, .bool false]) := by rw [Hid, unhide HV]
    clear HV HI HE
    go_wp2
    refine bodyPost_ret (res18 rfl (six_set hR2 _ _ _ _ _ _) rfl) rfl ⟨?_, unhide FIN _ _ _ _ _ _⟩
    rw [unhide hm]; rfl
end Go.Proofs.YtnpjgamfjfmjjaaGreatDoor
