/-
  token.measure: the kind and the size of the token that a text begins with.
  token.measure, in plain words.
  token's reader.take: the token that begins here.
  token.tokens: the events of lines, one by one, for whatever loop body.
  token.Lex: the tokens of lines, or the error and its line.
  Tokens that were made, read again; token.Lex of one line; token.One; burinlaw02.shown.
  Tokens of whatever fields, in memory; the document's own Same.
-/
import Derived.Test.YtmpkgjonbjpohaaGreatDoorPa
import Derived.Test.YtmpkgjonbjpohaaGreatDoorQa
import Derived.Test.YtmpkgjonbjpohaaGreatDoorLa
import Derived.RangeFuncNested
import Derived.RangeFuncBound
import Derived.RangeFuncCalls
import Derived.RangeFuncLeaves
import Derived.Shelf.Abstract
import Derived.Shelf.RegionOpen
import Derived.OwnWalkIn
import Derived.TacticsInMore
import Derived.LoopNIn
import Derived.LoopIn
import Derived.Test.YtmpkgjonbjpohaaGreatDoorNa
import Derived.BigRegionIn
import Derived.RegionIn
import Derived.Laws.StructEq
namespace Go.Proofs.YtmpkgjonbjpohaaGreatDoor
open Go Go.RowKit
set_option linter.unusedVariables false
set_option linter.unusedSimpArgs false

theorem ms_nu (s : ByteArray) (h0 : 0 < s.size) (h : (Tk.dg s[0] || (s[0] == 46 && Tk.dig1 (s.data.toList.drop 1))) = true) : Tk.ms s.data.toList = (2, Tk.nuL s[0] (s.data.toList.drop 1) + 1) := by
  have hd := drop_at s 0 h0
  simp only [List.drop_zero, Nat.zero_add] at hd
  rw [hd, Tk.ms, ← hd, if_pos h]
theorem ms_rest (s : ByteArray) (h0 : 0 < s.size) (h : (Tk.dg s[0] || (s[0] == 46 && Tk.dig1 (s.data.toList.drop 1))) = false) : Tk.ms s.data.toList =
    if Tk.nm s[0] then (1, Tk.nmL (s.data.toList.drop 1) + 1) else if s[0] = 39 then (3, qz s h0) else if s[0] = 34 then (4, qz s h0)
    else if 0 < Tk.sgL s.data.toList then (5, Tk.sgL s.data.toList) else (6, 1) := by
  have hd := drop_at s 0 h0
  simp only [List.drop_zero, Nat.zero_add] at hd
  conv => lhs; rw [hd, Tk.ms, ← hd]
  rw [if_neg (by rw [h]; decide)]
  unfold qz
  split
  · rfl
  · by_cases h39 : s[0] = 39
    · simp [h39]
    · by_cases h34 : s[0] = 34
      · simp [h34]
      · simp [h39, h34]

def cas (N : Bool) (x : Int) (nm q sg : Nat) : Nat × Nat := if N then (1, nm) else if x == 39 then (3, q) else if x == 34 then (4, q) else if 0 < sg then (5, sg) else (6, 1)
def pairV (p : Nat × Nat) : Value := .tuple #[.int .i64 (p.1 : Nat), .int .i64 (p.2 : Nat)]
set_option maxHeartbeats 16000000 in
theorem measure_x (s : ByteArray) (w : World) (h0 : 0 < s.size) (hs : s.size ≤ 140737488355328) (D N : Bool) (nu nm q sg : Nat)
    (HD : Hid (∀ w, Calls Tryz.prog 140 #[.int .u8 (s[0].toNat : Int)] w fun e w' => e = .returned (.bool D) ∧ w' = w))
    (HN : Hid (Calls Tryz.prog 142 #[.int .u8 (s[0].toNat : Int)] w fun e w' => e = .returned (.bool N) ∧ w' = w))
    (HNU : Hid (Calls Tryz.prog 141 #[.string s] w fun e w' => e = .returned (.int .i64 (nu : Nat)) ∧ ∃ m, w' = w.drewN m))
    (HNM : Hid (Calls Tryz.prog 143 #[.string s] w fun e w' => e = .returned (.int .i64 (nm : Nat)) ∧ w' = w))
    (HQU : Hid (Calls Tryz.prog 144 #[.string s] w fun e w' => e = .returned (.int .i64 (q : Nat)) ∧ w' = w))
    (HSG : Hid (Calls Tryz.prog 145 #[.string s] w fun e w' => e = .returned (.int .i64 (sg : Nat)) ∧ w' = w))
    (B : Bool) (hB : (B = false ∧ ¬ 1 < s.size) ∨ (B = false ∧ 1 < s.size ∧ ((s[0].toNat : Int) == 46) = false) ∨
      (1 < s.size ∧ ((s[0].toNat : Int) == 46) = true ∧ ∃ h : 1 < s.size, Hid (Calls Tryz.prog 140 #[.int .u8 (s[1].toNat : Int)] w fun e w' => e = .returned (.bool B) ∧ w' = w))) :
    Calls Tryz.prog 129 #[.string s] w fun e w' => e = .returned (pairV (if D || B then (2, nu) else cas N (s[0].toNat : Int) nm q sg)) ∧ ∃ m, w' = w.drewN m := by
  have i0 : (0 : Int) < (s.size : Int) := by omega
  cases D
  · have hcs : (B = true ∧ (1 : Int) < (s.size : Int) ∧ ((s[0].toNat : Int) == 46) = true ∧ ∃ h : 1 < s.size, Hid (Calls Tryz.prog 140 #[.int .u8 (s[1].toNat : Int)] w fun e w' => e = .returned (.bool B) ∧ w' = w)) ∨
        (B = false ∧ (decide ((1 : Int) < (s.size : Int)) = false ∨ ((1 : Int) < (s.size : Int) ∧ ((s[0].toNat : Int) == 46) = false) ∨
        ((1 : Int) < (s.size : Int) ∧ ((s[0].toNat : Int) == 46) = true ∧ ∃ h : 1 < s.size, Hid (Calls Tryz.prog 140 #[.int .u8 (s[1].toNat : Int)] w fun e w' => e = .returned (.bool B) ∧ w' = w)))) := by
      rcases hB with ⟨h1, h2⟩ | ⟨h1, h2, h3⟩ | ⟨h1, h2, h3⟩
      · exact .inr ⟨h1, .inl (decide_eq_false (by omega))⟩
      · exact .inr ⟨h1, .inr (.inl ⟨by omega, h3⟩)⟩
      · cases B
        · exact .inr ⟨rfl, .inr (.inr ⟨by omega, h2, h3⟩)⟩
        · exact .inl ⟨rfl, by omega, h2, h3⟩
    clear hB
    rcases hcs with ⟨rfl, i1, h46, h1', HB⟩ | ⟨rfl, hcs⟩
    · have i2 : 1 < s.size := h1'
      go_enter Tryz.func129, Tryz.ntmps129
      go_wp2_with (first | (go_at_call 140; first | (with_reducible refine (unhide HB).mono ?_; rintro e w' ⟨rfl, rfl⟩) | (with_reducible refine (unhide HD _).mono ?_; rintro e w' ⟨rfl, rfl⟩)) | (go_at_call 141; refine (unhide HNU).mono ?_; rintro e w' ⟨rfl, m, rfl⟩))
      go_ret2
      exact ⟨rfl, m, rfl⟩
    · have hcas : (N = true ∧ cas N (s[0].toNat : Int) nm q sg = (1, nm)) ∨ (N = false ∧ ((s[0].toNat : Int) == 39) = true ∧ cas N (s[0].toNat : Int) nm q sg = (3, q)) ∨
          (N = false ∧ ((s[0].toNat : Int) == 39) = false ∧ ((s[0].toNat : Int) == 34) = true ∧ cas N (s[0].toNat : Int) nm q sg = (4, q)) ∨
          (N = false ∧ ((s[0].toNat : Int) == 39) = false ∧ ((s[0].toNat : Int) == 34) = false ∧ 0 < sg ∧ cas N (s[0].toNat : Int) nm q sg = (5, sg)) ∨
          (N = false ∧ ((s[0].toNat : Int) == 39) = false ∧ ((s[0].toNat : Int) == 34) = false ∧ sg = 0 ∧ cas N (s[0].toNat : Int) nm q sg = (6, 1)) := by
        unfold cas
        cases N
        · cases h39 : ((s[0].toNat : Int) == 39)
          · cases h34 : ((s[0].toNat : Int) == 34)
            · by_cases hs0 : 0 < sg
              · simp [hs0]
              · simp [hs0]; omega
            · simp
          · simp
        · simp
      rw [show (if (false || false) = true then (2, nu) else cas N (s[0].toNat : Int) nm q sg) = cas N (s[0].toNat : Int) nm q sg from rfl]
      generalize cas N (s[0].toNat : Int) nm q sg = C at *
      rcases hcs with hsz | ⟨i1, h46⟩ | ⟨i1, h46, h1', HB⟩
      · rcases hcas with ⟨rfl, rfl⟩ | ⟨rfl, h39, rfl⟩ | ⟨rfl, h39, h34, rfl⟩ | ⟨rfl, h39, h34, hsg, rfl⟩ | ⟨rfl, h39, h34, rfl, rfl⟩
        all_goals
          go_enter Tryz.func129, Tryz.ntmps129
          go_wp2_with (first | (go_at_call 140; refine (unhide HD _).mono ?_; rintro e w' ⟨rfl, rfl⟩) | (go_at_call 142; refine (unhide HN).mono ?_; rintro e w' ⟨rfl, rfl⟩) | (go_at_call 143; refine (unhide HNM).mono ?_; rintro e w' ⟨rfl, rfl⟩) | (go_at_call 144; refine (unhide HQU).mono ?_; rintro e w' ⟨rfl, rfl⟩) | (go_at_call 145; refine (unhide HSG).mono ?_; rintro e w' ⟨rfl, rfl⟩))
          go_ret2
          exact ⟨rfl, 0, rfl⟩
      · rcases hcas with ⟨rfl, rfl⟩ | ⟨rfl, h39, rfl⟩ | ⟨rfl, h39, h34, rfl⟩ | ⟨rfl, h39, h34, hsg, rfl⟩ | ⟨rfl, h39, h34, rfl, rfl⟩
        all_goals
          go_enter Tryz.func129, Tryz.ntmps129
          go_wp2_with (first | (go_at_call 140; refine (unhide HD _).mono ?_; rintro e w' ⟨rfl, rfl⟩) | (go_at_call 142; refine (unhide HN).mono ?_; rintro e w' ⟨rfl, rfl⟩) | (go_at_call 143; refine (unhide HNM).mono ?_; rintro e w' ⟨rfl, rfl⟩) | (go_at_call 144; refine (unhide HQU).mono ?_; rintro e w' ⟨rfl, rfl⟩) | (go_at_call 145; refine (unhide HSG).mono ?_; rintro e w' ⟨rfl, rfl⟩))
          go_ret2
          exact ⟨rfl, 0, rfl⟩
      · have i2 : 1 < s.size := h1'
        rcases hcas with ⟨rfl, rfl⟩ | ⟨rfl, h39, rfl⟩ | ⟨rfl, h39, h34, rfl⟩ | ⟨rfl, h39, h34, hsg, rfl⟩ | ⟨rfl, h39, h34, rfl, rfl⟩
        all_goals
          go_enter Tryz.func129, Tryz.ntmps129
          go_wp2_with (first | (go_at_call 140; first | (with_reducible refine (unhide HB).mono ?_; rintro e w' ⟨rfl, rfl⟩) | (with_reducible refine (unhide HD _).mono ?_; rintro e w' ⟨rfl, rfl⟩)) | (go_at_call 142; refine (unhide HN).mono ?_; rintro e w' ⟨rfl, rfl⟩) | (go_at_call 143; refine (unhide HNM).mono ?_; rintro e w' ⟨rfl, rfl⟩) | (go_at_call 144; refine (unhide HQU).mono ?_; rintro e w' ⟨rfl, rfl⟩) | (go_at_call 145; refine (unhide HSG).mono ?_; rintro e w' ⟨rfl, rfl⟩))
          go_ret2
          exact ⟨rfl, 0, rfl⟩
  · clear hB
    go_enter Tryz.func129, Tryz.ntmps129
    go_wp2_with (first | (go_at_call 140; refine (unhide HD _).mono ?_; rintro e w' ⟨rfl, rfl⟩) | (go_at_call 141; refine (unhide HNU).mono ?_; rintro e w' ⟨rfl, m, rfl⟩))
    go_ret2
    exact ⟨rfl, m, rfl⟩

end Go.Proofs.YtmpkgjonbjpohaaGreatDoor
namespace Go.Proofs.YtmpkgjonbjpohaaGreatDoor
open Go Go.RowKit
set_option linter.unusedVariables false
set_option linter.unusedSimpArgs false

def msV (s : ByteArray) : Value := pairV (Tk.ms s.data.toList)
theorem measure_any (s : ByteArray) (w : World) (hg : Sg w) (hs : s.size ≤ 140737488355328) (h0 : 0 < s.size) :
    Calls Tryz.prog 129 #[.string s] w fun e w' => e = .returned (msV s) ∧ ∃ m, w' = w.drewN m := by
  have key : ∀ B : Bool, B = (s[0] == 46 && Tk.dig1 (s.data.toList.drop 1)) → Tk.ms s.data.toList = if Tk.dg s[0] || B then (2, Tk.nuL s[0] (s.data.toList.drop 1) + 1) else cas (Tk.nm s[0]) (s[0].toNat : Int) (Tk.nmL (s.data.toList.drop 1) + 1) (qz s h0) (Tk.sgL s.data.toList) := by
    intro B hB
    cases hc : (Tk.dg s[0] || B)
    · rw [ms_rest s h0 (by rw [← hB]; exact hc)]
      simp only [Bool.false_eq_true, if_false]
      unfold cas
      have e39 : ((s[0].toNat : Int) == 39) = (s[0] == 39) := (byte_eq s[0] 39).symm
      have e34 : ((s[0].toNat : Int) == 34) = (s[0] == 34) := (byte_eq s[0] 34).symm
      rw [e39, e34]
      simp only [beq_iff_eq]
    · rw [ms_nu s h0 (by rw [← hB]; exact hc)]; rfl
  have fin : ∀ B : Bool, B = (s[0] == 46 && Tk.dig1 (s.data.toList.drop 1)) → ((B = false ∧ ¬ 1 < s.size) ∨ (B = false ∧ 1 < s.size ∧ ((s[0].toNat : Int) == 46) = false) ∨
      (1 < s.size ∧ ((s[0].toNat : Int) == 46) = true ∧ ∃ h : 1 < s.size, Hid (Calls Tryz.prog 140 #[.int .u8 (s[1].toNat : Int)] w fun e w' => e = .returned (.bool B) ∧ w' = w))) →
      Calls Tryz.prog 129 #[.string s] w fun e w' => e = .returned (msV s) ∧ ∃ m, w' = w.drewN m := by
    intro B hB hcs
    unfold msV
    rw [key B hB]
    exact measure_x s w h0 hs _ _ _ _ _ _ (fun w => isDigit_any s[0] w) (inName_any s[0] w) (numberSize_any s w (by unfold maxLen; omega) h0) (nameSize_any s w (by unfold maxLen; omega) h0) (quotedSize_any s w hs h0) (signSize_any s w hg hs) B hcs
  have e46 : ((s[0].toNat : Int) == 46) = (s[0] == 46) := (byte_eq s[0] 46).symm
  by_cases h1 : 1 < s.size
  · have hd := drop_at s 1 h1
    cases h46 : (s[0] == 46)
    · exact fin false (by rw [h46]; rfl) (.inr (.inl ⟨rfl, h1, by rw [e46, h46]⟩))
    · refine fin (Tk.dg s[1]) (by rw [h46, hd]; rfl) (.inr (.inr ⟨h1, by rw [e46, h46], h1, isDigit_any s[1] w⟩))
  · exact fin false (by rw [drop_end s 1 (by omega)]; simp [Tk.dig1]) (.inl ⟨rfl, h1⟩)
end Go.Proofs.YtmpkgjonbjpohaaGreatDoor
namespace Go.Proofs.YtmpkgjonbjpohaaGreatDoor
open Go Go.RowKit
set_option linter.unusedVariables false
set_option linter.unusedSimpArgs false

/-- A token's cells. -/
def tokC (t : Tk.T) : List Value := [.int .i64 (t.kind : Nat), .string ⟨t.s.toArray⟩, .string ⟨#[]⟩, .int .i64 t.line, .bool t.sp, .bool t.fi]
def tokV (t : Tk.T) : Value := .agg (tokC t).toArray
def Tka (b : Nat) (v : Value) (l : List (Int × ByteArray)) (row at_ : Nat) (sp fi : Bool) (N : Int) (s : List UInt8) (w : World) (e : Ending) (w' : World) : Prop :=
  Reach b w w' ∧ (((Tk.ms s).2 = 0 ∧ e = .returned (.tuple #[tokV (Tk.er 21 N).1, .int .i64 21]) ∧ Rd w' b v row at_ sp fi) ∨
    ((Tk.ms s).2 ≠ 0 ∧ e = .returned (.tuple #[tokV ⟨(Tk.ms s).1, s.take (Tk.ms s).2, N, sp, fi⟩, .int .i64 0]) ∧ Rd w' b v row (at_ + (Tk.ms s).2) false false))
theorem Sg.reach {b : Nat} {w w' : World} (h : Sg w) (hr : Reach b w w') (hb : 10 < b) (hb2 : b < w.heap.size) : Sg w' := fun i x hx => hr.cell (h i x hx) (by show 1 ≠ b; omega) (by show 1 < _; omega)

theorem Reach.of {b : Nat} {w w' : World} (h : Reach b w w') : w.grownBy w' (some b) :=
  h (fun X => w.grownBy X (some b)) (fun A B hA hg => ⟨hg.os.trans hA.os, hg.tape.trans hA.tape, hg.output.trans hA.output, Nat.le_trans hA.size hg.size, fun k hk hne => (hg.block k (Nat.lt_of_lt_of_le hk hA.size) hne).trans (hA.block k hk hne)⟩)
    (fun A hA => ⟨hA.os, hA.tape, hA.output, hA.size, hA.block⟩) ⟨rfl, rfl, rfl, Nat.le_refl _, fun _ _ _ => rfl⟩
theorem Reach.setNew {b j i : Nat} {w w' : World} (h : Reach b w w') (hj : w.heap.size ≤ j) (v : Value) : Reach b w (w'.setCell ⟨j, i, none⟩ v) := by
  have g := h.of
  exact .grown ⟨g.os, g.tape, g.output, Nat.le_trans g.size (KeepsWalks.setCell w' _ v).size, fun k hk hne => (Below.heap_setCell _ _ _ k (by show k ≠ j; omega)).trans (g.block k hk hne)⟩
theorem Rd.other {w : World} {b j i : Nat} {v : Value} {row at_ : Nat} {sp fi : Bool} (h : Rd w b v row at_ sp fi) (hj : b ≠ j) (u : Value) : Rd (w.setCell ⟨j, i, none⟩ u) b v row at_ sp fi :=
  (Below.heap_setCell _ _ _ b hj).trans h
def zeroT : Array Value := #[.int .i64 0, .string ⟨#[]⟩, .string ⟨#[]⟩, .int .i64 0, .bool false, .bool false]
theorem res34 {tmps : Array Value} {w : World} {R : Nat} {cs : Array Value} (hp : tmps.getD 2 undef = .pointer (some ⟨R, 0, none⟩)) (hg : w.heap[R]? = some (.cells cs 115 (0, 0))) (hz : cs.size = 6) :
    (results Tryz.f105 tmps).run Tryz.prog w = .ok (.tuple #[.agg cs, tmps.getD 3 undef]) w := by
  rw [results_cell_tmp rfl, hp]
  have hi : (Tryz.prog.info? 115).map (·.size) = some cs.size := by rw [hz]; kernel_rfl
  simp [asAddr, run_loadVar_row w R 115 115 cs (0, 0) _ hg Tryz.underlying115 rfl hi]
theorem six_set {w : World} {R : Nat} {z0 z1 z2 z3 z4 z5 : Value} (h : w.heap[R]? = some (.cells #[z0, z1, z2, z3, z4, z5] 115 (0, 0))) (a0 a1 a2 a3 a4 a5 : Value) :
    ((((((w.setCell ⟨R, 0, none⟩ a0).setCell ⟨R, 1, none⟩ a1).setCell ⟨R, 2, none⟩ a2).setCell ⟨R, 3, none⟩ a3).setCell ⟨R, 4, none⟩ a4).setCell ⟨R, 5, none⟩ a5).heap[R]? = some (.cells #[a0, a1, a2, a3, a4, a5] 115 (0, 0)) := by
  simp [World.setCell, Array.getElem?_modify, h]

set_option maxRecDepth 100000 in
set_option maxHeartbeats 8000000 in
theorem take_any (b : Nat) (v : Value) (l : List (Int × ByteArray)) (row at_ : Nat) (sp fi : Bool) (w : World) (hb0 : 10 < b) (hg : Sg w) (hf : Fits l) (hl : LnA b w v l)
    (hr : Rd w b v row at_ sp fi) (hok : Ok l row at_) (hrow : row < l.length) (hT : Tk.isT (l[row].2.data.toList.drop at_) = true) :
    Calls Tryz.prog 105 #[.pointer (some ⟨b, 0, none⟩)] w fun e w' => Tka b v l row at_ sp fi l[row].1 (l[row].2.data.toList.drop at_) w e w' := by
  have hat := hok.2 hrow
  have hS : l[row].2.size ≤ 140737488355328 := hf.2 _ (List.getElem_mem hrow)
  obtain ⟨p, cap, rfl, hcs⟩ := hl
  obtain ⟨g, o, rfl, hgb, hgl, k0, k1⟩ := hcs row hrow
  generalize l[row].2 = S at *
  generalize l[row].1 = N at *
  have hms := Tk.ms_le (Tk.isT_ne hT)
  have i1 : (row : Int) < (l.length : Int) := by omega
  have hb1 : b < w.heap.size := (Array.getElem?_eq_some_iff.1 hr).1
  have HG := hide hg
  have HT := hide hT
  have HMS := hide hms
  have hl1 := hf.1
  clear hcs hg hT hms hok hf
  obtain ⟨c0, c1, c2, c3, c4⟩ := hr.cells
  go_enter Tryz.func105, Tryz.ntmps105
  go_upto_region 1 with fail
  go_region
  have hrd2 := (hr.alloc (.cells #[.int .i64 0, .string ⟨#[]⟩, .string ⟨#[]⟩, .int .i64 0, .bool false, .bool false] 115)).alloc (.cells #[.int .i64 N, .string S] 78)
  have hre2 : Reach b w ((w.alloc (.cells #[.int .i64 0, .string ⟨#[]⟩, .string ⟨#[]⟩, .int .i64 0, .bool false, .bool false] 115)).alloc (.cells #[.int .i64 N, .string S] 78)).drew := ((Reach.alloc _ _).trans (Reach.alloc _ _)).trans (Reach.drew _)
  have hR2 : ((w.alloc (.cells #[.int .i64 0, .string ⟨#[]⟩, .string ⟨#[]⟩, .int .i64 0, .bool false, .bool false] 115)).alloc (.cells #[.int .i64 N, .string S] 78)).drew.heap[w.heap.size]? = some (.cells #[.int .i64 0, .string ⟨#[]⟩, .string ⟨#[]⟩, .int .i64 0, .bool false, .bool false] 115 (0, 0)) :=
    (Below.heap_alloc _ _ _ (by simp)).trans (World.alloc_heap_new w _)
  have hL2 : ((w.alloc (.cells #[.int .i64 0, .string ⟨#[]⟩, .string ⟨#[]⟩, .int .i64 0, .bool false, .bool false] 115)).alloc (.cells #[.int .i64 N, .string S] 78)).drew.heap[w.heap.size + 1]? = some (.cells #[.int .i64 N, .string S] 78 (0, 0)) := by
    have := World.alloc_heap_new (w.alloc (.cells #[.int .i64 0, .string ⟨#[]⟩, .string ⟨#[]⟩, .int .i64 0, .bool false, .bool false] 115)) (.cells #[.int .i64 N, .string S] 78)
    rw [World.size_alloc] at this; exact this
  have hrd3 : Rd ((w.alloc (.cells #[.int .i64 0, .string ⟨#[]⟩, .string ⟨#[]⟩, .int .i64 0, .bool false, .bool false] 115)).alloc (.cells #[.int .i64 N, .string S] 78)).drew b (.slice (some ⟨g, o, none⟩) l.length cap) row at_ sp fi := hrd2
  have hsg3 := hide (Sg.reach (unhide HG) hre2 hb0 hb1)
  clear hrd2 c0 c1 c2 c3 c4 k0 k1 hr
  generalize ((w.alloc (.cells #[.int .i64 0, .string ⟨#[]⟩, .string ⟨#[]⟩, .int .i64 0, .bool false, .bool false] 115)).alloc (.cells #[.int .i64 N, .string S] 78)).drew = w2 at *
  obtain ⟨c0, c1, c2, c3, c4⟩ := hrd3.cells
  have l0 : w2.cell? ⟨w.heap.size + 1, 0, none⟩ = some (.int .i64 N) := by rw [World.cell?, hL2]; rfl
  have l1 : w2.cell? ⟨w.heap.size + 1, 1, none⟩ = some (.string S) := by rw [World.cell?, hL2]; rfl
  have i2 : (at_ : Int) ≤ (S.size : Int) := by omega
  go_upto_region 2 with fail
  go_quiet (fail)
  have hTd := drop_data S at_
  have hTs : (S.extract at_ S.size).size = S.size - at_ := by simp
  have hT0 : 0 < (S.extract at_ S.size).size := by
    have := List.length_pos_iff.2 (Tk.isT_ne (unhide HT))
    simp at this
    have e : S.data.size = S.size := rfl
    omega
  have hme := fun W (h : Sg W) => measure_any (S.extract at_ S.size) W h (by omega) hT0
  unfold msV at hme
  rw [hTd] at hme
  have hml : (Tk.ms (S.data.toList.drop at_)).2 ≤ (S.extract at_ S.size).size := by
    have := unhide HMS
    rw [hTs]
    simp at this
    have e : S.data.size = S.size := rfl
    omega
  have hrd4 : Rd (w2.drewN nq) b (.slice (some ⟨g, o, none⟩) l.length cap) row at_ sp fi := hrd3
  have hre4 : Reach b w (w2.drewN nq) := hre2.trans (Reach.drewN _ _)
  have hR4 : (w2.drewN nq).heap[w.heap.size]? = some (.cells #[.int .i64 0, .string ⟨#[]⟩, .string ⟨#[]⟩, .int .i64 0, .bool false, .bool false] 115 (0, 0)) := hR2
  have hL4 : (w2.drewN nq).heap[w.heap.size + 1]? = some (.cells #[.int .i64 N, .string S] 78 (0, 0)) := hL2
  have hsg4 : Hid (Sg (w2.drewN nq)) := hsg3
  clear c0 c1 c2 c3 c4 l0 l1 hrd3 hre2 hR2 hL2 hsg3
  generalize w2.drewN nq = w4 at *
  have HME := hide (hme w4 (unhide hsg4))
  clear hme
  unfold pairV at HME
  have hpre : Hid (∀ n, n ≤ S.size - at_ → (⟨((S.data.toList.drop at_).take n).toArray⟩ : ByteArray) = (S.extract at_ S.size).extract 0 n) := by
    intro n hn
    apply WideShapes.bytes_inj
    rw [take_min, hTd]
  generalize hTe : S.extract at_ S.size = T at *
  generalize hse : S.data.toList.drop at_ = sl at *
  generalize hke : Tk.ms sl = km at *
  obtain ⟨kd, m⟩ := km
  have HKE := hide hke
  have HSL := hide hse
  have HTs := hide hTs
  have HTd := hide hTd
  clear hTe hse hke hTd hTs
  simp only at hml HME
  go_wp2_with fail
  refine (unhide HME).mono ?_
  rintro e w5 ⟨rfl, mm, rfl⟩
  have hrd5 : Rd (w4.drewN mm) b (.slice (some ⟨g, o, none⟩) l.length cap) row at_ sp fi := hrd4
  have hre5 : Reach b w (w4.drewN mm) := hre4.trans (Reach.drewN _ _)
  have hR5 : (w4.drewN mm).heap[w.heap.size]? = some (.cells #[.int .i64 0, .string ⟨#[]⟩, .string ⟨#[]⟩, .int .i64 0, .bool false, .bool false] 115 (0, 0)) := hR4
  have hL5 : (w4.drewN mm).heap[w.heap.size + 1]? = some (.cells #[.int .i64 N, .string S] 78 (0, 0)) := hL4
  clear hrd4 hre4 hR4 hL4 hsg4 HME
  generalize w4.drewN mm = w5 at *
  obtain ⟨c0, c1, c2, c3, c4⟩ := hrd5.cells
  have f2 := hrd5.frozen 2
  have f3 := hrd5.frozen 3
  have f4 := hrd5.frozen 4
  have l0 : w5.cell? ⟨w.heap.size + 1, 0, none⟩ = some (.int .i64 N) := by rw [World.cell?, hL5]; rfl
  have r0 : w5.cell? ⟨w.heap.size, 0, none⟩ = some (.int .i64 0) := by rw [World.cell?, hR5]; rfl
  have r1 : w5.cell? ⟨w.heap.size, 1, none⟩ = some (.string ⟨#[]⟩) := by rw [World.cell?, hR5]; rfl
  have r2 : w5.cell? ⟨w.heap.size, 2, none⟩ = some (.string ⟨#[]⟩) := by rw [World.cell?, hR5]; rfl
  have r3 : w5.cell? ⟨w.heap.size, 3, none⟩ = some (.int .i64 0) := by rw [World.cell?, hR5]; rfl
  have r4 : w5.cell? ⟨w.heap.size, 4, none⟩ = some (.bool false) := by rw [World.cell?, hR5]; rfl
  have r5 : w5.cell? ⟨w.heap.size, 5, none⟩ = some (.bool false) := by rw [World.cell?, hR5]; rfl
  have fr : ∀ i, w5.frozen? ⟨w.heap.size, i, none⟩ = false := fun i => by simp [World.frozen?, hR5]
  have fr0 := fr 0
  have fr1 := fr 1
  have fr2 := fr 2
  have fr3 := fr 3
  have fr4 := fr 4
  have fr5 := fr 5
  clear fr
  generalize hBe : w.heap.size = B at *
  have HBE := hide hBe
  clear hBe
  have hb5 : b < w5.heap.size := (Array.getElem?_eq_some_iff.1 hrd5).1
  have hB5 : B + 1 < w5.heap.size := (Array.getElem?_eq_some_iff.1 hL5).1
  have hB6 : B < w5.heap.size := by omega
  have hBb : B ≠ b := by omega
  have hwB : w.heap.size ≤ B := by rw [unhide HBE]; exact Nat.le_refl _
  by_cases hm0 : m = 0
  · subst hm0
    go_wp2
    refine bodyPost_ret (res34 rfl (six_set hR5 _ _ _ _ _ _) rfl) rfl ⟨?_, .inl ⟨?_, rfl, ?_⟩⟩
    · exact (((((hre5.setNew hwB _).setNew hwB _).setNew hwB _).setNew hwB _).setNew hwB _).setNew hwB _
    · rw [unhide HSL, unhide HKE]
    · exact Rd.other (Rd.other (Rd.other (Rd.other (Rd.other (Rd.other hrd5 (Ne.symm hBb) _) (Ne.symm hBb) _) (Ne.symm hBb) _) (Ne.symm hBb) _) (Ne.symm hBb) _) (Ne.symm hBb) _
  · have n1 : ((m : Int) == 0) = false := by rw [beq_eq_false_iff_ne]; omega
    go_upto_region 6 with fail
    go_region
    have hrd6 : Rd (w5.alloc (.cells #[.int .i64 (kd : Nat), .string (T.extract 0 m), .string ⟨#[]⟩, .int .i64 N, .bool sp, .bool fi] 115)).drew b (.slice (some ⟨g, o, none⟩) l.length cap) row at_ sp fi := hrd5.alloc _
    have hre6 : Reach b w (w5.alloc (.cells #[.int .i64 (kd : Nat), .string (T.extract 0 m), .string ⟨#[]⟩, .int .i64 N, .bool sp, .bool fi] 115)).drew := (hre5.trans (Reach.alloc _ _)).trans (Reach.drew _)
    have hR6 : (w5.alloc (.cells #[.int .i64 (kd : Nat), .string (T.extract 0 m), .string ⟨#[]⟩, .int .i64 N, .bool sp, .bool fi] 115)).drew.heap[B]? = some (.cells #[.int .i64 0, .string ⟨#[]⟩, .string ⟨#[]⟩, .int .i64 0, .bool false, .bool false] 115 (0, 0)) :=
      (Below.heap_alloc _ _ _ hB6).trans hR5
    have hN6 : (w5.alloc (.cells #[.int .i64 (kd : Nat), .string (T.extract 0 m), .string ⟨#[]⟩, .int .i64 N, .bool sp, .bool fi] 115)).drew.heap[w5.heap.size]? = some (.cells #[.int .i64 (kd : Nat), .string (T.extract 0 m), .string ⟨#[]⟩, .int .i64 N, .bool sp, .bool fi] 115 (0, 0)) := World.alloc_heap_new w5 _
    have hCb : w5.heap.size ≠ b := by omega
    have hCB : w5.heap.size ≠ B := by omega
    have HX := hide (unhide hpre m (by rw [← unhide HTs]; exact hml))
    clear c0 c1 c2 c3 c4 f2 f3 f4 l0 r0 r1 r2 r3 r4 r5 fr0 fr1 fr2 fr3 fr4 fr5 hb5 hB5 hB6 hrd5 hre5 hR5 hL5
    generalize (w5.alloc (.cells #[.int .i64 (kd : Nat), .string (T.extract 0 m), .string ⟨#[]⟩, .int .i64 N, .bool sp, .bool fi] 115)).drew = w6 at *
    generalize w5.heap.size = C at *
    obtain ⟨c0, c1, c2, c3, c4⟩ := hrd6.cells
    have f2 := hrd6.frozen 2
    have f3 := hrd6.frozen 3
    have f4 := hrd6.frozen 4
    have r0 : w6.cell? ⟨B, 0, none⟩ = some (.int .i64 0) := by rw [World.cell?, hR6]; rfl
    have r1 : w6.cell? ⟨B, 1, none⟩ = some (.string ⟨#[]⟩) := by rw [World.cell?, hR6]; rfl
    have r2 : w6.cell? ⟨B, 2, none⟩ = some (.string ⟨#[]⟩) := by rw [World.cell?, hR6]; rfl
    have r3 : w6.cell? ⟨B, 3, none⟩ = some (.int .i64 0) := by rw [World.cell?, hR6]; rfl
    have r4 : w6.cell? ⟨B, 4, none⟩ = some (.bool false) := by rw [World.cell?, hR6]; rfl
    have r5 : w6.cell? ⟨B, 5, none⟩ = some (.bool false) := by rw [World.cell?, hR6]; rfl
    have t0 : w6.cell? ⟨C, 0, none⟩ = some (.int .i64 (kd : Nat)) := by rw [World.cell?, hN6]; rfl
    have t1 : w6.cell? ⟨C, 1, none⟩ = some (.string (T.extract 0 m)) := by rw [World.cell?, hN6]; rfl
    have t2 : w6.cell? ⟨C, 2, none⟩ = some (.string ⟨#[]⟩) := by rw [World.cell?, hN6]; rfl
    have t3 : w6.cell? ⟨C, 3, none⟩ = some (.int .i64 N) := by rw [World.cell?, hN6]; rfl
    have t4 : w6.cell? ⟨C, 4, none⟩ = some (.bool sp) := by rw [World.cell?, hN6]; rfl
    have t5 : w6.cell? ⟨C, 5, none⟩ = some (.bool fi) := by rw [World.cell?, hN6]; rfl
    have fr : ∀ i, w6.frozen? ⟨B, i, none⟩ = false := fun i => by simp [World.frozen?, hR6]
    have fr0 := fr 0
    have fr1 := fr 1
    have fr2 := fr 2
    have fr3 := fr 3
    have fr4 := fr 4
    have fr5 := fr 5
    have hmx : m ≤ 140737488355328 := by have := unhide HTs; omega
    clear fr
    go_wp2
    have hrd7 := Rd.set4 (Rd.set3 (Rd.set2 hrd6 (at_ + m)) false) false
    have hre7 : Reach b w (((w6.setCell ⟨b, 2, none⟩ (.int .i64 ((at_ + m : Nat) : Int))).setCell ⟨b, 3, none⟩ (.bool false)).setCell ⟨b, 4, none⟩ (.bool false)) := ((hre6.trans (Reach.set _ _)).trans (Reach.set _ _)).trans (Reach.set _ _)
    have hR7 : (((w6.setCell ⟨b, 2, none⟩ (.int .i64 ((at_ + m : Nat) : Int))).setCell ⟨b, 3, none⟩ (.bool false)).setCell ⟨b, 4, none⟩ (.bool false)).heap[B]? = some (.cells #[.int .i64 0, .string ⟨#[]⟩, .string ⟨#[]⟩, .int .i64 0, .bool false, .bool false] 115 (0, 0)) :=
      (Below.heap_setCell _ _ _ _ hBb).trans ((Below.heap_setCell _ _ _ _ hBb).trans ((Below.heap_setCell _ _ _ _ hBb).trans hR6))
    rw [Int.natCast_add] at hrd7 hre7 hR7
    generalize ((w6.setCell ⟨b, 2, none⟩ (.int .i64 ((at_ : Int) + (m : Int)))).setCell ⟨b, 3, none⟩ (.bool false)).setCell ⟨b, 4, none⟩ (.bool false) = w7 at *
    refine bodyPost_ret (res34 rfl (six_set hR7 _ _ _ _ _ _) rfl) rfl ⟨?_, .inr ⟨?_, ?_, ?_⟩⟩
    · exact (((((hre7.setNew hwB _).setNew hwB _).setNew hwB _).setNew hwB _).setNew hwB _).setNew hwB _
    · rw [unhide HSL, unhide HKE]; exact hm0
    · rw [unhide HSL, unhide HKE]; simp only [tokV, tokC, unhide HX]; rfl
    · rw [unhide HSL, unhide HKE]
      exact Rd.other (Rd.other (Rd.other (Rd.other (Rd.other (Rd.other hrd7 (Ne.symm hBb) _) (Ne.symm hBb) _) (Ne.symm hBb) _) (Ne.symm hBb) _) (Ne.symm hBb) _) (Ne.symm hBb) _
end Go.Proofs.YtmpkgjonbjpohaaGreatDoor
namespace Go.Proofs.YtmpkgjonbjpohaaGreatDoor
open Go Go.RowKit Go.Shelf
attribute [local go_sem] Oper.semAt_some
set_option linter.unusedVariables false
set_option linter.unusedSimpArgs false

def encT (x : Tk.T × Int) : Array Value := #[tokV x.1, .int .i64 x.2]
/-- A slice value that reads as these lines, below block B. -/
def LnB (B : Nat) (w : World) (v : Value) (l : List (Int × ByteArray)) : Prop :=
  ∃ p cap, v = .slice p l.length cap ∧ ∀ (i : Nat) (h : i < l.length), ∃ g o, p = some ⟨g, o, none⟩ ∧ g < B ∧ w.cell? ⟨g, o + i * 2, none⟩ = some (.int .i64 l[i].1) ∧ w.cell? ⟨g, o + i * 2 + 1, none⟩ = some (.string l[i].2)
theorem LnB.below {B : Nat} {w w' : World} {v : Value} {l : List (Int × ByteArray)} (h : LnB B w v l) (hb : Below B w w') : LnB B w' v l := by
  obtain ⟨p, cap, rfl, hc⟩ := h
  refine ⟨p, cap, rfl, fun i hi => ?_⟩
  obtain ⟨g, o, rfl, hg, c0, c1⟩ := hc i hi
  exact ⟨g, o, rfl, hg, (hb.cell (p := ⟨g, o + i * 2, none⟩) hg).trans c0, (hb.cell (p := ⟨g, o + i * 2 + 1, none⟩) hg).trans c1⟩
theorem LnB.toA {B b : Nat} {w : World} {v : Value} {l : List (Int × ByteArray)} (h : LnB B w v l) (hb : B ≤ b) (hw : B ≤ w.heap.size) : LnA b w v l := by
  obtain ⟨p, cap, rfl, hc⟩ := h
  refine ⟨p, cap, rfl, fun i hi => ?_⟩
  obtain ⟨g, o, rfl, hg, c0, c1⟩ := hc i hi
  exact ⟨g, o, rfl, by omega, by omega, c0, c1⟩
theorem Reach.below {b B : Nat} {w w' : World} (h : Reach b w w') (hB : B ≤ b) (hw : B ≤ w.heap.size) : Below B w w' :=
  have g := h.of
  ⟨g.os, g.tape, g.output, g.size, fun k hk => g.block k (by omega) (fun e => by cases e; omega)⟩
theorem Reach.keep {b : Nat} {w w' : World} {J : List (Tk.T × Int) → World → Prop} {pre : List (Tk.T × Int)} (h : Reach b w w') (hJ : AbidesO b b 1 J) (hp : J pre w) : J pre w' :=
  h (fun X => J pre X) (fun A B hA hg => hJ.turn pre A B (some b) hA hg (fun r e => by cases e; exact ⟨Nat.le_refl _, .inl ⟨Nat.le_refl _, by omega⟩⟩)) (fun A hA => hJ.drew pre A hA) hp
def evAt (l : List (Int × ByteArray)) (b : Nat) (w : World) : List (Tk.T × Int) := match w.heap[b]? with
  | some (.cells #[_, .int _ r, .int _ a, .bool sp, .bool fi] _ _) => Tk.ev (st l r.toNat a.toNat) sp fi
  | _ => []
theorem evAt_rd {l : List (Int × ByteArray)} {b : Nat} {w : World} {v : Value} {row at_ : Nat} {sp fi : Bool} (h : Rd w b v row at_ sp fi) : evAt l b w = Tk.ev (st l row at_) sp fi := by
  unfold evAt; rw [show w.heap[b]? = _ from h]; rfl
theorem noRow_one {W : World} {b : Nat} {v : Value} {row at_ : Nat} {sp fi : Bool} (h : Rd W b v row at_ sp fi) : noRow 5 b 1 W := by
  intro j c fz h1 h2 h3
  obtain rfl : j = b := by omega
  rw [show W.heap[j]? = _ from h] at h3
  cases h3

set_option maxHeartbeats 400000 in
theorem tokens_any (p : Option Addr) (len cap : Nat) (w : World) :
    Calls Tryz.prog 71 #[.slice p len cap] w fun e w' => e = .returned (.func (.func 103) #[] #[.pointer (some ⟨w.heap.size, 0, none⟩)]) ∧ w' = w.alloc (.cells #[.slice p len cap] 79) := by
  go_enter Tryz.func71, Tryz.ntmps71
  go_wp2
  go_ret
  exact ⟨rfl, rfl⟩

set_option maxRecDepth 100000 in
set_option maxHeartbeats 4000000 in
theorem tokens1_in (n : Nat) (h1 : 1 ≤ n) (lp Bd B0 : Nat) (v : Value) (l : List (Int × ByteArray)) (hf : Fits l) (J Jx : List (Tk.T × Int) → World → Prop) (W : World)
    (hJ : AbidesO W.heap.size W.heap.size 1 J) (hJx : AbidesO W.heap.size W.heap.size 1 Jx)
    (hY : ∀ pre x W1, J pre W1 → W.heap.size + 1 ≤ W1.heap.size → noRow 5 W.heap.size 1 W1 → pre ++ [x] <+: Tk.ev (asL l) false true → YieldAt Fence.wide (n - 1) Tryz.prog lp (encT x) W1 fun e W' =>
      (e = .returned (.bool true) ∧ J (pre ++ [x]) W' ∧ KeepsO W.heap.size 1 W1 W' ∧ Below B0 W1 W') ∨ (e = .returned (.bool false) ∧ Jx (pre ++ [x]) W' ∧ KeepsO W.heap.size 1 W1 W'))
    (hB0 : 10 < B0) (hBW : B0 ≤ W.heap.size) (hBd : Boxed W Bd 79 v) (hl : LnB B0 W v l) (hsg : Sg W) (h0 : J [] W) :
    CallsIn Fence.wide n Tryz.prog 103 #[.func (.yield lp) #[] #[], .pointer (some ⟨Bd, 0, none⟩)] W fun e W' => (∃ v, e = .returned v) ∧
      (J (Tk.ev (asL l) false true) W' ∨ (∃ pre, pre <+: Tk.ev (asL l) false true ∧ Jx pre W')) := by
  have hc := hBd.cell
  have HL := hide hl
  have HS := hide hsg
  have HF := hide hf
  obtain ⟨p, cap, rfl, _⟩ := hl
  clear hsg hf
  generalize hfull : Tk.ev (asL l) false true = full at *
  have HFU := hide hfull
  clear hfull
  refine callsIn_of_wp Tryz.func103 rfl trivial ?_ rfl
  simp only [Tryz.ntmps103, List.size_toArray, List.length_cons, List.length_nil, Nat.reduceAdd, Nat.reduceSub, Array.replicate_succ, Array.replicate_zero, List.push_toArray, List.append_toArray, List.nil_append, List.cons_append]
  gi_wp2
  have hrd0 : Rd (W.alloc (.cells #[.slice p l.length cap, .int .i64 0, .int .i64 0, .bool false, .bool true] 137)) W.heap.size (.slice p l.length cap) 0 0 false true := World.alloc_heap_new W _
  have hre0 : Reach W.heap.size W (W.alloc (.cells #[.slice p l.length cap, .int .i64 0, .int .i64 0, .bool false, .bool true] 137)) := Reach.alloc _ _
  have hz0 : (W.alloc (.cells #[.slice p l.length cap, .int .i64 0, .int .i64 0, .bool false, .bool true] 137)).heap.size = W.heap.size + 1 := by simp
  have hj0 := hre0.keep hJ h0
  generalize (W.alloc (.cells #[.slice p l.length cap, .int .i64 0, .int .i64 0, .bool false, .bool true] 137)) = W0 at *
  clear hc
  gi_loopw [] (fun wr => ∃ (pre : List (Tk.T × Int)) (row at_ : Nat) (sp fi : Bool), Rd wr W.heap.size (.slice p l.length cap) row at_ sp fi ∧ Ok l row at_ ∧ Hid (pre ++ Tk.ev (st l row at_) sp fi = full) ∧ J pre wr ∧ W.heap.size + 1 ≤ wr.heap.size ∧ Below B0 W wr)
    (fun wr => (evAt l W.heap.size wr).length)
  case atStart =>
    refine ⟨[], 0, 0, false, true, hrd0, ⟨Nat.zero_le _, fun _ => Nat.zero_le _⟩, ?_, hj0, by omega, hre0.below hBW hBW⟩
    rw [Hid, List.nil_append, st_zero, List.drop_zero]; exact unhide HFU
  case round =>
    obtain ⟨pre, row, at_, sp, fi, hrd, hok, hpre, hJp, hsz, hbe⟩ := hrel
    clear hrd0 hre0 hz0 hj0
    have hsk := hide (skipBlanks_any W.heap.size (.slice p l.length cap) l row at_ sp fi wr (unhide HF) (LnB.toA ((unhide HL).below hbe) hBW (by omega)) hrd hok)
    have hevm := hide (evAt_rd (l := l) hrd)
    gi_wp2_with fail
    refine ⟨trivial, ?_⟩
    refine (callsIn_wide.2 (unhide hsk)).mono ?_
    rintro e W2 ⟨hre, row', at', sp', fi', hrd2, (⟨rfl, hok2, hev2, hT⟩ | ⟨en, rfl, hev2⟩)⟩
    · have hz2 := hre.size
      have hJ2 := hre.keep hJ hJp
      have hbe2 : Below B0 W W2 := hbe.trans (hre.below hBW (by omega))
      have HE2 := hide hev2
      have HT := hide hT
      clear hev2 hT hsk
      obtain ⟨c0, c1, c2, c3, c4⟩ := hrd2.cells
      by_cases hlt : row' < l.length
      · have i1 : (((row' : Nat) : Int) == ((l.length : Nat) : Int)) = false := by rw [beq_eq_false_iff_ne]; omega
        have htk := hide (take_any W.heap.size (.slice p l.length cap) l row' at' sp' fi' W2 (by omega) (Sg.below (unhide HS) hbe2 hB0) (unhide HF) (LnB.toA ((unhide HL).below hbe2) hBW (by omega)) hrd2 hok2 hlt (unhide HT hlt))
        have hst := st_at hlt at'
        have hTT := unhide HT hlt
        have hpre2 := unhide hpre
        rw [unhide HE2] at hpre2
        rw [hst] at hpre2
        have hle := Tk.ms_le (Tk.isT_ne hTT)
        gi_wp2_with fail
        refine ⟨trivial, ?_⟩
        refine (callsIn_wide.2 (unhide htk)).mono ?_
        rintro e W3 ⟨hre3, (⟨hm0, rfl, hrd3⟩ | ⟨hm0, rfl, hrd3⟩)⟩
        · rw [Tk.ev_quote _ _ _ hTT hm0] at hpre2
          have hfin := hide hpre2
          generalize l[row'].1 = N at *
          have hz3 := hre3.size
          have hre4 : ∀ o, Reach W.heap.size W2 (W3.alloc o) := fun o => hre3.trans (Reach.alloc _ _)
          have hJ4 := fun o => (hre4 o).keep hJ hJ2
          obtain ⟨fn, tmps, assign, body, hy, hR⟩ := hY pre (Tk.er 21 N) (W3.alloc (.cells #[.int .i64 0, .string ⟨#[]⟩, .string ⟨#[]⟩, .int .i64 N, .bool false, .bool false] 115)) (hJ4 _) (by simp; omega) (noRow_one (hrd3.alloc _)) ⟨[], by rw [List.append_nil]; exact unhide hfin⟩
          simp only [encT, Tk.er, tokV, tokC, Int.cast_ofNat_Int] at hy
          have HR := hide hR
          clear hR hY hpre2 hst hTT hle c0 c1 c2 c3 c4 hm0
          simp only [Tk.er, tokV, tokC, Int.cast_ofNat_Int]
          gi_wp2_with fail
          refine (unhide HR).mono ?_
          rintro e W5 (⟨rfl, hJ5, hk5, hb5⟩ | ⟨rfl, hJx5, hk5⟩)
          · gi_wp2
            refine bodyPost_ret (results_none rfl _ _ _) rfl ?_
            exact ⟨⟨_, rfl⟩, .inl (by rw [← unhide hfin]; exact hJ5)⟩
          · gi_wp2
            refine bodyPost_ret (results_none rfl _ _ _) rfl ?_
            exact ⟨⟨_, rfl⟩, .inr ⟨_, ⟨[], by rw [List.append_nil]; exact unhide hfin⟩, hJx5⟩⟩
        · rw [Tk.ev_tok _ _ _ hTT hm0, List.drop_drop] at hpre2
          have hst2 := st_at hlt (at' + (Tk.ms (l[row'].2.data.toList.drop at')).2)
          rw [← hst2] at hpre2
          have hok3 : Ok l row' (at' + (Tk.ms (l[row'].2.data.toList.drop at')).2) := ⟨by omega, fun _ => by
            have h1 := hok2.2 hlt
            simp at hle
            have e : (l[row'].2).data.size = (l[row'].2).size := rfl
            omega⟩
          have hmeas : Hid ((Tk.ev (st l row' (at' + (Tk.ms (l[row'].2.data.toList.drop at')).2)) false false).length < (Tk.ev (st l row at_) sp fi).length) := by
            rw [Hid, unhide HE2, hst, Tk.ev_tok _ _ _ hTT hm0, List.drop_drop, ← hst2]; simp
          generalize at' + (Tk.ms (l[row'].2.data.toList.drop at')).2 = at3 at *
          generalize (Tk.T.mk (Tk.ms (l[row'].2.data.toList.drop at')).1 ((l[row'].2.data.toList.drop at').take (Tk.ms (l[row'].2.data.toList.drop at')).2) l[row'].1 sp' fi') = tk at *
          have hfin : Hid (pre ++ [(tk, 0)] ++ Tk.ev (st l row' at3) false false = full) := by rw [Hid, ← hpre2]; simp
          have hz3 := hre3.size
          obtain ⟨fn, tmps, assign, body, hy, hR⟩ := hY pre (tk, 0) (W3.alloc (.cells (tokC tk).toArray 115)) ((hre3.trans (Reach.alloc _ _)).keep hJ hJ2) (by simp; omega) (noRow_one (hrd3.alloc _)) ⟨_, unhide hfin⟩
          simp only [encT, tokV, tokC] at hy
          have HR := hide hR
          have hrd4 := hrd3.alloc (.cells (tokC tk).toArray 115)
          have hbe4 : Below B0 W (W3.alloc (.cells (tokC tk).toArray 115)) := hbe2.trans ((hre3.trans (Reach.alloc _ _)).below hBW (by omega))
          have hz4 : (W3.alloc (.cells (tokC tk).toArray 115)).heap.size = W3.heap.size + 1 := by simp
          clear hR hY hpre2 hst hst2 hTT hle c0 c1 c2 c3 c4 hm0
          simp only [tokV, tokC]
          simp only [tokC] at HR hrd4 hbe4 hz4
          gi_wp2_with fail
          refine (unhide HR).mono ?_
          rintro e W5 (⟨rfl, hJ5, hk5, hb5⟩ | ⟨rfl, hJx5, hk5⟩)
          · have hrd5 : Rd W5 W.heap.size (.slice p l.length cap) row' at3 false false := hk5.same _ _ (Nat.le_refl _) hrd4 (.inr (by omega))
            have hevm5 := hide (evAt_rd (l := l) hrd5)
            gi_wp2
            go_roundw
            case rel => exact ⟨pre ++ [(tk, 0)], row', at3, false, false, hrd5, hok3, hfin, hJ5, by have := hk5.size; omega, hbe4.trans hb5⟩
            case measure => rw [unhide hevm5, unhide hevm]; exact unhide hmeas
          · gi_wp2
            refine bodyPost_ret (results_none rfl _ _ _) rfl ?_
            exact ⟨⟨_, rfl⟩, .inr ⟨_, ⟨_, unhide hfin⟩, hJx5⟩⟩
      · have hrl : row' = l.length := by have := hok2.1; omega
        have i1 : (((row' : Nat) : Int) == ((l.length : Nat) : Int)) = true := by rw [beq_iff_eq]; omega
        have hfin : Hid (pre = full) := by
          have := unhide hpre
          rw [unhide HE2, st_end (by omega), Tk.ev_nil, List.append_nil] at this
          exact this
        gi_wp2
        refine bodyPost_ret (results_none rfl _ _ _) rfl ?_
        exact ⟨⟨_, rfl⟩, .inl (unhide hfin ▸ hJ2)⟩
    · have hz2 := hre.size
      have hJ2 := hre.keep hJ hJp
      have hfin : Hid (pre ++ [Tk.er 20 en] = full) := by
        have := unhide hpre
        rw [hev2] at this
        exact this
      clear hev2 hsk
      obtain ⟨fn, tmps, assign, body, hy, hR⟩ := hY pre (Tk.er 20 en) W2 hJ2 (by omega) (noRow_one hrd2) ⟨[], by rw [List.append_nil]; exact unhide hfin⟩
      simp only [encT, Tk.er, tokV, tokC, Int.cast_ofNat_Int] at hy
      have HR := hide hR
      clear hR hY
      gi_wp2_with fail
      refine (unhide HR).mono ?_
      rintro e W3 (⟨rfl, hJ3, hk3, hb3⟩ | ⟨rfl, hJx3, hk3⟩)
      · gi_wp2
        refine bodyPost_ret (results_none rfl _ _ _) rfl ?_
        exact ⟨⟨_, rfl⟩, .inl (by rw [← unhide hfin]; exact hJ3)⟩
      · gi_wp2
        refine bodyPost_ret (results_none rfl _ _ _) rfl ?_
        exact ⟨⟨_, rfl⟩, .inr ⟨_, ⟨[], by rw [List.append_nil]; exact unhide hfin⟩, hJx3⟩⟩
end Go.Proofs.YtmpkgjonbjpohaaGreatDoor
namespace Go.Proofs.YtmpkgjonbjpohaaGreatDoor
open Go Go.RowKit Go.Shelf
attribute [local go_sem] Oper.semAt_some
set_option linter.unusedVariables false
set_option linter.unusedSimpArgs false

def tokCells (l : List Tk.T) : List Value := l.flatMap tokC
theorem tokCells_snoc (l : List Tk.T) (t : Tk.T) : tokCells (l ++ [t]) = tokCells l ++ tokC t := by simp [tokCells]
theorem tokCells_length (l : List Tk.T) : (tokCells l).length = l.length * 6 := by
  induction l with
  | nil => rfl
  | cons x l ih => simp [tokCells, tokC] at ih ⊢; omega
theorem Tryz.info115 : (Tryz.prog.info? 115).map (fun i => (i.zero, i.size, i.bytes)) = some (some (.agg #[.int .i64 0, .string ⟨#[]⟩, .string ⟨#[]⟩, .int .i64 0, .bool false, .bool false]), 6, 56) := by kernel_rfl
theorem Boxed.below {W W' : World} {n b : Nat} {t : TypeId} {v : Value} (h : Boxed W b t v) (hb : Below n W W') (hn : b < n) : Boxed W' b t v := (hb.block b hn).trans h
theorem Boxed.turn {W W' : World} {row : Option Nat} {b : Nat} {t : TypeId} {v : Value} (h : Boxed W b t v) (hg : W.grownBy W' row) (hr : ∀ r, row = some r → b < r) : Boxed W' b t v :=
  h.kept hg (fun e => by have := hr b e.symm; omega)
theorem Boxed.setCell {b i j : Nat} {t : TypeId} {u : Value} {W : World} (h : Boxed W j t u) (hj : j ≠ b) (v : Value) : Boxed (W.setCell ⟨b, i, none⟩ v) j t u := (Below.heap_setCell W ⟨b, i, none⟩ v j hj).trans h
theorem row_turn {W : World} {base n size : Nat} {e : TypeId} {v : Value} {xs : List Value} (h : W.ownsRow base e size v n xs) : ∀ r, v.ownBlock = some r → base ≤ r ∧ ∃ cur, W.heap[r]? = some (.cells cur e (0, 0)) := by
  intro r hr
  rcases h.2 with ⟨rfl, _⟩ | ⟨g, cap, cur, rfl, hbg, hg, _⟩
  · simp [Value.ownBlock] at hr
  · obtain rfl : g = r := by simpa [Value.ownBlock] using hr
    exact ⟨hbg, cur, hg⟩
theorem Boxed.row {base n size j : Nat} {e t : TypeId} {u v : Value} {W W' : World} {xs : List Value} (h : Boxed W j t u) (hr : W.ownsRow base e size v n xs) (hg : W.grownBy W' v.ownBlock) (hj : j < base) : Boxed W' j t u :=
  h.kept hg (fun e' => by have := (row_turn hr j e'.symm).1; omega)
theorem ownsRow_base {W : World} {base base' n size : Nat} {e : TypeId} {v : Value} {xs : List Value} (h : W.ownsRow base e size v n xs) (hb : base' ≤ base) : W.ownsRow base' e size v n xs := by
  refine ⟨h.1, ?_⟩
  rcases h.2 with hn | ⟨g, cap, cur, rfl, hbg, hr⟩
  · exact .inl hn
  · exact .inr ⟨g, cap, cur, rfl, Nat.le_trans hb hbg, hr⟩
theorem ownsRow_setCell {b i base n size : Nat} {e : TypeId} {v : Value} {W : World} {xs : List Value} (h : W.ownsRow base e size v n xs) (hb : b < base) (u : Value) : (W.setCell ⟨b, i, none⟩ u).ownsRow base e size v n xs :=
  h.kept (row := some b) (grown_set W b i u) (Classical.or_iff_not_imp_left.2 (fun _ e => by have := (h.lt _ e).1; omega))
theorem KeepsO.rowG {B k base n size : Nat} {e : TypeId} {W W' : World} {v : Value} {xs : List Value} (h : W.ownsRow base e size v n xs) (hg : W.grownBy W' v.ownBlock) (hB : B + k ≤ base) : KeepsO B k W W' :=
  KeepsO.grown hg (fun r e => .inr (by obtain ⟨h1, cur, hc⟩ := row_turn h r e; exact ⟨by omega, _, hc, rfl⟩))
theorem KeepsFrom.rowG {B base n size : Nat} {e : TypeId} {W W' : World} {v : Value} {xs : List Value} (h : W.ownsRow base e size v n xs) (hg : W.grownBy W' v.ownBlock) : KeepsFrom B W W' :=
  (KeepsOthers.of_grownBy hg (fun j o ej hj => by obtain ⟨_, cur, hc⟩ := row_turn h j ej; rw [hc] at hj; cases hj; rfl)).from _
theorem six_cells (W : World) (t : Tk.T) (ty : TypeId) : ∀ (j : Nat) (u : Value), (tokC t)[j]? = some u → (W.alloc (.cells (tokC t).toArray ty)).cell? ((⟨W.heap.size, 0, none⟩ : Addr).add j) = some u := by
  intro j u h
  unfold tokC at *
  match j, h with
  | 0, h => simp at h; subst h; simp [Addr.add]
  | 1, h => simp at h; subst h; simp [Addr.add]
  | 2, h => simp at h; subst h; simp [Addr.add]
  | 3, h => simp at h; subst h; simp [Addr.add]
  | 4, h => simp at h; subst h; simp [Addr.add]
  | 5, h => simp at h; subst h; simp [Addr.add]
theorem tokens_stops (n : Nat) (h1 : 1 ≤ n) (Bd B0 : Nat) (v : Value) (l : List (Int × ByteArray)) (hf : Fits l) (w : World) (hB0 : 10 < B0) (hBw : B0 ≤ w.heap.size) (hb : Boxed w Bd 79 v) (hl : LnB B0 w v l) (hsg : Sg w) :
    SeqStopsO Fence.wide n 1 Tryz.prog 103 #[.pointer (some ⟨Bd, 0, none⟩)] encT (Below B0) (Tk.ev (asL l) false true) w :=
  fun lp J Jx W hW hJ hJx hY h0 => tokens1_in n h1 lp Bd B0 v l hf J Jx W hJ hJx hY hB0 (Nat.le_trans hBw hW.size) (Boxed.below hb hW hb.lt) (hl.below (hW.mono hBw)) (Sg.below hsg hW (by omega)) h0
theorem res13 {tmps : Array Value} {w : World} {B : Nat} {v0 v1 v2 : Value} (h2 : tmps.getD 2 undef = .pointer (some ⟨B, 0, none⟩)) (h3 : tmps.getD 3 undef = .pointer (some ⟨B + 1, 0, none⟩)) (h4 : tmps.getD 4 undef = .pointer (some ⟨B + 2, 0, none⟩))
    (c0 : w.cell? ⟨B, 0, none⟩ = some v0) (c1 : w.cell? ⟨B + 1, 0, none⟩ = some v1) (c2 : w.cell? ⟨B + 2, 0, none⟩ = some v2) :
    (results Tryz.f36 tmps).run Tryz.prog w = .ok (.tuple #[v0, v1, v2]) w := by
  have hr : Tryz.f36.results = #[.cell 2 74, .cell 3 27, .cell 4 3] := rfl
  have h2' : tmps[2]?.getD undef = .pointer (some ⟨B, 0, none⟩) := by simpa using h2
  have h3' : tmps[3]?.getD undef = .pointer (some ⟨B + 1, 0, none⟩) := by simpa using h3
  have h4' : tmps[4]?.getD undef = .pointer (some ⟨B + 2, 0, none⟩) := by simpa using h4
  simp [results, hr, h2', h3', h4', asAddr, go_sem, c0, c1, c2]

/-- What a round of Lex hands on; what it leaves when it ends. -/
def LexI (w : World) (full : List (Tk.T × Int)) (R : List Tk.T × Int × Int) (pre : List (Tk.T × Int)) (W : World) : Prop :=
  (∃ v, Boxed W (w.heap.size + 3) 74 v ∧ W.ownsRow (w.heap.size + 8) 115 6 v pre.length (tokCells (pre.map Prod.fst))) ∧ Boxed W w.heap.size 74 (.slice none 0 0) ∧ Boxed W (w.heap.size + 1) 27 (.int .i64 0) ∧ Boxed W (w.heap.size + 2) 3 (.int .i64 0) ∧
    Below w.heap.size w W ∧ pre.length ≤ 20000 ∧ Hid (∀ rest, pre ++ rest = full → Tk.col (pre.map Prod.fst) rest = R)
def LexX (w : World) (R : List Tk.T × Int × Int) (c : Code) (W : World) : Prop :=
  c = .ret ∧ ∃ e n : Int, Boxed W w.heap.size 74 (.slice none 0 0) ∧ Boxed W (w.heap.size + 1) 27 (.int .i64 e) ∧ Boxed W (w.heap.size + 2) 3 (.int .i64 n) ∧ Below w.heap.size w W ∧ Hid (R = ([], e, n))
theorem LexI.abides (w : World) (full : List (Tk.T × Int)) (R : List Tk.T × Int × Int) : AbidesO (w.heap.size + 5) (w.heap.size + 7) 1 (LexI w full R) := by
  refine ⟨fun pre X Y row hs hg hr => ?_, fun pre X hs => ?_⟩
  · obtain ⟨⟨v, h1, h2⟩, h3, h4, h5, h6, h7, h8⟩ := hs
    have hr' : ∀ r, row = some r → w.heap.size + 5 ≤ r := fun r e => (hr r e).1
    refine ⟨⟨v, Boxed.turn h1 hg (fun r e => by have := hr' r e; omega), h2.kept hg ?_⟩, Boxed.turn h3 hg (fun r e => by have := hr' r e; omega), Boxed.turn h4 hg (fun r e => by have := hr' r e; omega), Boxed.turn h5 hg (fun r e => by have := hr' r e; omega), h6.grown hg h6.size (fun r e => by have := hr' r e; omega), h7, h8⟩
    rcases h2.2 with ⟨rfl, _⟩ | ⟨g, cap, cur, rfl, hbg, hgb, _⟩
    · exact .inl rfl
    · refine .inr fun e' => ?_
      rcases (hr g (by simpa [Value.ownBlock] using e'.symm)).2 with h | ⟨o, ho, hc⟩
      · omega
      · rw [hgb] at ho; cases ho; cases hc
  · obtain ⟨⟨v, h1, h2⟩, h3, h4, h5, h6, h7, h8⟩ := hs
    exact ⟨⟨v, h1, h2.drew⟩, h3, h4, h5, h6.drew, h7, h8⟩
theorem LexX.abides (w : World) (R : List Tk.T × Int × Int) (c : Code) : AbidesO (w.heap.size + 5) (w.heap.size + 7) 1 (fun (_ : List (Tk.T × Int)) W => LexX w R c W) := by
  refine ⟨fun pre X Y row hs hg hr => ?_, fun pre X hs => ?_⟩
  · obtain ⟨rfl, e, n, h3, h4, h5, h6, h7⟩ := hs
    have hr' : ∀ r, row = some r → w.heap.size + 5 ≤ r := fun r e => (hr r e).1
    exact ⟨rfl, e, n, Boxed.turn h3 hg (fun r e => by have := hr' r e; omega), Boxed.turn h4 hg (fun r e => by have := hr' r e; omega), Boxed.turn h5 hg (fun r e => by have := hr' r e; omega), h6.grown hg h6.size (fun r e => by have := hr' r e; omega), h7⟩
  · obtain ⟨rfl, e, n, h3, h4, h5, h6, h7⟩ := hs
    exact ⟨rfl, e, n, h3, h4, h5, h6.drew, h7⟩

set_option maxRecDepth 100000 in
set_option maxHeartbeats 4000000 in
theorem Lex_any (v : Value) (l : List (Int × ByteArray)) (w : World) (hf : Fits l) (hw0 : 10 < w.heap.size) (hl : LnB w.heap.size w v l) (hsg : Sg w) :
    Calls Tryz.prog 36 #[v] w fun e w' => ∃ v', e = .returned (.tuple #[v', .int .i64 (Tk.lex (asL l)).2.1, .int .i64 (Tk.lex (asL l)).2.2]) ∧
      w'.ownsRow w.heap.size 115 6 v' (Tk.lex (asL l)).1.length (tokCells (Tk.lex (asL l)).1) ∧ Below w.heap.size w w' := by
  have HL := hide hl
  obtain ⟨p, cap, rfl, _⟩ := hl
  have HS := hide hsg
  have HF := hide hf
  clear hsg hf
  have hR0 : Tk.col [] (Tk.ev (asL l) false true) = Tk.lex (asL l) := rfl
  generalize Tk.lex (asL l) = R at *
  have HR0 := hide hR0
  clear hR0
  refine (callsIn_wide (n := 4)).1 ?_
  refine callsIn_of_wp_marks Tryz.func36 rfl trivial ?_ rfl
  simp only [Tryz.ntmps36, List.size_toArray, List.length_cons, List.length_nil, Nat.reduceAdd, Nat.reduceSub, Array.replicate_succ, Array.replicate_zero, List.push_toArray, List.append_toArray, List.nil_append, List.cons_append]
  gi_wp2_with (refine ⟨trivial, ?_⟩; gi_at_call 71; refine (callsIn_wide.2 (tokens_any p l.length cap _)).mono ?_; rintro e w' ⟨rfl, rfl⟩)
  have b0 : Boxed (((((w.alloc (.cells #[.slice none 0 0] 74)).alloc (.cells #[.int .i64 0] 27)).alloc (.cells #[.int .i64 0] 3)).alloc (.cells #[.slice none 0 0] 74)).alloc (.cells #[.slice p l.length cap] 79)) w.heap.size 74 (.slice none 0 0) :=
    ((((Boxed.new w 74 _).alloc _).alloc _).alloc _).alloc _
  have b1 : Boxed (((((w.alloc (.cells #[.slice none 0 0] 74)).alloc (.cells #[.int .i64 0] 27)).alloc (.cells #[.int .i64 0] 3)).alloc (.cells #[.slice none 0 0] 74)).alloc (.cells #[.slice p l.length cap] 79)) (w.heap.size + 1) 27 (.int .i64 0) := by
    have := (((Boxed.new (w.alloc (.cells #[.slice none 0 0] 74)) 27 (.int .i64 0)).alloc (.cells #[.int .i64 0] 3)).alloc (.cells #[.slice none 0 0] 74)).alloc (.cells #[.slice p l.length cap] 79)
    rwa [World.size_alloc] at this
  have b2 : Boxed (((((w.alloc (.cells #[.slice none 0 0] 74)).alloc (.cells #[.int .i64 0] 27)).alloc (.cells #[.int .i64 0] 3)).alloc (.cells #[.slice none 0 0] 74)).alloc (.cells #[.slice p l.length cap] 79)) (w.heap.size + 2) 3 (.int .i64 0) := by
    have := ((Boxed.new ((w.alloc (.cells #[.slice none 0 0] 74)).alloc (.cells #[.int .i64 0] 27)) 3 (.int .i64 0)).alloc (.cells #[.slice none 0 0] 74)).alloc (.cells #[.slice p l.length cap] 79)
    rwa [World.size_alloc, World.size_alloc] at this
  have b3 : Boxed (((((w.alloc (.cells #[.slice none 0 0] 74)).alloc (.cells #[.int .i64 0] 27)).alloc (.cells #[.int .i64 0] 3)).alloc (.cells #[.slice none 0 0] 74)).alloc (.cells #[.slice p l.length cap] 79)) (w.heap.size + 3) 74 (.slice none 0 0) := by
    have := (Boxed.new (((w.alloc (.cells #[.slice none 0 0] 74)).alloc (.cells #[.int .i64 0] 27)).alloc (.cells #[.int .i64 0] 3)) 74 (.slice none 0 0)).alloc (.cells #[.slice p l.length cap] 79)
    rwa [World.size_alloc, World.size_alloc, World.size_alloc] at this
  have b4 : Boxed (((((w.alloc (.cells #[.slice none 0 0] 74)).alloc (.cells #[.int .i64 0] 27)).alloc (.cells #[.int .i64 0] 3)).alloc (.cells #[.slice none 0 0] 74)).alloc (.cells #[.slice p l.length cap] 79)) (w.heap.size + 4) 79 (.slice p l.length cap) := by
    have := Boxed.new ((((w.alloc (.cells #[.slice none 0 0] 74)).alloc (.cells #[.int .i64 0] 27)).alloc (.cells #[.int .i64 0] 3)).alloc (.cells #[.slice none 0 0] 74)) 79 (.slice p l.length cap)
    rwa [World.size_alloc, World.size_alloc, World.size_alloc, World.size_alloc] at this
  have hz : (((((w.alloc (.cells #[.slice none 0 0] 74)).alloc (.cells #[.int .i64 0] 27)).alloc (.cells #[.int .i64 0] 3)).alloc (.cells #[.slice none 0 0] 74)).alloc (.cells #[.slice p l.length cap] 79)).heap.size = w.heap.size + 5 := by simp
  have hbe : Below w.heap.size w (((((w.alloc (.cells #[.slice none 0 0] 74)).alloc (.cells #[.int .i64 0] 27)).alloc (.cells #[.int .i64 0] 3)).alloc (.cells #[.slice none 0 0] 74)).alloc (.cells #[.slice p l.length cap] 79)) :=
    (((((Below.refl _ w).alloc (Nat.le_refl _) _).alloc (by simp) _).alloc (by simp; omega) _).alloc (by simp; omega) _).alloc (by simp; omega) _
  generalize (((((w.alloc (.cells #[.slice none 0 0] 74)).alloc (.cells #[.int .i64 0] 27)).alloc (.cells #[.int .i64 0] 3)).alloc (.cells #[.slice none 0 0] 74)).alloc (.cells #[.slice p l.length cap] 79)) = W0 at *
  refine wpIn_rangeFunc_ownA (k := 1) rfl (by decide) (gf := 103) (lb := #[.pointer (some ⟨w.heap.size + 1 + 1 + 1 + 1, 0, none⟩)]) rfl trivial (enters_of Tryz.func103 (by kernel_rfl) rfl)
    (tokens_stops 3 (by decide) (w.heap.size + 4) w.heap.size (.slice p l.length cap) l (unhide HF) W0 hw0 (by omega) b4 ((unhide HL).below hbe) (Sg.below (unhide HS) hbe hw0)) Below.trans (fun W lb o o' hlb hlo _ _ => ?kb)
    (fun W o hW => (Below.refl _ W).alloc (by omega) o) (Below.refl _ _) (fun _ => rfl)
    (LexI w (Tk.ev (asL l) false true) R) (fun c _ W => LexX w R c W) (by rw [hz]; exact LexI.abides w _ R) (fun c => by rw [hz]; exact LexX.abides w R c)
    ⟨⟨_, b3, World.ownsRow_nil _ _ _ _⟩, b0, b1, b2, hbe, by simp, fun rest h => by rw [List.nil_append] at h; rw [h]; exact unhide HR0⟩
    (fun x => .cells (tokC x.1).toArray 115)
    (fun x A => { tmps := #[.slice p l.length cap, undef, .pointer (some ⟨w.heap.size, 0, none⟩), .pointer (some ⟨w.heap.size + 1, 0, none⟩), .pointer (some ⟨w.heap.size + 1 + 1, 0, none⟩), .pointer (some ⟨w.heap.size + 1 + 1 + 1, 0, none⟩), .pointer (some ⟨A, 0, none⟩), .int .i64 x.2, .slice p l.length cap, .func (.func 103) #[] #[.pointer (some ⟨w.heap.size + 1 + 1 + 1 + 1, 0, none⟩)], tokV x.1, .int .i64 x.2, undef, undef, undef, undef, undef, undef, undef, undef, undef, undef, undef, undef, undef, undef, undef, undef, undef], defers := [] })
    ?assign ?body ?done ?stop
  case kb =>
    have hlt := (Array.getElem?_eq_some_iff.1 hlo).1
    exact (Below.refl _ W).grown (grownBy_putObj' W lb o') (by omega) (fun r e => by cases e; omega)
  case assign =>
    intro l' x W' K hK
    simp only [encT, tokV, tokC] at hK ⊢
    gi_wp2
    simpa using hK
  case body =>
    rintro l' pre ⟨t, er⟩ W1 A hA hAo hno ⟨⟨v, c3, hrow⟩, c0, c1, c2, hbe1, hlen, hcol⟩ hpre
    rw [hz] at hA hno
    obtain ⟨rest, hrest⟩ := hpre
    have hcol1 := unhide hcol ((t, er) :: rest) (by rw [← hrest]; simp)
    have hA0 : W1.cell? ⟨A, 0, none⟩ = some (.int .i64 (t.kind : Nat)) := by rw [World.cell?, hAo]; rfl
    have hA1 : W1.cell? ⟨A, 1, none⟩ = some (.string ⟨t.s.toArray⟩) := by rw [World.cell?, hAo]; rfl
    have hA2 : W1.cell? ⟨A, 2, none⟩ = some (.string ⟨#[]⟩) := by rw [World.cell?, hAo]; rfl
    have hA3 : W1.cell? ⟨A, 3, none⟩ = some (.int .i64 t.line) := by rw [World.cell?, hAo]; rfl
    have hA4 : W1.cell? ⟨A, 4, none⟩ = some (.bool t.sp) := by rw [World.cell?, hAo]; rfl
    have hA5 : W1.cell? ⟨A, 5, none⟩ = some (.bool t.fi) := by rw [World.cell?, hAo]; rfl
    have HCO := hide hcol1
    have HRE := hide hrest
    clear hcol1 hrest hcol
    have d0 := c0.cell
    have e0 := c0.frozen
    have d1 := c1.cell
    have e1 := c1.frozen
    have d2 := c2.cell
    have e2 := c2.frozen
    have d3 := c3.cell
    have e3 := c3.frozen
    have hzl : ∃ q cp, v = .slice q pre.length cp := by
      rcases hrow.2 with ⟨rfl, h0⟩ | ⟨g, cp, cur, rfl, _⟩
      · exact ⟨none, 0, by rw [h0]⟩
      · exact ⟨_, _, rfl⟩
    obtain ⟨q, cp, rfl⟩ := hzl
    have finR : ∀ (ee : Int), Hid (R = ([], ee, t.line)) → KeepsFrom W0.heap.size W1 (((W1.setCell ⟨w.heap.size, 0, none⟩ (.slice none 0 0)).setCell ⟨w.heap.size + 1, 0, none⟩ (.int .i64 ee)).setCell ⟨w.heap.size + 1 + 1, 0, none⟩ (.int .i64 t.line)).drew ∧
        KeepsO (W0.heap.size + 2) 1 W1 (((W1.setCell ⟨w.heap.size, 0, none⟩ (.slice none 0 0)).setCell ⟨w.heap.size + 1, 0, none⟩ (.int .i64 ee)).setCell ⟨w.heap.size + 1 + 1, 0, none⟩ (.int .i64 t.line)).drew ∧
        LexX w R .ret (((W1.setCell ⟨w.heap.size, 0, none⟩ (.slice none 0 0)).setCell ⟨w.heap.size + 1, 0, none⟩ (.int .i64 ee)).setCell ⟨w.heap.size + 1 + 1, 0, none⟩ (.int .i64 t.line)).drew := by
      intro ee hee
      refine ⟨?_, ?_, rfl, ee, t.line, ?_, ?_, ?_, ?_, hee⟩
      · exact ((((KeepsOthers.setCell _ _ _).from _).trans ((KeepsOthers.setCell _ _ _).from _)).trans ((KeepsOthers.setCell _ _ _).from _)).trans ((KeepsOthers.drew _).from _)
      · exact (((KeepsO.setCell (.inl (by omega))).trans (KeepsO.setCell (.inl (by omega)))).trans (KeepsO.setCell (.inl (by omega)))).trans (KeepsO.drew _)
      · exact Boxed.setCell (Boxed.setCell (Boxed.set _ c0) (by omega) _) (by omega) _
      · exact Boxed.setCell (Boxed.set _ (Boxed.setCell c1 (by omega) _)) (by omega) _
      · exact Boxed.set _ (Boxed.setCell (Boxed.setCell c2 (by omega) _) (by omega) _)
      · exact (((hbe1.setCell (p := ⟨w.heap.size, 0, none⟩) (Nat.le_refl _) _).setCell (p := ⟨w.heap.size + 1, 0, none⟩) (by show _ ≤ w.heap.size + 1; omega) _).setCell (p := ⟨w.heap.size + 1 + 1, 0, none⟩) (by show _ ≤ w.heap.size + 1 + 1; omega) _).drew
    have FIN := hide finR
    clear finR
    by_cases her : er = 0
    · subst her
      by_cases hfull : pre.length = 20000
      · have i1 : (((pre.length : Nat) : Int) == 20000) = true := by rw [beq_iff_eq]; omega
        have HRR : Hid (R = ([], 22, t.line)) := by
          have := unhide HCO
          rw [Tk.col, if_pos rfl, if_neg (by simp; omega)] at this
          exact this.symm
        gi_wp2
        gi_region
        all_goals
          gi_wp2
          exact unhide FIN 22 HRR
      · have i1 : (((pre.length : Nat) : Int) == 20000) = false := by rw [beq_eq_false_iff_ne]; omega
        have hcolN : Hid (∀ rest', (pre ++ [(t, 0)]) ++ rest' = Tk.ev (asL l) false true → Tk.col ((pre ++ [(t, 0)]).map Prod.fst) rest' = R) := by
          intro rest' h
          have e1 := unhide HRE
          rw [← e1] at h
          have e2 := List.append_cancel_left h
          subst e2
          have := unhide HCO
          rw [Tk.col, if_pos rfl, if_pos (by simp; omega)] at this
          simpa using this
        obtain ⟨i0, hi, hz0, hz1, hz2'⟩ := info_parts Tryz.info115
        have hrowa : (W1.alloc (.cells (tokC t).toArray 115)).ownsRow (w.heap.size + 8) 115 6 (.slice q pre.length cp) pre.length (tokCells (pre.map Prod.fst)) := hrow.alloc _
        have hzW : w.heap.size + 8 ≤ W1.heap.size := by have := (Array.getElem?_eq_some_iff.1 hAo).1; omega
        simp only [tokV, tokC]
        gi_wp2_with (gi_at_builtin; refine wpListIn_append_own _ rfl _ _ 74 rfl (w.heap.size + 8) 115 i0 _ 6 56 Tryz.underlying74 hi hz0 hz1 hz2' rfl (by decide) _ _ _ rfl hrowa ⟨W1.heap.size, 0, none⟩ 1 1 (tokC t) rfl rfl (six_cells W1 t 115) ?c2 ?c3 ?c4 ?c5 ?_)
        case c2 => intro u hu; simp [tokC] at hu; rcases hu with rfl | rfl | rfl | rfl | rfl | rfl <;> rfl
        case c3 => unfold maxLen; omega
        case c4 => omega
        case c5 => omega
        intro v' W5 hown' hgrow _
        obtain ⟨g', cap', rfl⟩ := ownsRow_succ hown'
        have p3 : Boxed W5 (w.heap.size + 3) 74 (.slice q pre.length cp) := Boxed.row (c3.alloc _) hrowa hgrow (by omega)
        have p0 : Boxed W5 w.heap.size 74 (.slice none 0 0) := Boxed.row (c0.alloc _) hrowa hgrow (by omega)
        have p1 : Boxed W5 (w.heap.size + 1) 27 (.int .i64 0) := Boxed.row (c1.alloc _) hrowa hgrow (by omega)
        have p2 : Boxed W5 (w.heap.size + 2) 3 (.int .i64 0) := Boxed.row (c2.alloc _) hrowa hgrow (by omega)
        have pb : Below w.heap.size w W5 := (hbe1.alloc hbe1.size _).grown hgrow (by simp; omega) (fun r e => by have := (row_turn hrowa r e).1; omega)
        have pko : KeepsO (W0.heap.size + 2) 1 W1 W5 := (KeepsO.alloc W1 _).trans (KeepsO.rowG hrowa hgrow (by omega))
        have pkf : KeepsFrom W0.heap.size W1 W5 := ((KeepsOthers.alloc W1 _).from _).trans (KeepsFrom.rowG hrowa hgrow)
        have pk : Below w.heap.size W1 W5 := ((Below.refl _ W1).alloc (by omega) _).grown hgrow (by simp; omega) (fun r e => by have := (row_turn hrowa r e).1; omega)
        have p3c := p3.cell
        have p3f := p3.frozen
        gi_wp2
        refine ⟨pkf.trans ((KeepsOthers.setCell _ _ _).from _), pko.trans (KeepsO.setCell (.inl (by omega))), pk.setCell (p := ⟨w.heap.size + 1 + 1 + 1, 0, none⟩) (by show _ ≤ w.heap.size + 1 + 1 + 1; omega) _, ⟨_, Boxed.set _ p3, ?_⟩, Boxed.setCell p0 (by omega) _, Boxed.setCell p1 (by omega) _, Boxed.setCell p2 (by omega) _, pb.setCell (p := ⟨w.heap.size + 1 + 1 + 1, 0, none⟩) (by show _ ≤ w.heap.size + 1 + 1 + 1; omega) _, by simp; omega, hcolN⟩
        have := ownsRow_setCell (b := w.heap.size + 1 + 1 + 1) (i := 0) hown' (by omega) (.slice (some ⟨g', 0, none⟩) (pre.length + 1) cap')
        rw [List.map_append, List.map_cons, List.map_nil, tokCells_snoc]
        simpa using this
    · have i1 : ((er : Int) == 0) = false := by rw [beq_eq_false_iff_ne]; exact her
      have i2 : ((er : Int) != 0) = true := by rw [bne_iff_ne]; exact her
      have HRR : Hid (R = ([], er, t.line)) := by
        have := unhide HCO
        rw [Tk.col, if_neg her] at this
        exact this.symm
      gi_wp2
      gi_region
      all_goals
        gi_wp2
        exact unhide FIN er HRR
  case done =>
    rintro D W' hD ⟨⟨v, c3, hrow⟩, c0, c1, c2, hbe1, hlen, hcol⟩ hK
    have hRR := hide (unhide hcol [] (by simp))
    have d0 := c0.cell
    have e0 := c0.frozen
    have d1 := c1.cell
    have e1 := c1.frozen
    have d2 := c2.cell
    have e2 := c2.frozen
    have d3 := c3.cell
    have hzl : ∃ q cp n, v = .slice q n cp := by
      rcases hrow.2 with ⟨rfl, h0⟩ | ⟨g, cp, cur, rfl, _⟩
      · exact ⟨none, 0, 0, rfl⟩
      · exact ⟨_, _, _, rfl⟩
    obtain ⟨q, cp, nn, rfl⟩ := hzl
    have hKlt := (Array.getElem?_eq_some_iff.1 hK).1
    gi_wp2
    have q0 : Boxed (((W'.setCell ⟨w.heap.size, 0, none⟩ (.slice q nn cp)).setCell ⟨w.heap.size + 1, 0, none⟩ (.int .i64 0)).setCell ⟨w.heap.size + 1 + 1, 0, none⟩ (.int .i64 0)) w.heap.size 74 (.slice q nn cp) := Boxed.setCell (Boxed.setCell (Boxed.set _ c0) (by omega) _) (by omega) _
    have q1 : Boxed (((W'.setCell ⟨w.heap.size, 0, none⟩ (.slice q nn cp)).setCell ⟨w.heap.size + 1, 0, none⟩ (.int .i64 0)).setCell ⟨w.heap.size + 1 + 1, 0, none⟩ (.int .i64 0)) (w.heap.size + 1) 27 (.int .i64 0) := Boxed.setCell (Boxed.set _ (Boxed.setCell c1 (by omega) _)) (by omega) _
    have q2 : Boxed (((W'.setCell ⟨w.heap.size, 0, none⟩ (.slice q nn cp)).setCell ⟨w.heap.size + 1, 0, none⟩ (.int .i64 0)).setCell ⟨w.heap.size + 1 + 1, 0, none⟩ (.int .i64 0)) (w.heap.size + 2) 3 (.int .i64 0) := Boxed.set _ (Boxed.setCell (Boxed.setCell c2 (by omega) _) (by omega) _)
    have qr : (((W'.setCell ⟨w.heap.size, 0, none⟩ (.slice q nn cp)).setCell ⟨w.heap.size + 1, 0, none⟩ (.int .i64 0)).setCell ⟨w.heap.size + 1 + 1, 0, none⟩ (.int .i64 0)).ownsRow (w.heap.size + 8) 115 6 (.slice q nn cp) _ _ := ownsRow_setCell (ownsRow_setCell (ownsRow_setCell hrow (by omega) _) (by omega) _) (by omega) _
    have qb : Below w.heap.size w (((W'.setCell ⟨w.heap.size, 0, none⟩ (.slice q nn cp)).setCell ⟨w.heap.size + 1, 0, none⟩ (.int .i64 0)).setCell ⟨w.heap.size + 1 + 1, 0, none⟩ (.int .i64 0)) :=
      ((hbe1.setCell (p := ⟨w.heap.size, 0, none⟩) (Nat.le_refl _) _).setCell (p := ⟨w.heap.size + 1, 0, none⟩) (by show _ ≤ w.heap.size + 1; omega) _).setCell (p := ⟨w.heap.size + 1 + 1, 0, none⟩) (by show _ ≤ w.heap.size + 1 + 1; omega) _
    have qK : (((W'.setCell ⟨w.heap.size, 0, none⟩ (.slice q nn cp)).setCell ⟨w.heap.size + 1, 0, none⟩ (.int .i64 0)).setCell ⟨w.heap.size + 1 + 1, 0, none⟩ (.int .i64 0)).heap[D]? = some (.deferred (some [])) :=
      (Below.heap_setCell _ _ _ _ (by show D ≠ w.heap.size + 1 + 1; omega)).trans ((Below.heap_setCell _ _ _ _ (by show D ≠ w.heap.size + 1; omega)).trans ((Below.heap_setCell _ _ _ _ (by show D ≠ w.heap.size; omega)).trans hK))
    generalize (((W'.setCell ⟨w.heap.size, 0, none⟩ (.slice q nn cp)).setCell ⟨w.heap.size + 1, 0, none⟩ (.int .i64 0)).setCell ⟨w.heap.size + 1 + 1, 0, none⟩ (.int .i64 0)) = W6 at *
    refine ⟨by simp, .inl ⟨_, _, rfl, run_takeDeferred qK, ?_⟩⟩
    have hother : ∀ j, j ≠ D → (W6.putObj D (.deferred none)).heap[j]? = W6.heap[j]? := fun j hj => World.putObj_heap_other (by omega)
    have r0 : Boxed (W6.putObj D (.deferred none)) w.heap.size 74 (.slice q nn cp) := (hother _ (by omega)).trans q0
    have r1 : Boxed (W6.putObj D (.deferred none)) (w.heap.size + 1) 27 (.int .i64 0) := (hother _ (by omega)).trans q1
    have r2 : Boxed (W6.putObj D (.deferred none)) (w.heap.size + 2) 3 (.int .i64 0) := (hother _ (by omega)).trans q2
    rw [← unhide hRR, Tk.col]
    refine ⟨_, res13 rfl rfl rfl r0.cell r1.cell r2.cell, .slice q nn cp, rfl, ?_, ?_⟩
    · have := ownsRow_base (ownsRow_putObj qr (.deferred none) qK rfl) (by omega : w.heap.size ≤ w.heap.size + 8)
      simpa using this
    · exact qb.grown (grownBy_putObj' W6 D _) qb.size (fun r e => by cases e; omega)
  case stop =>
    rintro D c pre W' hD _ ⟨rfl, e, n, c0, c1, c2, hbe1, hR⟩ hK
    gi_wp2
    refine ⟨by simp, .inl ⟨_, _, rfl, run_takeDeferred hK, ?_⟩⟩
    have hother : ∀ j, j ≠ D → (W'.putObj D (.deferred none)).heap[j]? = W'.heap[j]? := fun j hj => World.putObj_heap_other (by omega)
    have r0 : Boxed (W'.putObj D (.deferred none)) w.heap.size 74 (.slice none 0 0) := (hother _ (by omega)).trans c0
    have r1 : Boxed (W'.putObj D (.deferred none)) (w.heap.size + 1) 27 (.int .i64 e) := (hother _ (by omega)).trans c1
    have r2 : Boxed (W'.putObj D (.deferred none)) (w.heap.size + 2) 3 (.int .i64 n) := (hother _ (by omega)).trans c2
    rw [unhide hR]
    refine ⟨_, res13 rfl rfl rfl r0.cell r1.cell r2.cell, .slice none 0 0, rfl, World.ownsRow_nil _ _ _ _, ?_⟩
    exact hbe1.grown (grownBy_putObj' W' D _) hbe1.size (fun r e => by cases e; omega)
end Go.Proofs.YtmpkgjonbjpohaaGreatDoor
namespace Go.Proofs.YtmpkgjonbjpohaaGreatDoor
open Go Go.RowKit
set_option linter.unusedVariables false
set_option linter.unusedSimpArgs false

/-- A slice value that reads as these tokens, in a block from 'base' on. -/
def TkS (base : Nat) (W : World) (v : Value) (l : List Tk.T) : Prop :=
  ∃ p cap, v = .slice p l.length cap ∧ ∀ (i : Nat) (h : i < l.length), ∃ g, p = some ⟨g, 0, none⟩ ∧ base ≤ g ∧ g < W.heap.size ∧
    W.cell? ⟨g, i * 6, none⟩ = some (.int .i64 (l[i].kind : Nat)) ∧ W.cell? ⟨g, i * 6 + 1, none⟩ = some (.string ⟨l[i].s.toArray⟩) ∧ W.cell? ⟨g, i * 6 + 2, none⟩ = some (.string ⟨#[]⟩) ∧
    W.cell? ⟨g, i * 6 + 3, none⟩ = some (.int .i64 l[i].line) ∧ W.cell? ⟨g, i * 6 + 4, none⟩ = some (.bool l[i].sp) ∧ W.cell? ⟨g, i * 6 + 5, none⟩ = some (.bool l[i].fi)
theorem tokCells_at : ∀ (l : List Tk.T) (i : Nat) (h : i < l.length) (j : Nat), j < 6 → (tokCells l)[i * 6 + j]? = (tokC l[i])[j]?
  | [], i, h, _, _ => by simp at h
  | x :: r, 0, h, j, hj => by
    show (tokC x ++ tokCells r)[0 * 6 + j]? = (tokC x)[j]?
    rw [Nat.zero_mul, Nat.zero_add]
    exact List.getElem?_append_left hj
  | x :: r, i + 1, h, j, hj => by
    have hi : i < r.length := by simpa using h
    have := tokCells_at r i hi j hj
    show (tokC x ++ tokCells r)[(i + 1) * 6 + j]? = (tokC r[i])[j]?
    rw [← this, show (i + 1) * 6 + j = (tokC x).length + (i * 6 + j) by simp [tokC]; omega, List.getElem?_append_right (by omega)]
    congr 1
    omega
theorem add_row' (g j : Nat) : (⟨g, 0, none⟩ : Addr).add j = ⟨g, j, none⟩ := by unfold Addr.add; split <;> simp_all
theorem TkS.of {W : World} {base n : Nat} {v : Value} {L : List Tk.T} (h : W.ownsRow base 115 6 v n (tokCells L)) (hn : n = L.length) : TkS base W v L := by
  subst hn
  have hc : ∀ {g : Nat}, v.ownBlock = some g → ∀ j u, (tokCells L)[j]? = some u → W.cell? ((⟨g, 0, none⟩ : Addr).add j) = some u := fun hg => h.cells hg
  have hlt := h.lt
  rcases h.2 with ⟨rfl, h0⟩ | ⟨g, cap, cur, rfl, hbg, _⟩
  · exact ⟨none, 0, by rw [h0], fun i hi => by omega⟩
  · refine ⟨some ⟨g, 0, none⟩, cap, rfl, fun i hi => ⟨g, rfl, hbg, (hlt g rfl).2, ?_⟩⟩
    have key : ∀ j u, j < 6 → (tokC L[i])[j]? = some u → W.cell? ⟨g, i * 6 + j, none⟩ = some u := fun j u hj hu => by
      have := hc (g := g) rfl (i * 6 + j) u (by rw [tokCells_at L i hi j hj]; exact hu)
      rw [add_row'] at this; exact this
    exact ⟨key 0 _ (by decide) rfl, key 1 _ (by decide) rfl, key 2 _ (by decide) rfl, key 3 _ (by decide) rfl, key 4 _ (by decide) rfl, key 5 _ (by decide) rfl⟩
theorem TkS.below {W W' : World} {B base : Nat} {v : Value} {L : List Tk.T} (h : TkS base W v L) (hb : Below B W W') (hB : W.heap.size ≤ B) : TkS base W' v L := by
  obtain ⟨p, cap, rfl, hc⟩ := h
  refine ⟨p, cap, rfl, fun i hi => ?_⟩
  obtain ⟨g, rfl, h1, h2, c0, c1, c2, c3, c4, c5⟩ := hc i hi
  have key : ∀ j u, W.cell? ⟨g, j, none⟩ = some u → W'.cell? ⟨g, j, none⟩ = some u := fun j u hu => (hb.cell (p := ⟨g, j, none⟩) (by show g < B; omega)).trans hu
  exact ⟨g, rfl, h1, Nat.lt_of_lt_of_le h2 hb.size, key _ _ c0, key _ _ c1, key _ _ c2, key _ _ c3, key _ _ c4, key _ _ c5⟩

def lex1 (s : ByteArray) : List Tk.T × Int × Int := Tk.lex [(1, s.data.toList)]
theorem Lex_one (s : ByteArray) (w : World) (hs : s.size ≤ 140737488355328) (hw0 : 10 < w.heap.size) (hsg : Sg w) :
    Calls Tryz.prog 36 #[.slice (some ⟨w.heap.size, 0, none⟩) 1 1] (w.alloc (.cells #[.int .i64 1, .string s] 78)) fun e w' => ∃ v', e = .returned (.tuple #[v', .int .i64 (lex1 s).2.1, .int .i64 (lex1 s).2.2]) ∧
      TkS (w.heap.size + 1) w' v' (lex1 s).1 ∧ Below (w.heap.size + 1) (w.alloc (.cells #[.int .i64 1, .string s] 78)) w' := by
  have hz : (w.alloc (.cells #[.int .i64 1, .string s] 78)).heap.size = w.heap.size + 1 := by simp
  have hnew : (w.alloc (.cells #[.int .i64 1, .string s] 78)).heap[w.heap.size]? = some (.cells #[.int .i64 1, .string s] 78 (0, 0)) := World.alloc_heap_new w _
  have hl : LnB (w.alloc (.cells #[.int .i64 1, .string s] 78)).heap.size (w.alloc (.cells #[.int .i64 1, .string s] 78)) (.slice (some ⟨w.heap.size, 0, none⟩) 1 1) [(1, s)] := by
    refine ⟨some ⟨w.heap.size, 0, none⟩, 1, rfl, fun i hi => ⟨w.heap.size, 0, rfl, by omega, ?_, ?_⟩⟩
    · obtain rfl : i = 0 := by simpa using hi
      rw [World.cell?, hnew]; rfl
    · obtain rfl : i = 0 := by simpa using hi
      rw [World.cell?, hnew]; rfl
  have hsg' : Sg (w.alloc (.cells #[.int .i64 1, .string s] 78)) := Sg.below hsg ((Below.refl _ w).alloc (Nat.le_refl _) _) hw0
  have hf : Fits [(1, s)] := ⟨by simp, fun x hx => by simp at hx; subst hx; exact hs⟩
  refine (Lex_any _ _ _ hf (by omega) hl hsg').mono ?_
  rintro e w' ⟨v', rfl, hrow, hb⟩
  rw [hz] at hrow hb
  exact ⟨v', rfl, TkS.of hrow rfl, hb⟩

end Go.Proofs.YtmpkgjonbjpohaaGreatDoor
namespace Go.Proofs.YtmpkgjonbjpohaaGreatDoor
open Go Go.RowKit
set_option linter.unusedVariables false
set_option linter.unusedSimpArgs false

/-- A token of whatever fields. -/
structure Gt where
  kind : Int
  s : List UInt8
  f : List UInt8
  line : Int
  sp : Bool
  fi : Bool
  deriving DecidableEq
def Tk.T.g (t : Tk.T) : Gt := ⟨(t.kind : Nat), t.s, [], t.line, t.sp, t.fi⟩
/-- A slice value that reads as these tokens, in a block below B. -/
def TkG (B : Nat) (W : World) (v : Value) (l : List Gt) : Prop :=
  ∃ p cap, v = .slice p l.length cap ∧ ∀ (i : Nat) (h : i < l.length), ∃ g o, p = some ⟨g, o, none⟩ ∧ g < B ∧
    W.cell? ⟨g, o + i * 6, none⟩ = some (.int .i64 l[i].kind) ∧ W.cell? ⟨g, o + i * 6 + 1, none⟩ = some (.string ⟨l[i].s.toArray⟩) ∧ W.cell? ⟨g, o + i * 6 + 2, none⟩ = some (.string ⟨l[i].f.toArray⟩) ∧
    W.cell? ⟨g, o + i * 6 + 3, none⟩ = some (.int .i64 l[i].line) ∧ W.cell? ⟨g, o + i * 6 + 4, none⟩ = some (.bool l[i].sp) ∧ W.cell? ⟨g, o + i * 6 + 5, none⟩ = some (.bool l[i].fi)
theorem TkG.below {B : Nat} {W W' : World} {v : Value} {l : List Gt} (h : TkG B W v l) (hb : Below B W W') : TkG B W' v l := by
  obtain ⟨p, cap, rfl, hc⟩ := h
  refine ⟨p, cap, rfl, fun i hi => ?_⟩
  obtain ⟨g, o, rfl, h1, c0, c1, c2, c3, c4, c5⟩ := hc i hi
  have key : ∀ j u, W.cell? ⟨g, j, none⟩ = some u → W'.cell? ⟨g, j, none⟩ = some u := fun j u hu => (hb.cell (p := ⟨g, j, none⟩) h1).trans hu
  exact ⟨g, o, rfl, h1, key _ _ c0, key _ _ c1, key _ _ c2, key _ _ c3, key _ _ c4, key _ _ c5⟩
theorem TkG.mono {B B' : Nat} {W : World} {v : Value} {l : List Gt} (h : TkG B W v l) (hb : B ≤ B') : TkG B' W v l := by
  obtain ⟨p, cap, rfl, hc⟩ := h
  refine ⟨p, cap, rfl, fun i hi => ?_⟩
  obtain ⟨g, o, rfl, h1, hr⟩ := hc i hi
  exact ⟨g, o, rfl, by omega, hr⟩
theorem TkS.toG {base : Nat} {W : World} {v : Value} {l : List Tk.T} (h : TkS base W v l) : TkG W.heap.size W v (l.map Tk.T.g) := by
  obtain ⟨p, cap, rfl, hc⟩ := h
  refine ⟨p, cap, by simp, fun i hi => ?_⟩
  have hi' : i < l.length := by simpa using hi
  obtain ⟨g, rfl, h1, h2, c0, c1, c2, c3, c4, c5⟩ := hc i hi'
  refine ⟨g, 0, rfl, h2, ?_⟩
  simp only [List.getElem_map, Nat.zero_add, Tk.T.g]
  exact ⟨c0, c1, c2, c3, c4, c5⟩

end Go.Proofs.YtmpkgjonbjpohaaGreatDoor
