/-
  The reader of lines: where it stands, what its methods may do to the world, and token's skipComment.
  token's reader.skipComment: it goes on behind the end of the comment that begins here, and tells whether it ends.
  token's reader.skipBlanks: it goes on to the next token, or to the end.
-/
import Derived.Test.YtmpkgjonbjpohaaGreatDoorPa
import Derived.Test.YtmpkgjonbjpohaaGreatDoorNa
import Derived.Deep.LoopGhost
import Derived.BigRegion
namespace Go.Proofs.YtmpkgjonbjpohaaGreatDoor
open Go Go.RowKit
set_option linter.unusedVariables false
set_option linter.unusedSimpArgs false

/-- What is got to by turns of block b, new blocks and draws. -/
def Reach (b : Nat) (w w' : World) : Prop := ∀ J : World → Prop, (∀ A B, J A → A.grownBy B (some b) → J B) → (∀ A, J A → J A.drew) → J w → J w'
theorem Reach.refl (b : Nat) (w : World) : Reach b w w := fun _ _ _ h => h
theorem Reach.trans {b : Nat} {x y z : World} (h : Reach b x y) (g : Reach b y z) : Reach b x z := fun J h1 h2 h3 => g J h1 h2 (h J h1 h2 h3)
theorem Reach.grown {b : Nat} {w w' : World} (h : w.grownBy w' (some b)) : Reach b w w' := fun J h1 _ h3 => h1 _ _ h3 h
theorem Reach.alloc {b : Nat} (w : World) (o : Obj) : Reach b w (w.alloc o) := .grown (World.grownBy_alloc w o (some b))
theorem Reach.drew {b : Nat} (w : World) : Reach b w w.drew := fun J _ h2 h3 => h2 _ h3
theorem Reach.drewN {b : Nat} (w : World) : ∀ n, Reach b w (w.drewN n)
  | 0 => Reach.refl b w
  | n + 1 => (Reach.drewN w n).trans (Reach.drew (w.drewN n))
theorem grown_set (w : World) (b i : Nat) (v : Value) : w.grownBy (w.setCell ⟨b, i, none⟩ v) (some b) :=
  ⟨rfl, rfl, rfl, (KeepsWalks.setCell w _ v).size, fun k _ hk => Below.heap_setCell _ _ _ k (fun e => hk (by simp at e; rw [e]))⟩
theorem Reach.set {b i : Nat} (w : World) (v : Value) : Reach b w (w.setCell ⟨b, i, none⟩ v) := .grown (grown_set w b i v)
theorem Reach.size {b : Nat} {w w' : World} (h : Reach b w w') : w.heap.size ≤ w'.heap.size :=
  h (fun X => w.heap.size ≤ X.heap.size) (fun _ _ hA hg => Nat.le_trans hA hg.size) (fun _ h => h) (Nat.le_refl _)
theorem Reach.block {b j : Nat} {w w' : World} (h : Reach b w w') (hj : j ≠ b) (hlt : j < w.heap.size) : w'.heap[j]? = w.heap[j]? :=
  (h (fun X => w.heap.size ≤ X.heap.size ∧ X.heap[j]? = w.heap[j]?) (fun _ _ hA hg => ⟨Nat.le_trans hA.1 hg.size, (hg.block j (by omega) (fun e => hj (Option.some.inj e))).trans hA.2⟩) (fun _ h => h) ⟨Nat.le_refl _, rfl⟩).2
theorem Reach.cell {b : Nat} {w w' : World} (h : Reach b w w') {p : Addr} {v : Value} (hp : w.cell? p = some v) (hb : p.block ≠ b) (hlt : p.block < w.heap.size) : w'.cell? p = some v := by
  have := h.block hb hlt
  rw [World.cell?] at hp ⊢
  rw [this]; exact hp
/-- A reader in block b: its lines, its row, its place there, what has come since the last token. -/
def Rd (w : World) (b : Nat) (v : Value) (row at_ : Nat) (sp fi : Bool) : Prop := w.heap[b]? = some (.cells #[v, .int .i64 row, .int .i64 at_, .bool sp, .bool fi] 137 (0, 0))
/-- A slice value that reads as these lines, in a block that is not b. -/
def LnA (b : Nat) (w : World) (v : Value) (l : List (Int × ByteArray)) : Prop :=
  ∃ p cap, v = .slice p l.length cap ∧ ∀ (i : Nat) (h : i < l.length), ∃ g o, p = some ⟨g, o, none⟩ ∧ g ≠ b ∧ g < w.heap.size ∧ w.cell? ⟨g, o + i * 2, none⟩ = some (.int .i64 l[i].1) ∧ w.cell? ⟨g, o + i * 2 + 1, none⟩ = some (.string l[i].2)
theorem LnA.reach {b : Nat} {w w' : World} {v : Value} {l : List (Int × ByteArray)} (h : LnA b w v l) (hr : Reach b w w') : LnA b w' v l := by
  obtain ⟨p, cap, rfl, hc⟩ := h
  refine ⟨p, cap, rfl, fun i hi => ?_⟩
  obtain ⟨g, o, rfl, hg, hlt, c0, c1⟩ := hc i hi
  exact ⟨g, o, rfl, hg, Nat.lt_of_lt_of_le hlt hr.size, hr.cell c0 hg hlt, hr.cell c1 hg hlt⟩
/-- The lines from where the reader stands on. -/
def asL (l : List (Int × ByteArray)) : List Tk.Ln := l.map fun x => (x.1, x.2.data.toList)
def st (l : List (Int × ByteArray)) (row at_ : Nat) : List Tk.Ln := match l.drop row with
  | [] => []
  | x :: r => (x.1, x.2.data.toList.drop at_) :: asL r
theorem st_zero (l : List (Int × ByteArray)) (row : Nat) : st l row 0 = asL (l.drop row) := by
  unfold st
  split
  · rename_i h; rw [h]; rfl
  · rename_i h; rw [h]; rfl
theorem st_at {l : List (Int × ByteArray)} {row : Nat} (h : row < l.length) (at_ : Nat) : st l row at_ = (l[row].1, l[row].2.data.toList.drop at_) :: st l (row + 1) 0 := by
  rw [st_zero]
  unfold st
  rw [List.drop_eq_getElem_cons h]
theorem st_end {l : List (Int × ByteArray)} {row : Nat} (h : l.length ≤ row) (at_ : Nat) : st l row at_ = [] := by
  unfold st
  rw [List.drop_eq_nil_of_le h]
theorem Rd.cells {w : World} {b : Nat} {v : Value} {row at_ : Nat} {sp fi : Bool} (h : Rd w b v row at_ sp fi) :
    w.cell? ⟨b, 0, none⟩ = some v ∧ w.cell? ⟨b, 1, none⟩ = some (.int .i64 row) ∧ w.cell? ⟨b, 2, none⟩ = some (.int .i64 at_) ∧ w.cell? ⟨b, 3, none⟩ = some (.bool sp) ∧ w.cell? ⟨b, 4, none⟩ = some (.bool fi) := by
  refine ⟨?_, ?_, ?_, ?_, ?_⟩ <;> (rw [World.cell?, h]; rfl)
theorem Rd.frozen {w : World} {b : Nat} {v : Value} {row at_ : Nat} {sp fi : Bool} (h : Rd w b v row at_ sp fi) (i : Nat) : w.frozen? ⟨b, i, none⟩ = false := by
  simp [World.frozen?, show w.heap[b]? = _ from h]
theorem Rd.set1 {w : World} {b : Nat} {v : Value} {row at_ : Nat} {sp fi : Bool} (h : Rd w b v row at_ sp fi) (k : Nat) : Rd (w.setCell ⟨b, 1, none⟩ (.int .i64 k)) b v k at_ sp fi := by
  unfold Rd at *; simp [World.setCell, Array.getElem?_modify, h]
theorem Rd.set2 {w : World} {b : Nat} {v : Value} {row at_ : Nat} {sp fi : Bool} (h : Rd w b v row at_ sp fi) (k : Nat) : Rd (w.setCell ⟨b, 2, none⟩ (.int .i64 k)) b v row k sp fi := by
  unfold Rd at *; simp [World.setCell, Array.getElem?_modify, h]
theorem Rd.set3 {w : World} {b : Nat} {v : Value} {row at_ : Nat} {sp fi : Bool} (h : Rd w b v row at_ sp fi) (k : Bool) : Rd (w.setCell ⟨b, 3, none⟩ (.bool k)) b v row at_ k fi := by
  unfold Rd at *; simp [World.setCell, Array.getElem?_modify, h]
theorem Rd.set4 {w : World} {b : Nat} {v : Value} {row at_ : Nat} {sp fi : Bool} (h : Rd w b v row at_ sp fi) (k : Bool) : Rd (w.setCell ⟨b, 4, none⟩ (.bool k)) b v row at_ sp k := by
  unfold Rd at *; simp [World.setCell, Array.getElem?_modify, h]
theorem Rd.drewN {w : World} {b : Nat} {v : Value} {row at_ : Nat} {sp fi : Bool} (h : Rd w b v row at_ sp fi) (n : Nat) : Rd (w.drewN n) b v row at_ sp fi := h
theorem Rd.alloc {w : World} {b : Nat} {v : Value} {row at_ : Nat} {sp fi : Bool} (h : Rd w b v row at_ sp fi) (o : Obj) : Rd (w.alloc o) b v row at_ sp fi :=
  (Below.heap_alloc w o b (Array.getElem?_eq_some_iff.1 h).1).trans h
end Go.Proofs.YtmpkgjonbjpohaaGreatDoor
namespace Go.Proofs.YtmpkgjonbjpohaaGreatDoor
open Go Go.RowKit
set_option linter.unusedVariables false
set_option linter.unusedSimpArgs false

def Fits (l : List (Int × ByteArray)) : Prop := l.length ≤ 140737488355328 ∧ ∀ x ∈ l, x.2.size ≤ 140737488355328
/-- Where the reader stands is there. -/
def Ok (l : List (Int × ByteArray)) (row at_ : Nat) : Prop := row ≤ l.length ∧ ∀ h : row < l.length, at_ ≤ l[row].2.size

set_option maxRecDepth 100000 in
set_option maxHeartbeats 4000000 in
theorem skipComment_any (b : Nat) (v : Value) (l : List (Int × ByteArray)) (row at_ : Nat) (sp fi : Bool) (w : World) (hf : Fits l) (hl : LnA b w v l)
    (hr : Rd w b v row at_ sp fi) (hrow : row < l.length) (hat : at_ + 2 ≤ l[row].2.size) :
    Calls Tryz.prog 127 #[.pointer (some ⟨b, 0, none⟩)] w fun e w' => ∃ (ok : Bool) (row' at' : Nat), e = .returned (.bool ok) ∧ Rd w' b v row' at' sp fi ∧ Reach b w w' ∧
      Hid (bif ok then row' < l.length ∧ Ok l row' at' ∧ Tk.cl (st l row (at_ + 2)) = some (st l row' at') else Tk.cl (st l row (at_ + 2)) = none) := by
  obtain ⟨hf1, hf2⟩ := hf
  have HF := hide hf2
  have HL := hide hl
  obtain ⟨p, cap, rfl, hc⟩ := hl
  clear hf2 hc
  have hsz := unhide HF _ (List.getElem_mem hrow)
  obtain ⟨c0, c1, c2, c3, c4⟩ := hr.cells
  have f1 := hr.frozen 1
  have f2 := hr.frozen 2
  have HR := hide hr
  clear hr
  generalize hC : Tk.cl (st l row (at_ + 2)) = C
  have HC := hide hC
  clear hC
  go_enter Tryz.func127, Tryz.ntmps127
  go_wp2
  go_step3
  go_wp2
  go_step3
  go_wp2
  have hR2 : Rd (w.setCell ⟨b, 2, none⟩ (.int .i64 ((at_ : Int) + 2))) b (.slice p l.length cap) row (at_ + 2) sp fi := Rd.set2 (unhide HR) (at_ + 2)
  have hRe : Reach b w (w.setCell ⟨b, 2, none⟩ (.int .i64 ((at_ : Int) + 2))) := Reach.set w _
  generalize (w.setCell ⟨b, 2, none⟩ (.int .i64 ((at_ : Int) + 2))) = w1 at *
  clear c0 c1 c2 c3 c4 f1 f2 HR
  go_loopg [] (l.length - row) (fun gk wr => ∃ row1 at1 : Nat, gk = l.length - row1 ∧ Ok l row1 at1 ∧ Rd wr b (.slice p l.length cap) row1 at1 sp fi ∧ Reach b w wr ∧ Hid (Tk.cl (st l row1 at1) = C))
  case atStart => exact ⟨row, at_ + 2, rfl, ⟨by omega, fun _ => hat⟩, hR2, hRe, HC⟩
  case round =>
    obtain ⟨row1, at1, rfl, hok, hrd, hre, hcl⟩ := hrel
    clear hR2 hRe
    obtain ⟨c0, c1, c2, c3, c4⟩ := hrd.cells
    by_cases hlt : row1 < l.length
    · have i1 : (row1 : Int) < (l.length : Int) := by omega
      obtain ⟨p', cap', hp', hcs⟩ := LnA.reach (unhide HL) hre
      obtain ⟨g, o, rfl, hg, hgl, k0, k1⟩ := hcs row1 hlt
      obtain ⟨rfl, rfl⟩ : p = some ⟨g, o, none⟩ ∧ cap = cap' := by simpa using hp'
      have hS : l[row1].2.size ≤ 140737488355328 := unhide HF _ (List.getElem_mem hlt)
      have hat1 := hok.2 hlt
      have hst := fun k => st_at (l := l) hlt k
      generalize hSe : l[row1].2 = S at *
      have HST := hide hst
      have HSE := hide hSe
      clear hst hSe hcs hp'
      go_upto_region 2 with fail
      go_quiet (fail)
      revert nq; intro n1
      go_upto_region 4 with fail
      go_quiet (fail)
      go_wp2
      have hrd2 : Rd ((wr.drewN n1).drewN nq) b (.slice (some ⟨g, o, none⟩) l.length cap) row1 at1 sp fi := hrd
      have hre2 : Reach b w ((wr.drewN n1).drewN nq) := (hre.trans (Reach.drewN _ _)).trans (Reach.drewN _ _)
      generalize ((wr.drewN n1).drewN nq) = w2 at *
      clear c0 c1 c2 c3 c4 k0 k1 hrd hre
      go_loopg [] (S.size - at1) (fun gk wi => ∃ at2 : Nat, gk = S.size - at2 ∧ at2 ≤ S.size ∧ Rd wi b (.slice (some ⟨g, o, none⟩) l.length cap) row1 at2 sp fi ∧ Reach b w wi ∧ Hid (Tk.cl (st l row1 at2) = C))
      case atStart => exact ⟨at1, rfl, hat1, hrd2, hre2, hcl⟩
      case round =>
        obtain ⟨at2, rfl, ha2, hrd3, hre3, hcl3⟩ := hrel
        clear hrd2 hre2
        obtain ⟨c0, c1, c2, c3, c4⟩ := hrd3.cells
        have f1 := hrd3.frozen 1
        have f2 := hrd3.frozen 2
        by_cases hl2 : at2 < S.size
        · have i2 : (at2 : Int) < (S.size : Int) := by omega
          have i3 : (at2 : Int) ≤ (S.size : Int) := by omega
          have hp := hasPre2 S at2 42 47 wr hS
          have hcl4 := unhide hcl3
          rw [unhide HST, drop_at S at2 hl2] at hcl4
          rw [drop_at S at2 hl2] at hp
          cases hc : Tk.pre [42, 47] (S[at2] :: S.data.toList.drop (at2 + 1))
          · rw [hc] at hp
            have HP := hide hp
            have hn : Hid (Tk.cl (st l row1 (at2 + 1)) = C) := by
              rw [Hid, unhide HST]
              rw [Tk.cl, Tk.fc, hc] at hcl4
              exact hcl4
            clear hp hc hcl4
            go_wp2_with (go_at_call 126; refine (unhide HP).mono ?_; rintro e w' ⟨rfl, rfl⟩)
            go_roundg (S.size - (at2 + 1))
            case measure => omega
            case rel => exact ⟨at2 + 1, rfl, by omega, Rd.set2 hrd3 (at2 + 1), hre3.trans (Reach.set _ _), hn⟩
          · rw [hc] at hp
            have HP := hide hp
            have hlen2 : at2 + 2 ≤ S.size := by
              have := ((Tk.pre_iff _ _).1 hc).length_le
              rw [← drop_at S at2 hl2] at this
              simp at this
              have e : S.data.size = S.size := rfl
              omega
            have hn : Hid (C = some (st l row1 (at2 + 2))) := by
              rw [Hid, unhide HST, ← hcl4, Tk.cl, Tk.fc, hc]
              simp [List.drop_drop]
            clear hp hc hcl4
            go_wp2_with (go_at_call 126; refine (unhide HP).mono ?_; rintro e w' ⟨rfl, rfl⟩)
            have hrd4 := Rd.set2 hrd3 (at2 + 2)
            have hre4 : Reach b w (w'.setCell ⟨b, 2, none⟩ (.int .i64 ((at2 : Int) + 2))) := hre3.trans (Reach.set _ _)
            rw [show (((at2 + 2 : Nat) : Int)) = (at2 : Int) + 2 from rfl] at hrd4
            generalize (w'.setCell ⟨b, 2, none⟩ (.int .i64 ((at2 : Int) + 2))) = w5 at *
            clear c0 c1 c2 c3 c4 f1 f2
            obtain ⟨c0, c1, c2, c3, c4⟩ := hrd4.cells
            go_quiet (fail)
            go_wp2
            try rw [Exit.noGoto_ret]
            go_ret
            exact ⟨true, row1, at2 + 2, rfl, hrd4, hre4.trans (Reach.drewN _ _), hlt, ⟨by omega, fun _ => by rw [unhide HSE]; exact hlen2⟩, unhide hn⟩
        · have hae : at2 = S.size := by omega
          have i2 : ¬ (at2 : Int) < (S.size : Int) := by omega
          have hn : Hid (Tk.cl (st l (row1 + 1) 0) = C) := by
            have := unhide hcl3
            rw [unhide HST, drop_end S at2 (by omega)] at this
            exact this
          go_wp2
          go_roundg (l.length - (row1 + 1))
          case measure => omega
          case rel => exact ⟨row1 + 1, 0, rfl, ⟨by omega, fun _ => Nat.zero_le _⟩, Rd.set2 (Rd.set1 hrd3 (row1 + 1)) 0, (hre3.trans (Reach.set _ _)).trans (Reach.set _ _), hn⟩
    · have i1 : ¬ (row1 : Int) < (l.length : Int) := by omega
      have hn : Hid (C = none) := by
        have := unhide hcl
        rw [st_end (by omega)] at this
        exact this.symm
      go_upto_region 2 with fail
      go_quiet (fail)
      revert nq; intro n1
      go_upto_region 9 with fail
      go_quiet (fail)
      go_wp2
      try rw [Exit.noGoto_ret]
      go_ret
      exact ⟨false, row1, at1, rfl, hrd, hre.trans (Reach.drewN _ _), hn⟩
end Go.Proofs.YtmpkgjonbjpohaaGreatDoor
namespace Go.Proofs.YtmpkgjonbjpohaaGreatDoor
open Go Go.RowKit
set_option linter.unusedVariables false
set_option linter.unusedSimpArgs false

/-- What skipBlanks leaves. -/
def SkB (b : Nat) (v : Value) (l : List (Int × ByteArray)) (E : List (Tk.T × Int)) (w : World) (e : Ending) (w' : World) : Prop :=
  Reach b w w' ∧ ∃ (row' at' : Nat) (sp' fi' : Bool), Rd w' b v row' at' sp' fi' ∧
    ((e = .returned (.tuple #[.int .i64 0, .int .i64 0]) ∧ Ok l row' at' ∧ E = Tk.ev (st l row' at') sp' fi' ∧ ∀ h : row' < l.length, Tk.isT (l[row'].2.data.toList.drop at') = true) ∨
     ∃ n : Int, e = .returned (.tuple #[.int .i64 20, .int .i64 n]) ∧ E = [Tk.er 20 n])
set_option maxRecDepth 100000 in
set_option maxHeartbeats 4000000 in
theorem skipBlanks_any (b : Nat) (v : Value) (l : List (Int × ByteArray)) (row at_ : Nat) (sp fi : Bool) (w : World) (hf : Fits l) (hl : LnA b w v l)
    (hr : Rd w b v row at_ sp fi) (hok : Ok l row at_) :
    Calls Tryz.prog 104 #[.pointer (some ⟨b, 0, none⟩)] w fun e w' => SkB b v l (Tk.ev (st l row at_) sp fi) w e w' := by
  have HFF := hide hf
  obtain ⟨hf1, hf2⟩ := hf
  have HF := hide hf2
  have HL := hide hl
  obtain ⟨p, cap, rfl, hc⟩ := hl
  clear hf2 hc
  have HR := hide hr
  have HO := hide hok
  clear hr hok
  generalize hE : Tk.ev (st l row at_) sp fi = E
  have HE := hide hE
  clear hE
  go_enter Tryz.func104, Tryz.ntmps104
  go_wp2
  go_loopg [] (Tk.wt (st l row at_)) (fun gk wr => ∃ (row1 at1 : Nat) (sp1 fi1 : Bool), gk = Tk.wt (st l row1 at1) ∧ Ok l row1 at1 ∧ Rd wr b (.slice p l.length cap) row1 at1 sp1 fi1 ∧ Reach b w wr ∧ Hid (Tk.ev (st l row1 at1) sp1 fi1 = E))
  case atStart => exact ⟨row, at_, sp, fi, rfl, unhide HO, unhide HR, Reach.refl _ _, HE⟩
  case round =>
    obtain ⟨row1, at1, sp1, fi1, rfl, hok, hrd, hre, hev⟩ := hrel
    obtain ⟨c0, c1, c2, c3, c4⟩ := hrd.cells
    have f1 := hrd.frozen 1
    have f2 := hrd.frozen 2
    have f3 := hrd.frozen 3
    have f4 := hrd.frozen 4
    by_cases hlt : row1 < l.length
    · have i1 : (row1 : Int) < (l.length : Int) := by omega
      obtain ⟨p', cap', hp', hcs⟩ := LnA.reach (unhide HL) hre
      obtain ⟨g, o, rfl, hg, hgl, k0, k1⟩ := hcs row1 hlt
      obtain ⟨rfl, rfl⟩ : p = some ⟨g, o, none⟩ ∧ cap = cap' := by simpa using hp'
      have hS : l[row1].2.size ≤ 140737488355328 := unhide HF _ (List.getElem_mem hlt)
      have hat1 := hok.2 hlt
      have hst := fun k => st_at (l := l) hlt k
      generalize hSe : l[row1].2 = S at *
      generalize hNe : l[row1].1 = N at *
      have HST := hide hst
      have HSE := hide hSe
      clear hst hSe hNe hcs hp'
      go_upto_region 1 with fail
      go_quiet (fail)
      have hrd1 : Rd (wr.drewN nq) b (.slice (some ⟨g, o, none⟩) l.length cap) row1 at1 sp1 fi1 := hrd
      have hre1 : Reach b w (wr.drewN nq) := hre.trans (Reach.drewN _ _)
      have k0' : (wr.drewN nq).cell? ⟨g, o + row1 * 2, none⟩ = some (.int .i64 N) := k0
      have k1' : (wr.drewN nq).cell? ⟨g, o + row1 * 2 + 1, none⟩ = some (.string S) := k1
      clear c0 c1 c2 c3 c4 f1 f2 f3 f4 k0 k1 hrd hre
      have hgl' : g < (wr.drewN nq).heap.size := hgl
      clear hgl
      generalize wr.drewN nq = w1 at *
      obtain ⟨c0, c1, c2, c3, c4⟩ := hrd1.cells
      have hb1 : b < w1.heap.size := (Array.getElem?_eq_some_iff.1 hrd1).1
      go_upto_region 2 with fail
      go_region
      go_upto_region 3 with fail
      have hrd2 : Rd (w1.alloc (.cells #[.int .i64 N, .string S] 78)).drew b (.slice (some ⟨g, o, none⟩) l.length cap) row1 at1 sp1 fi1 := hrd1.alloc _
      have hre2 : Reach b w (w1.alloc (.cells #[.int .i64 N, .string S] 78)).drew := (hre1.trans (Reach.alloc _ _)).trans (Reach.drew _)
      have hnew : (w1.alloc (.cells #[.int .i64 N, .string S] 78)).drew.heap[w1.heap.size]? = some (.cells #[.int .i64 N, .string S] 78 (0, 0)) := World.alloc_heap_new w1 _
      have hbn : w1.heap.size ≠ b := by omega
      generalize (w1.alloc (.cells #[.int .i64 N, .string S] 78)).drew = w2 at *
      generalize w1.heap.size = B2 at *
      clear c0 c1 c2 c3 c4 k0' k1' hgl' hrd1 hre1 hb1
      obtain ⟨c0, c1, c2, c3, c4⟩ := hrd2.cells
      have e0 : w2.cell? ⟨B2, 0, none⟩ = some (.int .i64 N) := by rw [World.cell?, hnew]; rfl
      have e1 : w2.cell? ⟨B2, 1, none⟩ = some (.string S) := by rw [World.cell?, hnew]; rfl
      have i2 : (at1 : Int) ≤ (S.size : Int) := by omega
      go_quiet (fail)
      have hrd3 : Rd (w2.drewN nq) b (.slice (some ⟨g, o, none⟩) l.length cap) row1 at1 sp1 fi1 := hrd2
      have hre3 : Reach b w (w2.drewN nq) := hre2.trans (Reach.drewN _ _)
      have hnew3 : (w2.drewN nq).heap[B2]? = some (.cells #[.int .i64 N, .string S] 78 (0, 0)) := hnew
      clear c0 c1 c2 c3 c4 e0 e1 hrd2 hre2 hnew
      generalize w2.drewN nq = w3 at *
      obtain ⟨c0, c1, c2, c3, c4⟩ := hrd3.cells
      have f1 := hrd3.frozen 1
      have f2 := hrd3.frozen 2
      have f3 := hrd3.frozen 3
      have f4 := hrd3.frozen 4
      have hp1 := hasPre2 S at1 47 47 w3 hS
      have hp2 := hasPre2 S at1 47 42 w3 hS
      have hTd := drop_data S at1
      have hTs : (S.extract at1 S.size).size = S.size - at1 := by simp
      have HSK := hide (fun (h2 : at1 + 2 ≤ l[row1].2.size) => skipComment_any b _ l row1 at1 sp1 fi1 w3 (unhide HFF) (LnA.reach (unhide HL) hre3) hrd3 hlt h2)
      rw [unhide HSE] at HSK
      have hev1 := unhide hev
      rw [unhide HST] at hev1
      generalize hTe : S.extract at1 S.size = T at *
      have HTE := hide hTe
      clear hTe
      cases hcE : (T.toList == [])
      · have hne : 0 < T.size := by
          rcases Nat.eq_zero_or_pos T.size with h | h
          · have : T.toList = [] := by rw [ByteArray.toList_eq]; exact List.length_eq_zero_iff.1 (by simpa using h)
            rw [this] at hcE; simp at hcE
          · exact h
        have hlt1 : at1 < S.size := by omega
        have hdr := drop_at S at1 hlt1
        have hT0 : T[0] = S[at1] := by
          have e := hTd
          have h0 := drop_at T 0 hne
          rw [List.drop_zero, Nat.zero_add, e, hdr] at h0
          exact (List.cons.inj h0).1.symm
        have hbl := fun W => isBlank_any T[0] W
        rw [hT0] at hbl
        cases hcL : Tk.pre [47, 47] (S.data.toList.drop at1)
        · rw [hcL] at hp1
          have HP1 := hide hp1
          cases hcC : Tk.pre [47, 42] (S.data.toList.drop at1)
          · rw [hcC] at hp2
            have HP2 := hide hp2
            cases hcB : Tk.bl S[at1]
            · rw [hcB] at hbl
              have HBL := hide (hbl w3)
              have hT : Hid (Tk.isT (l[row1].2.data.toList.drop at1) = true) := by
                rw [Hid, unhide HSE, hdr, Tk.isT_iff, ← hdr, hcL, hcC, hcB]; rfl
              clear hp1 hp2 hbl hev1 hTd hdr hcB hcC hcL
              go_wp2_with (first | (go_at_call 126; first | (refine (unhide HP1).mono ?_; rintro e w' ⟨rfl, rfl⟩) | (refine (unhide HP2).mono ?_; rintro e w' ⟨rfl, rfl⟩)) | (go_at_call 128; refine (unhide HBL).mono ?_; rintro e w' ⟨rfl, rfl⟩))
              go_ret2
              exact ⟨hre3, row1, at1, sp1, fi1, hrd3, .inl ⟨rfl, hok, (unhide hev).symm, fun _ => unhide hT⟩⟩
            · rw [hcB] at hbl
              have HBL := hide (hbl w3)
              rw [hdr, Tk.ev_blank _ _ _ hcB] at hev1
              have HEV : Hid (Tk.ev (st l row1 (at1 + 1)) true fi1 = E) := by rw [Hid, unhide HST]; exact hev1
              have hw : Hid (Tk.wt (st l row1 (at1 + 1)) < Tk.wt (st l row1 at1)) := by
                rw [Hid, unhide HST, unhide HST, Tk.wt, Tk.wt, hdr]; simp
              clear hp1 hp2 hbl hev1 hTd hdr hcB hcC hcL
              go_wp2_with (first | (go_at_call 126; first | (refine (unhide HP1).mono ?_; rintro e w' ⟨rfl, rfl⟩) | (refine (unhide HP2).mono ?_; rintro e w' ⟨rfl, rfl⟩)) | (go_at_call 128; refine (unhide HBL).mono ?_; rintro e w' ⟨rfl, rfl⟩))
              go_roundg (Tk.wt (st l row1 (at1 + 1)))
              case measure => exact unhide hw
              case rel => exact ⟨row1, at1 + 1, true, fi1, rfl, ⟨by omega, fun _ => by rw [unhide HSE]; exact hlt1⟩, Rd.set3 (Rd.set2 hrd3 (at1 + 1)) true, (hre3.trans (Reach.set _ _)).trans (Reach.set _ _), HEV⟩
          · rw [hcC] at hp2
            have HP2 := hide hp2
            have hl2 : at1 + 2 ≤ S.size := by
              have := ((Tk.pre_iff _ _).1 hcC).length_le
              simp at this
              have e : S.data.size = S.size := rfl
              omega
            have HSK2 := hide (unhide HSK hl2)
            rw [Tk.ev_open _ _ _ hcC, List.drop_drop] at hev1
            have HEV : Hid (Tk.evO N (st l row1 (at1 + 2)) fi1 = E) := by rw [Hid, unhide HST]; exact hev1
            have hw : Hid (Tk.wt (st l row1 (at1 + 2)) < Tk.wt (st l row1 at1)) := by
              rw [Hid, unhide HST, unhide HST, Tk.wt, Tk.wt]; simp
              have e : S.data.size = S.size := rfl
              omega
            clear hp1 hp2 hbl hev1 hTd hdr hcC hcL HSK
            go_wp2_with (first | (go_at_call 126; first | (refine (unhide HP1).mono ?_; rintro e w' ⟨rfl, rfl⟩) | (refine (unhide HP2).mono ?_; rintro e w' ⟨rfl, rfl⟩)))
            refine (unhide HSK2).mono ?_
            rintro e w4 ⟨ok, row', at', rfl, hrd4, hre4, hcl⟩
            have hnew4 : w4.heap[B2]? = some (.cells #[.int .i64 N, .string S] 78 (0, 0)) := (hre4.block hbn (Array.getElem?_eq_some_iff.1 hnew3).1).trans hnew3
            clear c0 c1 c2 c3 c4 f1 f2 f3 f4
            cases ok
            · have e0 : w4.cell? ⟨B2, 0, none⟩ = some (.int .i64 N) := by rw [World.cell?, hnew4]; rfl
              have HE2 : Hid (E = [Tk.er 20 N]) := by
                have := unhide HEV
                unfold Tk.evO at this
                rw [show Tk.cl (st l row1 (at1 + 2)) = none from unhide hcl] at this
                exact this.symm
              go_wp2
              go_quiet (fail)
              go_wp2
              go_ret2
              exact ⟨(hre3.trans hre4).trans (Reach.drewN _ _), row', at', sp1, fi1, hrd4, .inr ⟨N, rfl, unhide HE2⟩⟩
            · obtain ⟨c0, c1, c2, c3, c4⟩ := hrd4.cells
              have f3 := hrd4.frozen 3
              obtain ⟨hlt4, hok4, hcl4⟩ : row' < l.length ∧ Ok l row' at' ∧ Tk.cl (st l row1 (at1 + 2)) = some (st l row' at') := unhide hcl
              have HE2 : Hid (Tk.ev (st l row' at') true fi1 = E) := by
                have := unhide HEV
                unfold Tk.evO at this
                rw [hcl4] at this
                exact this
              have hw2 := hide (Nat.lt_of_le_of_lt (Tk.cl_wt hcl4) (unhide hw))
              clear hcl4
              go_wp2
              go_roundg (Tk.wt (st l row' at'))
              case measure => exact unhide hw2
              case rel => exact ⟨row', at', true, fi1, rfl, hok4, Rd.set3 hrd4 true, (hre3.trans hre4).trans (Reach.set _ _), HE2⟩
        · rw [hcL] at hp1
          have HP1 := hide hp1
          rw [Tk.ev_line _ _ _ hcL] at hev1
          have HEV := hide hev1
          have hw : Hid (Tk.wt (st l (row1 + 1) 0) < Tk.wt (st l row1 at1)) := by rw [Hid, unhide HST, Tk.wt]; omega
          clear hp1 hp2 hbl hev1 hTd hdr hcL
          go_wp2_with (go_at_call 126; refine (unhide HP1).mono ?_; rintro e w' ⟨rfl, rfl⟩)
          go_roundg (Tk.wt (st l (row1 + 1) 0))
          case measure => exact unhide hw
          case rel => exact ⟨row1 + 1, 0, false, true, rfl, ⟨by omega, fun _ => Nat.zero_le _⟩, Rd.set4 (Rd.set3 (Rd.set2 (Rd.set1 hrd3 (row1 + 1)) 0) false) true, (((hre3.trans (Reach.set _ _)).trans (Reach.set _ _)).trans (Reach.set _ _)).trans (Reach.set _ _), HEV⟩
      · have hemp : S.data.toList.drop at1 = [] := by
          rw [ByteArray.toList_eq, beq_iff_eq] at hcE
          rw [← hTd]; exact hcE
        rw [hemp, Tk.ev_end] at hev1
        have HEV := hide hev1
        have hw : Hid (Tk.wt (st l (row1 + 1) 0) < Tk.wt (st l row1 at1)) := by rw [Hid, unhide HST, Tk.wt]; omega
        clear hev1 hemp hp1 hp2 hTd
        go_wp2
        go_roundg (Tk.wt (st l (row1 + 1) 0))
        case measure => exact unhide hw
        case rel => exact ⟨row1 + 1, 0, false, true, rfl, ⟨by omega, fun _ => Nat.zero_le _⟩, Rd.set4 (Rd.set3 (Rd.set2 (Rd.set1 hrd3 (row1 + 1)) 0) false) true, (((hre3.trans (Reach.set _ _)).trans (Reach.set _ _)).trans (Reach.set _ _)).trans (Reach.set _ _), HEV⟩
    · have i1 : ¬ (row1 : Int) < (l.length : Int) := by omega
      go_upto_region 1 with fail
      go_quiet (fail)
      go_wp2
      go_ret2
      exact ⟨hre.trans (Reach.drewN _ _), row1, at1, sp1, fi1, hrd, .inl ⟨rfl, hok, (unhide hev).symm, fun h => absurd h hlt⟩⟩
end Go.Proofs.YtmpkgjonbjpohaaGreatDoor
