/-
  token's reader.skipComment: it goes on behind the end of the comment that begins here, and tells whether it ends.
-/
import Derived.Test.YtaoekfokpbebfaaDoorQ1
import Derived.Test.YtaoekfokpbebfaaDoorHp
namespace Go.Proofs.YtaoekfokpbebfaaDoor
open Go Go.RowKit
set_option linter.unusedVariables false
set_option linter.unusedSimpArgs false

def Fits (l : List (Int × ByteArray)) : Prop := l.length ≤ 140737488355328 ∧ ∀ x ∈ l, x.2.size ≤ 140737488355328
/-- Where the reader stands is there. -/
def Ok (l : List (Int × ByteArray)) (row at_ : Nat) : Prop := row ≤ l.length ∧ ∀ h : row < l.length, at_ ≤ l[row].2.size

set_option maxRecDepth 100000 in
set_option maxHeartbeats 4000000 in
theorem skipComment_any (b : Nat) (v : Value) (l : List (Int × ByteArray)) (row at_ : Nat) (sp fi : Bool) (w : World) (hf : Fits l) (hl : LnA b w v l)
    (hr : Rd w b v row at_ sp fi) (hrow : row < l.length) (hat : at_ + 2 ≤ l[row].2.size) :
    Calls Tryd.prog 42 #[.pointer (some ⟨b, 0, none⟩)] w fun e w' => ∃ (ok : Bool) (row' at' : Nat), e = .returned (.bool ok) ∧ Rd w' b v row' at' sp fi ∧ Reach b w w' ∧
      Hid (bif ok then row' < l.length ∧ Ok l row' at' ∧ Tk.cl (st l row (at_ + 2)) = some (st l row' at') else Tk.cl (st l row (at_ + 2)) = none) := by
  obtain ⟨hf1, hf2⟩ := hf
  have HF := hide hf2
  have HL := hide hl
  obtain ⟨p, cap, rfl, hc⟩ := hl
  clear hf2 hc
  have hsz := unhide HF _ (List.getElem_mem hrow)
  obtain ⟨c0, c1, c2, c3, c4⟩ := hr.cells
  have f1 := hr.frozen 1
  have f2 := hr.frozen 2
  have HR := hide hr
  clear hr
  generalize hC : Tk.cl (st l row (at_ + 2)) = C
  have HC := hide hC
  clear hC
  go_enter Tryd.func42, Tryd.ntmps42
  go_wp2
  go_step3
  go_wp2
  go_step3
  go_wp2
  have hR2 : Rd (w.setCell ⟨b, 2, none⟩ (.int .i64 ((at_ : Int) + 2))) b (.slice p l.length cap) row (at_ + 2) sp fi := Rd.set2 (unhide HR) (at_ + 2)
  have hRe : Reach b w (w.setCell ⟨b, 2, none⟩ (.int .i64 ((at_ : Int) + 2))) := Reach.set w _
  generalize (w.setCell ⟨b, 2, none⟩ (.int .i64 ((at_ : Int) + 2))) = w1 at *
  clear c0 c1 c2 c3 c4 f1 f2 HR
  go_loopg [] (l.length - row) (fun gk wr => ∃ row1 at1 : Nat, gk = l.length - row1 ∧ Ok l row1 at1 ∧ Rd wr b (.slice p l.length cap) row1 at1 sp fi ∧ Reach b w wr ∧ Hid (Tk.cl (st l row1 at1) = C))
  case atStart => exact ⟨row, at_ + 2, rfl, ⟨by omega, fun _ => hat⟩, hR2, hRe, HC⟩
  case round =>
    obtain ⟨row1, at1, rfl, hok, hrd, hre, hcl⟩ := hrel
    clear hR2 hRe
    obtain ⟨c0, c1, c2, c3, c4⟩ := hrd.cells
    by_cases hlt : row1 < l.length
    · have i1 : (row1 : Int) < (l.length : Int) := by omega
      obtain ⟨p', cap', hp', hcs⟩ := LnA.reach (unhide HL) hre
      obtain ⟨g, o, rfl, hg, hgl, k0, k1⟩ := hcs row1 hlt
      obtain ⟨rfl, rfl⟩ : p = some ⟨g, o, none⟩ ∧ cap = cap' := by simpa using hp'
      have hS : l[row1].2.size ≤ 140737488355328 := unhide HF _ (List.getElem_mem hlt)
      have hat1 := hok.2 hlt
      have hst := fun k => st_at (l := l) hlt k
      generalize hSe : l[row1].2 = S at *
      have HST := hide hst
      have HSE := hide hSe
      clear hst hSe hcs hp'
      go_upto_region 2 with fail
      go_quiet (fail)
      revert nq; intro n1
      go_upto_region 4 with fail
      go_quiet (fail)
      go_wp2
      have hrd2 : Rd ((wr.drewN n1).drewN nq) b (.slice (some ⟨g, o, none⟩) l.length cap) row1 at1 sp fi := hrd
      have hre2 : Reach b w ((wr.drewN n1).drewN nq) := (hre.trans (Reach.drewN _ _)).trans (Reach.drewN _ _)
      generalize ((wr.drewN n1).drewN nq) = w2 at *
      clear c0 c1 c2 c3 c4 k0 k1 hrd hre
      go_loopg [] (S.size - at1) (fun gk wi => ∃ at2 : Nat, gk = S.size - at2 ∧ at2 ≤ S.size ∧ Rd wi b (.slice (some ⟨g, o, none⟩) l.length cap) row1 at2 sp fi ∧ Reach b w wi ∧ Hid (Tk.cl (st l row1 at2) = C))
      case atStart => exact ⟨at1, rfl, hat1, hrd2, hre2, hcl⟩
      case round =>
        obtain ⟨at2, rfl, ha2, hrd3, hre3, hcl3⟩ := hrel
        clear hrd2 hre2
        obtain ⟨c0, c1, c2, c3, c4⟩ := hrd3.cells
        have f1 := hrd3.frozen 1
        have f2 := hrd3.frozen 2
        by_cases hl2 : at2 < S.size
        · have i2 : (at2 : Int) < (S.size : Int) := by omega
          have i3 : (at2 : Int) ≤ (S.size : Int) := by omega
          have hp := hasPre2 S at2 42 47 wr hS
          have hcl4 := unhide hcl3
          rw [unhide HST, drop_at S at2 hl2] at hcl4
          rw [drop_at S at2 hl2] at hp
          cases hc : Tk.pre [42, 47] (S[at2] :: S.data.toList.drop (at2 + 1))
          · rw [hc] at hp
            have HP := hide hp
            have hn : Hid (Tk.cl (st l row1 (at2 + 1)) = C) := by
              rw [Hid, unhide HST]
              rw [Tk.cl, Tk.fc, hc] at hcl4
              exact hcl4
            clear hp hc hcl4
            go_wp2_with (go_at_call 41; refine (unhide HP).mono ?_; rintro e w' ⟨rfl, rfl⟩)
            go_roundg (S.size - (at2 + 1))
            case measure => omega
            case rel => exact ⟨at2 + 1, rfl, by omega, Rd.set2 hrd3 (at2 + 1), hre3.trans (Reach.set _ _), hn⟩
          · rw [hc] at hp
            have HP := hide hp
            have hlen2 : at2 + 2 ≤ S.size := by
              have := ((Tk.pre_iff _ _).1 hc).length_le
              rw [← drop_at S at2 hl2] at this
              simp at this
              have e : S.data.size = S.size := rfl
              omega
            have hn : Hid (C = some (st l row1 (at2 + 2))) := by
              rw [Hid, unhide HST, ← hcl4, Tk.cl, Tk.fc, hc]
              simp [List.drop_drop]
            clear hp hc hcl4
            go_wp2_with (go_at_call 41; refine (unhide HP).mono ?_; rintro e w' ⟨rfl, rfl⟩)
            have hrd4 := Rd.set2 hrd3 (at2 + 2)
            have hre4 : Reach b w (w'.setCell ⟨b, 2, none⟩ (.int .i64 ((at2 : Int) + 2))) := hre3.trans (Reach.set _ _)
            rw [show (((at2 + 2 : Nat) : Int)) = (at2 : Int) + 2 from rfl] at hrd4
            generalize (w'.setCell ⟨b, 2, none⟩ (.int .i64 ((at2 : Int) + 2))) = w5 at *
            clear c0 c1 c2 c3 c4 f1 f2
            obtain ⟨c0, c1, c2, c3, c4⟩ := hrd4.cells
            go_quiet (fail)
            go_wp2
            try rw [Exit.noGoto_ret]
            go_ret
            exact ⟨true, row1, at2 + 2, rfl, hrd4, hre4.trans (Reach.drewN _ _), hlt, ⟨by omega, fun _ => by rw [unhide HSE]; exact hlen2⟩, unhide hn⟩
        · have hae : at2 = S.size := by omega
          have i2 : ¬ (at2 : Int) < (S.size : Int) := by omega
          have hn : Hid (Tk.cl (st l (row1 + 1) 0) = C) := by
            have := unhide hcl3
            rw [unhide HST, drop_end S at2 (by omega)] at this
            exact this
          go_wp2
          go_roundg (l.length - (row1 + 1))
          case measure => omega
          case rel => exact ⟨row1 + 1, 0, rfl, ⟨by omega, fun _ => Nat.zero_le _⟩, Rd.set2 (Rd.set1 hrd3 (row1 + 1)) 0, (hre3.trans (Reach.set _ _)).trans (Reach.set _ _), hn⟩
    · have i1 : ¬ (row1 : Int) < (l.length : Int) := by omega
      have hn : Hid (C = none) := by
        have := unhide hcl
        rw [st_end (by omega)] at this
        exact this.symm
      go_upto_region 2 with fail
      go_quiet (fail)
      revert nq; intro n1
      go_upto_region 9 with fail
      go_quiet (fail)
      go_wp2
      try rw [Exit.noGoto_ret]
      go_ret
      exact ⟨false, row1, at1, rfl, hrd, hre.trans (Reach.drewN _ _), hn⟩
end Go.Proofs.YtaoekfokpbebfaaDoor
