/-
  burinlaw02.TokenBack answers true for every string: the walk.
-/
import Derived.Test.YtaoekfokpbebfaaDoorN2
import Derived.Test.YtaoekfokpbebfaaDoorK1
namespace Go.Proofs.YtaoekfokpbebfaaDoor
open Go Go.RowKit
set_option linter.unusedVariables false
set_option linter.unusedSimpArgs false

set_option maxRecDepth 100000 in
set_option maxHeartbeats 8000000 in
theorem back_walk (s : ByteArray) (w : World) (hs : s.size ≤ 140737488355328) (hw0 : 0 < w.heap.size) (hsg : Sg w) :
    Calls Tryd.prog 7 #[.string s] w fun e w' => e = .returned (.bool true) ∧ Below w.heap.size w w' := by
  have HSG := hide hsg
  have HSH := hide (shown_any w hw0 hsg)
  clear hsg
  go_enter Tryd.func7, Tryd.ntmps7
  go_wp2_with fail
  refine (unhide HSH).mono ?_
  rintro e W1 ⟨rfl, hb1⟩
  have hz1 := hb1.size
  by_cases hl : s.size ≤ 20000
  · have i1 : ¬ (20000 : Int) < (s.size : Int) := by omega
    have HLN := hide (Lines_ln s W1 (by omega))
    have hsz : s.data.toList.length = s.size := by simp
    have HF : Hid (Fits (lnOf s.data.toList)) := lnOf_fits (by omega)
    clear hsz
    have HBK : Hid ((Tk.lex (asL (lnOf s.data.toList))).2.1 = 0 → (∀ t ∈ (Tk.lex (asL (lnOf s.data.toList))).1, t.s ≠ [92]) →
        (spG ((Tk.lex (asL (lnOf s.data.toList))).1.map Tk.T.g)).length ≤ 65536 ∧ ∃ B, Tk.lex (asL (lnOf (spG ((Tk.lex (asL (lnOf s.data.toList))).1.map Tk.T.g)))) = (B, 0, 0) ∧ Alk ((Tk.lex (asL (lnOf s.data.toList))).1.map Tk.T.g) (B.map Tk.T.g)) :=
      back_list s.data.toList (by simpa using hl)
    generalize lnOf s.data.toList = l at *
    go_wp2_with fail
    refine (unhide HLN).mono ?_
    rintro e W2 ⟨v2, rfl, hrow2, hb2⟩
    obtain ⟨p, cap, rfl⟩ := ownsRow_slice hrow2
    have hz2 := hb2.size
    have hbb2 : Below w.heap.size w W2 := hb1.trans (hb2.mono (by omega))
    have HL := hide (LnB.of_row hrow2 rfl)
    have HLX := hide (Lex_any _ l W2 (unhide HF) (by omega) (unhide HL) (Sg.below (unhide HSG) hbb2 hw0))
    clear hrow2 HLN
    go_wp2_with fail
    refine (unhide HLX).mono ?_
    rintro e W3 ⟨v3, rfl, hrow3, hb3⟩
    obtain ⟨p3, cap3, rfl⟩ := ownsRow_slice hrow3
    have HT3 := hide (TkS.of hrow3 rfl)
    have hz3 := hb3.size
    have hbb3 : Below w.heap.size w W3 := hbb2.trans (hb3.mono (by omega))
    have hlenR := Tk.lex_len (asL l)
    clear HLX hrow3 HL HF
    generalize Tk.lex (asL l) = R at *
    obtain ⟨L, er, n⟩ := R
    simp only at HT3 HBK hlenR ⊢
    by_cases her : er = 0
    · subst her
      go_wp2
      go_loopg [9] L.length (fun gk i wr => ∃ k : Nat, gk = L.length - k ∧ i = .int .i64 k ∧ k ≤ L.length ∧ Hid (∀ j (h : j < L.length), j < k → L[j].s ≠ [92]) ∧ wr = W3)
      case atStart => exact ⟨0, rfl, rfl, by omega, fun j h hj => by omega, rfl⟩
      case round =>
        obtain ⟨k, rfl, rfl, hk, hno, hww⟩ := hrel
        obtain rfl := hww.symm
        by_cases hlt : k < L.length
        · have i2 : (k : Int) < (L.length : Int) := by omega
          obtain ⟨p', cap', hp', hcs⟩ := unhide HT3
          obtain ⟨g, rfl, _, _, a0, a1, a2, a3, a4, a5⟩ := hcs k hlt
          obtain ⟨rfl, rfl⟩ : p3 = some ⟨g, 0, none⟩ ∧ cap3 = cap' := by simpa using hp'
          have he : ((⟨L[k].s.toArray⟩ : ByteArray).toList == [92]) = decide (L[k].s = [92]) := by
            rw [ByteArray.toList_eq, Bool.eq_iff_iff]; simp
          clear hcs hp' a0 a2 a3 a4 a5
          by_cases h92 : L[k].s = [92]
          · have he' : (L[k].s == [92]) = true := by simp [h92]
            clear he h92
            generalize L[k] = t at *
            go_wp2
            go_ret
            exact ⟨rfl, hbb3⟩
          · have he' : (L[k].s == [92]) = false := by simp [h92]
            have HNO : Hid (∀ j (h : j < L.length), j < k + 1 → L[j].s ≠ [92]) := by
              intro j hj hjk
              by_cases hjk' : j = k
              · subst hjk'; exact h92
              · exact unhide hno j hj (by omega)
            clear he h92 hno
            generalize L[k] = t at *
            go_wp2
            go_roundg (L.length - (k + 1))
            case measure => omega
            case rel => exact ⟨k + 1, rfl, by go_num, by omega, HNO, by first | rfl | trivial⟩
        · have i2 : ¬ (k : Int) < (L.length : Int) := by omega
          have hall : ∀ t ∈ L, t.s ≠ [92] := fun t ht => by
            obtain ⟨j, hj, rfl⟩ := List.mem_iff_getElem.1 ht
            exact unhide hno j hj (by omega)
          obtain ⟨hsp, B, hB, hak⟩ := unhide HBK (by first | trivial | rfl) hall
          have hT3G := (unhide HT3).toG
          have hSp := Spell_any _ (L.map Tk.T.g) W3 (by rw [List.length_map]; omega) (by omega) hT3G
          have hszT : (⟨(spG (L.map Tk.T.g)).toArray⟩ : ByteArray).size ≤ 65536 := by show (spG (L.map Tk.T.g)).toArray.size ≤ _; simpa using hsp
          have hFS : Fits (lnOf (spG (L.map Tk.T.g))) := lnOf_fits hsp
          have hLn := fun W => Lines_ln (⟨(spG (L.map Tk.T.g)).toArray⟩ : ByteArray) W hszT
          rw [List.toList_toArray] at hLn
          have HSP := hide hSp
          have HLN := hide hLn
          have HFS := hide hFS
          have HB := hide hB
          have HAK := hide hak
          have HT3G := hide hT3G
          clear hSp hLn hFS hB hak hall hno HBK hT3G hsp hszT
          generalize lnOf (spG (L.map Tk.T.g)) = m at *
          generalize (⟨(spG (L.map Tk.T.g)).toArray⟩ : ByteArray) = X at *
          go_wp2_with fail
          refine (unhide HSP).mono ?_
          rintro e W4 ⟨rfl, hb4⟩
          have hz4 := hb4.size
          go_wp2_with fail
          refine (unhide HLN W4).mono ?_
          rintro e W5 ⟨v5, rfl, hrow5, hb5⟩
          obtain ⟨p5, cap5, rfl⟩ := ownsRow_slice hrow5
          have hz5 := hb5.size
          have hbb5 : Below w.heap.size w W5 := (hbb3.trans (hb4.mono (by omega))).trans (hb5.mono (by omega))
          have hlx := Lex_any _ m W5 (unhide HFS) (by omega) (LnB.of_row hrow5 rfl) (Sg.below (unhide HSG) hbb5 hw0)
          rw [unhide HB] at hlx
          have HLX := hide hlx
          clear hlx hrow5 HSP
          go_wp2_with fail
          refine (unhide HLX).mono ?_
          rintro e W6 ⟨v6, rfl, hrow6, hb6⟩
          obtain ⟨p6, cap6, rfl⟩ := ownsRow_slice hrow6
          have hz6 := hb6.size
          have hbb6 : Below w.heap.size w W6 := hbb5.trans (hb6.mono (by omega))
          have hA6 : TkG W6.heap.size W6 (.slice p3 L.length cap3) (L.map Tk.T.g) := ((((unhide HT3G).below hb4).below (hb5.mono (by omega))).below (hb6.mono (by omega))).mono (by omega)
          have hB6 : TkG W6.heap.size W6 (.slice p6 B.length cap6) (B.map Tk.T.g) := (TkS.of hrow6 rfl).toG
          have HAL := hide (alike_any _ _ _ _ W6 (by rw [List.length_map]; omega) (unhide HAK) hA6 hB6)
          clear hA6 hB6 hrow6 HLX
          simp only
          go_wp2_with fail
          refine (unhide HAL).mono ?_
          rintro e W7 ⟨rfl, hb7⟩
          go_wp2
          go_ret
          exact ⟨rfl, hbb6.trans (hb7.mono (by omega))⟩
    · have j1 : ((er : Int) != 0) = true := by rw [bne_iff_ne]; exact her
      go_wp2
      go_ret
      exact ⟨rfl, hbb3⟩
  · have i1 : (20000 : Int) < (s.size : Int) := by omega
    go_wp2
    go_ret
    exact ⟨rfl, hb1⟩
end Go.Proofs.YtaoekfokpbebfaaDoor
