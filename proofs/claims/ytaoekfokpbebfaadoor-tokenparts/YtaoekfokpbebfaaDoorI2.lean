/-
  burinlaw02.TokenParts answers true for every two lists of lines: the walk.
-/
import Derived.Test.YtaoekfokpbebfaaDoorI1
import Derived.Test.YtaoekfokpbebfaaDoorL5
namespace Go.Proofs.YtaoekfokpbebfaaDoor
open Go Go.RowKit
set_option linter.unusedVariables false
set_option linter.unusedSimpArgs false

theorem Tryd.info40 : (Tryd.prog.info? 40).map (fun i => (i.zero, i.size, i.bytes)) = some (some (.agg #[.int .i64 0, .string ⟨#[]⟩]), 2, 24) := by kernel_rfl
theorem lnCells_one (l : List (Int × ByteArray)) : ∀ u ∈ lnCells l, u.oneCell' = true := by
  intro u hu
  obtain ⟨x, _, hx⟩ := List.mem_flatMap.1 hu
  simp at hx
  rcases hx with rfl | rfl <;> rfl
theorem tokCells_one (l : List Tk.T) : ∀ u ∈ tokCells l, u.oneCell' = true := by
  intro u hu
  obtain ⟨x, _, hx⟩ := List.mem_flatMap.1 hu
  simp [tokC] at hx
  rcases hx with rfl | rfl | rfl | rfl | rfl | rfl <;> rfl
theorem tokCells_app (l m : List Tk.T) : tokCells (l ++ m) = tokCells l ++ tokCells m := by simp [tokCells]
theorem asL_app (l m : List (Int × ByteArray)) : asL (l ++ m) = asL l ++ asL m := by simp [asL]
theorem LnB.up {B B' : Nat} {w : World} {v : Value} {l : List (Int × ByteArray)} (h : LnB B w v l) (hb : B ≤ B') : LnB B' w v l := by
  obtain ⟨p', cap', h1, h2⟩ := h
  refine ⟨p', cap', h1, fun i hi => ?_⟩
  obtain ⟨g, o, a, b, c⟩ := h2 i hi
  exact ⟨g, o, a, by omega, c⟩

set_option maxRecDepth 100000 in
set_option maxHeartbeats 4000000 in
theorem parts_walk (p q : Option Addr) (cp cq : Nat) (l m : List (Int × ByteArray)) (w : World) (hf : Fits l) (hg : Fits m) (hp0 : p = none → cp = 0) (hq0 : q = none → cq = 0) (hbl : l.length * 24 ≤ 140737488355328) (hbm : m.length * 24 ≤ 140737488355328) (hw0 : 0 < w.heap.size)
    (hl : LnB w.heap.size w (.slice p l.length cp) l) (hm : LnB w.heap.size w (.slice q m.length cq) m) (hsg : Sg w) :
    Calls Tryd.prog 9 #[.slice p l.length cp, .slice q m.length cq] w fun e w' => e = .returned (.bool true) ∧ Below w.heap.size w w' := by
  have HSG := hide hsg
  have HL := hide hl
  have HM := hide hm
  have HF := hide hf
  have HG := hide hg
  have HSH := hide (shown_any w hw0 hsg)
  clear hsg hf hg hl hm
  go_enter Tryd.func9, Tryd.ntmps9
  go_wp2_with fail
  refine (unhide HSH).mono ?_
  rintro e W1 ⟨rfl, hb1⟩
  have hz1 := hb1.size
  have HLX := hide (Lex_any _ l W1 (unhide HF) (by omega) (((unhide HL).below hb1).up hz1) (Sg.below (unhide HSG) hb1 hw0))
  go_wp2_with fail
  refine (unhide HLX).mono ?_
  rintro e W2 ⟨v2, rfl, hrow2, hb2⟩
  obtain ⟨p2, c2, rfl⟩ := ownsRow_slice hrow2
  have hR2 := hide (Rc.of_row hrow2)
  have hz2 := hb2.size
  have hbb2 : Below w.heap.size w W2 := hb1.trans (hb2.mono (by omega))
  have HMX := hide (Lex_any _ m W2 (unhide HG) (by omega) (((unhide HM).below hbb2).up (by omega)) (Sg.below (unhide HSG) hbb2 hw0))
  clear hrow2 HLX HSH
  go_wp2_with fail
  refine (unhide HMX).mono ?_
  rintro e W3 ⟨v3, rfl, hrow3, hb3⟩
  obtain ⟨p3, c3, rfl⟩ := ownsRow_slice hrow3
  have hR3 := hide (Rc.of_row hrow3)
  have hR23 := hide ((unhide hR2).below hb3)
  have hz3 := hb3.size
  have hbb3 : Below w.heap.size w W3 := hbb2.trans (hb3.mono (by omega))
  have hPA : Hid ((Tk.lex (asL l)).2.1 = 0 → (Tk.lex (asL m)).2.1 = 0 → (Tk.lex (asL l)).1.length + (Tk.lex (asL m)).1.length ≤ 20000 → Tk.lex (asL (l ++ m)) = ((Tk.lex (asL l)).1 ++ (Tk.lex (asL m)).1, 0, 0)) := by
    intro h1 h2 h3
    rw [asL_app]
    exact Tk.lex_parts h1 h2 h3
  have hA20 := Tk.lex_len (asL l)
  have hB20 := Tk.lex_len (asL m)
  clear hrow3 HMX hR2
  generalize Tk.lex (asL l) = RA at *
  generalize Tk.lex (asL m) = RB at *
  obtain ⟨A, ea, na⟩ := RA
  obtain ⟨B, eb, nb⟩ := RB
  simp only at hPA hR23 hR3 hA20 hB20 ⊢
  by_cases h1 : ea = 0
  · by_cases h2 : eb = 0
    · by_cases h3 : A.length + B.length ≤ 20000
      · subst h1; subst h2
        have hpa := unhide hPA rfl rfl h3
        have HPA := hide hpa
        clear hpa hPA
        have i3 : ¬ (20000 : Int) < (A.length : Int) + (B.length : Int) := by omega
        obtain ⟨i40, hi40, hz40, hs40, hby40⟩ := info_parts Tryd.info40
        obtain ⟨i34, hi34, hz34, hs34, hby34⟩ := info_parts Tryd.info34
        have hlen1 := (unhide HF).1
        have hlen2 := (unhide HG).1
        have HRL : Hid (Rc W3.heap.size W3 p l.length cp (lnCells l)) := (Rc.of_lines ((unhide HL).below hbb3) hp0).mono (by omega)
        have HRM : Hid (Rc W3.heap.size W3 q m.length cq (lnCells m)) := (Rc.of_lines ((unhide HM).below hbb3) hq0).mono (by omega)
        have hR23' : Hid (Rc W3.heap.size W3 p2 A.length c2 (tokCells A)) := (unhide hR23).mono hz3
        have e1 := lnCells_length l
        have e2 := lnCells_length m
        have e3 := tokCells_length A
        have e4 := tokCells_length B
        have HE1 := hide e1
        have HE2 := hide e2
        have HE3 := hide e3
        have HE4 := hide e4
        have hFF : Hid (Fits (l ++ m)) := ⟨by rw [List.length_append]; omega, fun x hx => by
          rcases List.mem_append.1 hx with h | h
          · exact (unhide HF).2 x h
          · exact (unhide HG).2 x h⟩
        clear e1 e2 e3 e4 HL HM HF HG hR23 hb3 hb2 hb1
        go_upto_region 6 with fail
        go_wp2_with (first
          | (at_make; refine wpList_make_own _ rfl _ _ 22 rfl W3.heap.size 40 i40 _ 2 Tryd.underlying22 hi40 hz40 hs40 .i64 .i64 _ (l.length + m.length) rfl rfl (by omega) (by rw [hby40]; omega) (by unfold maxLen; omega) (Nat.le_refl _) ?_; intro W4 hown4 hgrow4; have hb4 : Below W3.heap.size W3 W4 := (Below.refl _ W3).grown hgrow4 (Nat.le_refl _) (fun r e => by cases e))
          | (at_builtin; refine wpList_append_into _ rfl _ _ 22 rfl W3.heap.size 40 i40 2 Tryd.underlying22 hi40 hs40 W3.heap.size 0 (l.length + m.length) [] rfl hown4 p l.length cp (lnCells l) rfl (unhide HE1) W3.heap.size ((unhide HRL).below hb4) (lnCells_one l) (by omega) ?_; intro W5 hown5 hgrow5; rw [Nat.zero_add, List.nil_append] at hown5; rw [Nat.zero_add]; have hb5 : Below W3.heap.size W3 W5 := hb4.grown hgrow5 hb4.size (fun r e => by cases e; exact Nat.le_refl _); clear hown4 hgrow4 hgrow5 hb4)
          | (at_builtin; refine wpList_append_into _ rfl _ _ 22 rfl W3.heap.size 40 i40 2 Tryd.underlying22 hi40 hs40 W3.heap.size l.length (l.length + m.length) (lnCells l) rfl hown5 q m.length cq (lnCells m) rfl (unhide HE2) W3.heap.size ((unhide HRM).below hb5) (lnCells_one m) (by omega) ?_; intro W6 hown6 hgrow6; have hb6 : Below W3.heap.size W3 W6 := hb5.grown hgrow6 hb5.size (fun r e => by cases e; exact Nat.le_refl _); clear hown5 hgrow6 hb5))
        rw [← lnCells_app] at hown6
        have hz6 := hb6.size
        have hbb6 : Below w.heap.size w W6 := hbb3.trans (hb6.mono (by omega))
        have hlx := Lex_any _ (l ++ m) W6 (unhide hFF) (by omega) (LnB.of_row hown6 (by simp)) (Sg.below (unhide HSG) hbb6 hw0)
        rw [unhide HPA] at hlx
        have HLX := hide hlx
        clear hlx hown6
        refine (unhide HLX).mono ?_
        rintro e W7 ⟨v7, rfl, hrow7, hb7⟩
        obtain ⟨p7, c7, rfl⟩ := ownsRow_slice hrow7
        have hT7 := hide (TkS.of hrow7 rfl)
        have hz7 := hb7.size
        have hbb7 : Below w.heap.size w W7 := hbb6.trans (hb7.mono (by omega))
        have HRA : Hid (Rc W7.heap.size W7 p2 A.length c2 (tokCells A)) := (((unhide hR23').below hb6).below (hb7.mono hz6)).mono (by omega)
        have HRB : Hid (Rc W7.heap.size W7 p3 B.length c3 (tokCells B)) := (((unhide hR3).below hb6).below (hb7.mono hz6)).mono (by omega)
        clear hR23' hR3 HRL HRM HLX hrow7
        go_upto_region 7 with fail
        go_wp2_with (first
          | (at_make; refine wpList_make_own _ rfl _ _ 25 rfl W7.heap.size 34 i34 _ 6 Tryd.underlying25 hi34 hz34 hs34 .i64 .i64 _ (A.length + B.length) rfl rfl (by omega) (by rw [hby34]; omega) (by unfold maxLen; omega) (Nat.le_refl _) ?_; intro W8 hown8 hgrow8; have hb8 : Below W7.heap.size W7 W8 := (Below.refl _ W7).grown hgrow8 (Nat.le_refl _) (fun r e => by cases e))
          | (at_builtin; refine wpList_append_into _ rfl _ _ 25 rfl W7.heap.size 34 i34 6 Tryd.underlying25 hi34 hs34 W7.heap.size 0 (A.length + B.length) [] rfl hown8 p2 A.length c2 (tokCells A) rfl (unhide HE3) W7.heap.size ((unhide HRA).below hb8) (tokCells_one A) (by omega) ?_; intro W9 hown9 hgrow9; rw [Nat.zero_add, List.nil_append] at hown9; rw [Nat.zero_add]; have hb9 : Below W7.heap.size W7 W9 := hb8.grown hgrow9 hb8.size (fun r e => by cases e; exact Nat.le_refl _); clear hown8 hgrow8 hgrow9 hb8)
          | (at_builtin; refine wpList_append_into _ rfl _ _ 25 rfl W7.heap.size 34 i34 6 Tryd.underlying25 hi34 hs34 W7.heap.size A.length (A.length + B.length) (tokCells A) rfl hown9 p3 B.length c3 (tokCells B) rfl (unhide HE4) W7.heap.size ((unhide HRB).below hb9) (tokCells_one B) (by omega) ?_; intro W10 hown10 hgrow10; have hb10 : Below W7.heap.size W7 W10 := hb9.grown hgrow10 hb9.size (fun r e => by cases e; exact Nat.le_refl _); clear hown9 hgrow10 hb9))
        rw [← tokCells_app] at hown10
        have hT10 : TkS W7.heap.size W10 (.slice (some ⟨W7.heap.size, 0, none⟩) (A.length + B.length) (A.length + B.length)) (A ++ B) := TkS.of hown10 (by rw [List.length_append])
        have hla : ((A ++ B).map Tk.T.g).length ≤ 140737488355328 := by rw [List.length_map, List.length_append]; omega
        have hg7 := (unhide hT7).toG.below hb10
        rw [List.length_append] at hg7
        have hS := Same_any _ _ ((A ++ B).map Tk.T.g) ((A ++ B).map Tk.T.g) _ _ W10 hla hg7 hT10.toG
        rw [show decide ((A ++ B).map Tk.T.g = (A ++ B).map Tk.T.g) = true from decide_eq_true rfl] at hS
        have HS := hide hS
        have hz10 := hb10.size
        have hbb10 : Below w.heap.size w W10 := hbb7.trans (hb10.mono (by omega))
        clear hS hT7 hown10 hT10 hg7 hla
        refine (unhide HS).mono ?_
        rintro e W11 ⟨rfl, mm, rfl⟩
        go_wp2
        go_ret
        exact ⟨rfl, hbb10.trans (below_drewN0 _ _ _)⟩
      · have i3 : (20000 : Int) < (A.length : Int) + (B.length : Int) := by omega
        subst h1; subst h2
        go_wp2_with fail
        go_ret
        exact ⟨rfl, hbb3⟩
    · have i2 : ((eb : Int) != 0) = true := by rw [bne_iff_ne]; exact h2
      go_wp2_with fail
      go_ret
      exact ⟨rfl, hbb3⟩
  · have i1 : ((ea : Int) != 0) = true := by rw [bne_iff_ne]; exact h1
    go_wp2_with fail
    go_ret
    exact ⟨rfl, hbb3⟩
end Go.Proofs.YtaoekfokpbebfaaDoor
