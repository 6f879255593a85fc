/-
  Package lex: unquoted, single.
-/
import Derived.Test.YtmpkgjonbjpohaaGreatDoorY4
namespace Go.Proofs.YtmpkgjonbjpohaaGreatDoor
open Go Go.RowKit
set_option linter.unusedVariables false
set_option linter.unusedSimpArgs false

set_option maxRecDepth 100000 in
set_option maxHeartbeats 4000000 in
theorem unquoted_any (s : List UInt8) (hs : s.length ≤ 140737488355320) (w : World) (hw : 10 < w.heap.size) (hg : Eg w) (hsg : Sg w) (hC : speltM s 4 = true → CaOK s 13 10) :
    Calls Tryz.prog 146 #[.string ⟨s.toArray⟩] w fun e w' => e = .returned (.tuple #[.string ⟨(unqM s).1.toArray⟩, .bool (unqM s).2]) ∧ Below w.heap.size w w' := by
  cases hsp : speltM s 4
  · have HU : unqM s = ([], false) := by rw [unqM, hsp]; rfl
    have HSP := hide (spelt_any s 4 w (by omega) hw hsg)
    rw [hsp] at HSP
    rw [HU]
    clear HU hC hg hsg hw
    go_enter Tryz.func146, Tryz.ntmps146
    go_wp2_with (go_at_call 77; refine (unhide HSP).mono ?_; rintro e W1 ⟨rfl, hb1⟩)
    go_ret2
    exact ⟨rfl, hb1⟩
  · cases hh : hasM 13 10 s
    · exact unq_go s hs hsp hh w hw hg hsg (hC hsp)
    · have HU : unqM s = ([], false) := by rw [unqM, hsp, hh]; rfl
      have HSP := hide (spelt_any s 4 w (by omega) hw hsg)
      have HC := hide (hC hsp)
      unfold CaOK at HC
      rw [hh] at HC
      rw [hsp] at HSP
      rw [HU]
      clear HU hC hg hsg hw
      go_enter Tryz.func146, Tryz.ntmps146
      go_wp2_with (first
        | (go_at_call 77; refine (unhide HSP).mono ?_; rintro e W1 ⟨rfl, hb1⟩)
        | (go_at_call 160; refine (unhide HC _).mono ?_; rintro e W2 ⟨rfl, hb2⟩))
      go_ret2
      exact ⟨rfl, hb1.trans (hb2.mono hb1.size)⟩
/-- The word that a token comes to alone. -/
def siM (t : Gt) : Wd × Bool :=
  if t.kind == 1 then (if keyM t.s then (⟨1, t.s, 0, 0, [], 0⟩, true) else (⟨2, t.s, 0, 0, [], 0⟩, speltM t.s 1))
  else if t.kind == 2 then numW t.s
  else if t.kind == 3 then (⟨3, [], if (rdM t.s).2 then wrap64 (IntKind.i8.wrap (rdM t.s).1) else 0, 5, [], 0⟩, (rdM t.s).2)
  else if t.kind == 5 then (⟨5, t.s, 0, 0, [], 0⟩, signM t.s)
  else (zW, false)
/-- What strings.ContainsAny must tell of a token's text. -/
def TokOK (t : Gt) : Prop := t.s.length ≤ 140737488355320 ∧ (t.kind = 4 → speltM t.s 4 = true → CaOK t.s 13 10) ∧ (t.kind = 2 → (numM t.s).2 = true → t.s ≠ [] ∧ CaOK t.s 117 85 ∧ CaOK t.s 108 76)
theorem gt_box (w : World) (t : Gt) : (w.alloc (.cells (gtC t).toArray 115)).cell? ⟨w.heap.size, 0, none⟩ = some (.int .i64 t.kind) ∧ (w.alloc (.cells (gtC t).toArray 115)).cell? ⟨w.heap.size, 1, none⟩ = some (.string ⟨t.s.toArray⟩) := by
  have h := World.alloc_heap_new w (.cells (gtC t).toArray 115)
  refine ⟨?_, ?_⟩ <;> (rw [World.cell?, h]; rfl)
theorem sixw_drew {w : World} {R : Nat} {z0 z1 z2 z3 z4 z5 : Value} {ty : TypeId} (h : w.heap[R]? = some (.cells #[z0, z1, z2, z3, z4, z5] ty (0, 0))) (a0 a1 a2 a3 a4 a5 : Value) :
    (put6 w R a0 a1 a2 a3 a4 a5).drew.heap[R]? = some (.cells #[a0, a1, a2, a3, a4, a5] ty (0, 0)) := by
  have e : ∀ W : World, W.drew.heap = W.heap := fun _ => rfl
  rw [e]
  exact sixw_set h a0 a1 a2 a3 a4 a5
set_option maxRecDepth 100000 in
set_option maxHeartbeats 4000000 in
theorem single_any (t : Gt) (ht : TokOK t) (w : World) (hw : 10 < w.heap.size) (hg : Eg w) (hsg : Sg w) :
    Calls Tryz.prog 131 #[gtV t] w fun e w' => e = .returned (.tuple #[wdV (siM t).1, .bool (siM t).2]) ∧ Below w.heap.size w w' := by
  obtain ⟨k, s, f, line, sp, fi⟩ := t
  have hb0 : Below w.heap.size w ((w.alloc (.cells (gtC ⟨k, s, f, line, sp, fi⟩).toArray 115)).alloc (.cells (wdC zW).toArray 42)) := ((Below.refl _ w).alloc (Nat.le_refl _) _).alloc (by simp) _
  have hz0 : ((w.alloc (.cells (gtC ⟨k, s, f, line, sp, fi⟩).toArray 115)).alloc (.cells (wdC zW).toArray 42)).heap.size = w.heap.size + 2 := by simp
  obtain ⟨c0', c1'⟩ := gt_box w ⟨k, s, f, line, sp, fi⟩
  have c0 := ((below_new (w.alloc (.cells (gtC ⟨k, s, f, line, sp, fi⟩).toArray 115)) (.cells (wdC zW).toArray 42)).cell (p := ⟨w.heap.size, 0, none⟩) (by simp)).trans c0'
  have c1 := ((below_new (w.alloc (.cells (gtC ⟨k, s, f, line, sp, fi⟩).toArray 115)) (.cells (wdC zW).toArray 42)).cell (p := ⟨w.heap.size, 1, none⟩) (by simp)).trans c1'
  have b1 : WBox ((w.alloc (.cells (gtC ⟨k, s, f, line, sp, fi⟩).toArray 115)).alloc (.cells (wdC zW).toArray 42)) (w.heap.size + 1) zW := by
    have := WBox.new (w.alloc (.cells (gtC ⟨k, s, f, line, sp, fi⟩).toArray 115)) zW
    rwa [World.size_alloc] at this
  have hg0 := hg.below hb0 hw
  have hsg0 := Sg.below hsg hb0 hw
  obtain ⟨hl, h4, h2⟩ := ht
  simp only at hl h2
  clear c0' c1' hg hsg h4
  obtain ⟨R, hR⟩ : ∃ R, siM ⟨k, s, f, line, sp, fi⟩ = R := ⟨_, rfl⟩
  rw [hR]
  have HR := hide hR.symm
  unfold siM at HR
  simp only at HR
  clear hR
  simp only [gtV, gtC, wdC, zW] at *
  go_enter Tryz.func131, Tryz.ntmps131
  go_upto_region 1 with fail
  generalize ((w.alloc _).alloc _ : World) = W at *
  have HK := hide (IsKey_any s)
  have HSP := hide (spelt_any s 1 W (by omega) (by omega) hsg0)
  have HSI := hide (isSign_any s W (by omega) hsg0)
  have HN := hide (fun (h : k = 2) => number_any s (by omega) W (by omega) hg0 (h2 h))
  have HCH := hide (Char_any s (by omega) W (by omega) hg0)
  have HB := hide hb0
  have HW := hide b1
  clear hg0 h2
  simp only [charV] at *
  have z0 := WBox.frozen b1 0
  have z1 := WBox.frozen b1 1
  have z2 := WBox.frozen b1 2
  have z3 := WBox.frozen b1 3
  have z4 := WBox.frozen b1 4
  have z5 := WBox.frozen b1 5
  obtain ⟨y0, y1, y2, y3, y4, y5⟩ := WBox.six b1
  have hne : w.heap.size ≠ w.heap.size + 1 := by omega
  clear b1 hb0
  have hzW : w.heap.size + 2 = W.heap.size := hz0.symm
  have HSId := hide (isSign_any s W.drew (by omega) hsg0)
  have HSPd := hide (spelt_any s 1 W.drew (by omega) (by show 10 < W.heap.size; omega) hsg0)
  have HZ := hide hzW
  clear hsg0 hz0 hzW
  cases k1 : k == 1
  · cases k2 : k == 2
    · cases k3 : k == 3
      · cases k5 : k == 5
        · simp only [k1, k2, k3, k5, Bool.false_eq_true, if_false] at HR
          go_wp2
          refine bodyPost_ret (res_wt (f := Tryz.f131) rfl rfl (sixw_set (unhide HW) _ _ _ _ _ _) rfl) rfl ⟨by rw [unhide HR]; rfl, below_put6 (unhide HB) (by omega) _ _ _ _ _ _⟩
        · simp only [k1, k2, k3, k5, Bool.false_eq_true, if_false, if_true] at HR
          generalize signM s = SI at *
          go_upto_region 12 with fail
          go_region_with (go_at_call 78; refine (unhide HSId).mono ?_; rintro e w' ⟨rfl, hw'⟩; obtain rfl := hw'.symm)
          all_goals (
            go_wp2
            have hq := sixw_drew (unhide HW) (.int .i64 5) (.string ⟨s.toArray⟩) (.int .i64 0) (.int .i64 0) (.string ⟨#[]⟩) (.int .i64 0)
            have hqb := drewB (below_put6 (unhide HB) (by omega : w.heap.size ≤ w.heap.size + 1) (.int .i64 5) (.string ⟨s.toArray⟩) (.int .i64 0) (.int .i64 0) (.string ⟨#[]⟩) (.int .i64 0))
            unfold put6 at hq hqb
            generalize (((((((W.setCell _ _).setCell _ _).setCell _ _).setCell _ _).setCell _ _).setCell _ _).drew : World) = W9 at *
            refine bodyPost_ret (res_wt (f := Tryz.f131) rfl rfl hq rfl) rfl ⟨by rw [unhide HR]; rfl, hqb⟩)
      · simp only [k1, k2, k3, Bool.false_eq_true, if_false, if_true] at HR
        generalize rdM s = Z at *
        obtain ⟨z, ok⟩ := Z
        simp only at *
        cases ok
        · simp only [Bool.false_eq_true, if_false] at HCH HR
          go_upto_region 10 with (go_at_call 151; refine (unhide HCH).mono ?_; rintro e W1 ⟨rfl, hb1⟩)
          have q := (unhide HW).below hb1 (by have := unhide HZ; show w.heap.size + 1 < W.heap.size; omega)
          have qz0 := WBox.frozen q 0
          have qz1 := WBox.frozen q 1
          have qz2 := WBox.frozen q 2
          have qz3 := WBox.frozen q 3
          have qz4 := WBox.frozen q 4
          have qz5 := WBox.frozen q 5
          obtain ⟨q0, q1, q2, q3, q4, q5⟩ := WBox.six q
          have Q := hide q
          have QB := hide ((unhide HB).trans (hb1.mono (unhide HB).size))
          have c1x := (hb1.cell (p := ⟨w.heap.size, 1, none⟩) (by have := unhide HZ; show w.heap.size < W.heap.size; omega)).trans c1
          clear q hb1
          clear y0 y1 y2 y3 y4 y5 z0 z1 z2 z3 z4 z5 c0
          go_wp2
          refine bodyPost_ret (res_wt (f := Tryz.f131) rfl rfl (sixw_set (unhide Q) _ _ _ _ _ _) rfl) rfl ⟨by rw [unhide HR]; rfl, below_put6 (unhide QB) (by omega) _ _ _ _ _ _⟩
        · simp only [if_true] at HCH HR
          go_upto_region 10 with (go_at_call 151; refine (unhide HCH).mono ?_; rintro e W1 ⟨rfl, hb1⟩)
          have q := (unhide HW).below hb1 (by have := unhide HZ; show w.heap.size + 1 < W.heap.size; omega)
          have qz0 := WBox.frozen q 0
          have qz1 := WBox.frozen q 1
          have qz2 := WBox.frozen q 2
          have qz3 := WBox.frozen q 3
          have qz4 := WBox.frozen q 4
          have qz5 := WBox.frozen q 5
          obtain ⟨q0, q1, q2, q3, q4, q5⟩ := WBox.six q
          have Q := hide q
          have QB := hide ((unhide HB).trans (hb1.mono (unhide HB).size))
          have c1x := (hb1.cell (p := ⟨w.heap.size, 1, none⟩) (by have := unhide HZ; show w.heap.size < W.heap.size; omega)).trans c1
          clear q hb1
          clear y0 y1 y2 y3 y4 y5 z0 z1 z2 z3 z4 z5 c0
          go_wp2
          refine bodyPost_ret (res_wt (f := Tryz.f131) rfl rfl (sixw_set (unhide Q) _ _ _ _ _ _) rfl) rfl ⟨by rw [unhide HR]; rfl, below_put6 (unhide QB) (by omega) _ _ _ _ _ _⟩
    · simp only [k1, k2, Bool.false_eq_true, if_false, if_true] at HR
      have hk2 : k = 2 := by simpa using k2
      have HN2 := hide (unhide HN hk2)
      clear HN
      generalize numW s = Z at *
      obtain ⟨⟨nk, ns, nv, nt, nf, nl⟩, ok⟩ := Z
      simp only [wdV, wdC] at *
      have hk2' : (k == 2) = true := k2
      go_wp2_with (go_at_call 150; refine (unhide HN2).mono ?_; rintro e W1 ⟨rfl, hb1⟩; have q := (unhide HW).below hb1 (by have := unhide HZ; show w.heap.size + 1 < W.heap.size; omega); have qz0 := WBox.frozen q 0; have qz1 := WBox.frozen q 1; have qz2 := WBox.frozen q 2; have qz3 := WBox.frozen q 3; have qz4 := WBox.frozen q 4; have qz5 := WBox.frozen q 5; obtain ⟨q0, q1, q2, q3, q4, q5⟩ := WBox.six q; have Q := hide q; have QB := hide ((unhide HB).trans (hb1.mono (unhide HB).size)); have c1x := (hb1.cell (p := ⟨w.heap.size, 1, none⟩) (by have := unhide HZ; show w.heap.size < W.heap.size; omega)).trans c1; clear q hb1)
      refine bodyPost_ret (res_wt (f := Tryz.f131) rfl rfl (sixw_set (unhide Q) _ _ _ _ _ _) rfl) rfl ⟨by rw [unhide HR]; rfl, below_put6 (unhide QB) (by omega) _ _ _ _ _ _⟩
  · simp only [k1, if_true] at HR
    cases hke : keyM s
    · simp only [hke, Bool.false_eq_true, if_false] at HR HK
      generalize speltM s 1 = SP at *
      go_upto_region 5 with (go_at_call 76; refine (unhide HK _).mono ?_; rintro e w' ⟨rfl, hw'⟩; obtain rfl := hw'.symm)
      go_region_with (go_at_call 77; refine (unhide HSPd).mono ?_; rintro e W1 ⟨rfl, hb1⟩; have q := (show WBox W.drew _ _ from unhide HW).below hb1 (by have := unhide HZ; show w.heap.size + 1 < W.heap.size; omega); have qz0 := WBox.frozen q 0; have qz1 := WBox.frozen q 1; have qz2 := WBox.frozen q 2; have qz3 := WBox.frozen q 3; have qz4 := WBox.frozen q 4; have qz5 := WBox.frozen q 5; obtain ⟨q0, q1, q2, q3, q4, q5⟩ := WBox.six q; have Q := hide q; have QB := hide ((drewB (unhide HB)).trans (hb1.mono (drewB (unhide HB)).size)); have c1x := (hb1.cell (p := ⟨w.heap.size, 1, none⟩) (by have := unhide HZ; show w.heap.size < W.heap.size; omega)).trans (show W.drew.cell? ⟨w.heap.size, 1, none⟩ = _ from c1); clear q hb1)
      all_goals (
        go_wp2
        refine bodyPost_ret (res_wt (f := Tryz.f131) rfl rfl (sixw_set (unhide Q) _ _ _ _ _ _) rfl) rfl ⟨by rw [unhide HR]; rfl, below_put6 (unhide QB) (by omega) _ _ _ _ _ _⟩)
    · simp only [hke, if_true] at HR HK
      go_wp2_with (go_at_call 76; refine (unhide HK _).mono ?_; rintro e w' ⟨rfl, hw'⟩; obtain rfl := hw'.symm)
      refine bodyPost_ret (res_wt (f := Tryz.f131) rfl rfl (sixw_set (unhide HW) _ _ _ _ _ _) rfl) rfl ⟨by rw [unhide HR]; rfl, below_put6 (unhide HB) (by omega) _ _ _ _ _ _⟩
end Go.Proofs.YtmpkgjonbjpohaaGreatDoor
