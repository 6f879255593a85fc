/-
  burinlaw05.CondBrackets: the walk.
-/
import Derived.Test.YtfghfohlcofdpaaDoorHd
namespace Go.Proofs.YtfghfohlcofdpaaDoor
open Go Go.RowKit
set_option linter.unusedVariables false
set_option linter.unusedSimpArgs false

theorem inT_len (l : List Gt) : (inT l).length = l.length + 2 := by simp [inT]
theorem sgT_short (s : List UInt8) (h : s.length ≤ 10) : (sgT s).s.length ≤ 140737488355328 := by show s.length ≤ _; omega
/-- Eval of tokens that may be read. -/
theorem evalRg {B : Nat} {W : World} {p : Option Addr} {cap n : Nat} {l : List Gt} (hn : n = l.length) (hl : l.length ≤ 1000000) (hs : ∀ t ∈ l, t.s.length ≤ 140737488355328) (h : Rg B W p cap l) (hB : B ≤ W.heap.size) (hg : Gl W) :
    Calls Tryd.prog 15 #[.slice p n cap] W fun e w' => e = .returned (evalV (evM l)) ∧ Below W.heap.size W w' := by
  subst hn
  exact EvalT_any p cap l W hl hs (h.tk.mono hB) hg
theorem lit_row (W : World) (l : List Gt) (base : Nat) (hb : base ≤ W.heap.size) (hl : l.length ≤ 1000000) : (W.alloc (.cells (gCells l).toArray 35)).ownsRow base 35 6 (.slice (some ⟨W.heap.size, 0, none⟩) l.length l.length) l.length (gCells l) := by
  have := World.ownsRow_lit (e := 35) (size := 6) (base := base) W (gCells l).toArray l.length hb (by unfold maxLen; omega) (by simp [gCells_len])
  simpa using this
theorem lit_rg (W : World) (l : List Gt) (hl : l.length ≤ 1000000) : Rg (W.alloc (.cells (gCells l).toArray 35)).heap.size (W.alloc (.cells (gCells l).toArray 35)) (some ⟨W.heap.size, 0, none⟩) l.length l := by
  obtain ⟨p, cap, he, hr⟩ := Rg.of_row (lit_row W l W.heap.size (Nat.le_refl _) hl) rfl
  obtain ⟨rfl, rfl⟩ : some ⟨W.heap.size, 0, none⟩ = p ∧ l.length = cap := by simpa using he
  exact hr
theorem slice_to (s : List UInt8) (m : Nat) (W : World) : (Instr.slice 9 (.string ⟨s.toArray⟩) none (some (.int .i64 (min (s.length : Int) (m : Int)))) none).run Tryd.prog W = .ok (.string ⟨(s.take m).toArray⟩) W := by
  have hsz : (⟨s.toArray⟩ : ByteArray).size = s.length := by show s.toArray.size = _; simp
  rw [run_slice_string_to_if (P := Tryd.prog) (w := W) 9 _ .i64 _ Tryd.underlying9, if_pos (by rw [hsz]; omega), ext_list]
  have : (min (s.length : Int) (m : Int)).toNat = min s.length m := by omega
  rw [this, List.drop_zero]
  congr 4
  rcases Nat.le_total s.length m with h | h
  · rw [Nat.min_eq_left h, List.take_length, List.take_of_length_le h]
  · rw [Nat.min_eq_right h]
set_option maxRecDepth 100000 in
set_option maxHeartbeats 4000000 in
theorem brackets_walk (s : List UInt8) (hs : s.length ≤ 140737488355328) (w : World) (hg : Gl w) :
    Calls Tryd.prog 4 #[.string ⟨s.toArray⟩] w fun e w' => e = .returned (.bool true) ∧ Below w.heap.size w w' := by
  have HG := hide hg
  have HSH := hide (shown_any w hg)
  have HSI := hide (fun t W => sign_any t W)
  have hsz : (⟨s.toArray⟩ : ByteArray).size = s.length := by show s.toArray.size = _; simp
  have hsl : ∀ W : World, (Instr.slice 9 (.string ⟨s.toArray⟩) none (some (.int .i64 (min (s.length : Int) 1000))) none).run Tryd.prog W = .ok (.string ⟨(s.take 1000).toArray⟩) W := fun W => slice_to s 1000 W
  have hkb := lx_br (s.take 1000)
  have hLs : ∀ t ∈ lx (s.take 1000), t.s.length ≤ 140737488355328 := fun t ht => Nat.le_trans (lx_short (s.take 1000) t ht) (by simp; omega)
  have hLl : (lx (s.take 1000)).length ≤ 20000 := by have := Tk.lex_len [(1, s.take 1000)]; unfold lx; simpa using this
  have HLX := hide (fun W (hb : Below w.heap.size w W) => lexedR_any (s.take 1000) W (by simp; omega) (hg.next hb))
  generalize (⟨(s.take 1000).toArray⟩ : ByteArray) = S1 at *
  generalize lx (s.take 1000) = L at *
  have HK := hide hkb
  have HLS := hide hLs
  have HLL := hide hLl
  clear hkb hLs hg
  go_enter Tryd.func4, Tryd.ntmps4
  go_wp2_with fail
  refine (unhide HSH).mono ?_
  rintro e W1 ⟨rfl, hb1⟩
  have HB1 := hide hb1
  clear hb1 HSH
  go_wp2_with fail
  refine (unhide HLX _ (unhide HB1)).mono ?_
  rintro e W2 ⟨p, cap, rfl, hr, hb2⟩
  have HB2 := hide ((unhide HB1).trans (hb2.mono (unhide HB1).size))
  have HCL := hide (closed_any p cap L W2 (by omega) hr.tk)
  have HEV := hide (evalRg rfl (by omega) (unhide HLS) hr (Nat.le_refl _) ((unhide HG).next (unhide HB2)))
  have HR := hide hr
  clear hb2 HB1 HLX hsl hsz hr
  obtain ⟨cl, hcl⟩ : ∃ cl, clF 0 L = cl := ⟨_, rfl⟩
  rw [hcl] at HCL
  have HC := hide hcl
  clear hcl
  cases cl
  · go_wp2_with (go_at_call 14; refine (unhide HCL).mono ?_; rintro e w' ⟨rfl, hw'⟩; obtain rfl := hw'.symm)
    go_ret
    exact ⟨rfl, unhide HB2⟩
  · have h1 := br_plain L (unhide HC) (unhide HK)
    have h2 := br_minus L (unhide HC) (unhide HK)
    have h3 := br_tilde L (unhide HC) (unhide HK)
    obtain ⟨RV, hRV⟩ : ∃ RV, evalV (evM L) = RV := ⟨_, rfl⟩
    rw [hRV] at h1 h2 h3 HEV
    obtain ⟨ra, rb, rc, hrv⟩ : ∃ (ra : Int) (rb : Bool) (rc : Int), RV = .tuple #[.int .u64 ra, .bool rb, .int .i64 rc] := by
      rw [← hRV]; unfold evalV; split
      · exact ⟨_, _, _, rfl⟩
      · exact ⟨_, _, _, rfl⟩
    subst hrv
    have H1 := hide h1
    have H2 := hide h2
    have H3 := hide h3
    clear h1 h2 h3 hRV HC HK
    go_wp2_with (first
      | (go_at_call 14; refine (unhide HCL).mono ?_; rintro e w' ⟨rfl, hw'⟩; obtain rfl := hw'.symm)
      | fail)
    refine (unhide HEV).mono ?_
    rintro e W3 ⟨rfl, hb3⟩
    have HB3 := hide ((unhide HB2).trans (hb3.mono (unhide HB2).size))
    have HR3 := hide ((unhide HR).below hb3)
    have hz3 := hb3.size
    clear hb3 HEV HCL HR
    have HS40 := hide (fun W => unhide HSI [40] W)
    have HS41 := hide (fun W => unhide HSI [41] W)
    have HS45 := hide (fun W => unhide HSI [45] W)
    have HS126 := hide (fun W => unhide HSI [126] W)
    have HS43 := hide (fun W => unhide HSI [43] W)
    simp only [sgT, Gt.v] at HS40 HS41 HS45 HS126 HS43
    clear HSI
    go_wp2_with fail
    refine (unhide HS40 _).mono ?_
    rintro e W4 ⟨rfl, hb4⟩
    have HR4 := hide ((unhide HR3).below (hb4.mono hz3))
    have HB4 := hide ((unhide HB3).trans (hb4.mono (unhide HB3).size))
    have hz4 := hb4.size
    have hw4 : w.heap.size ≤ W4.heap.size := (unhide HB4).size
    clear hb4 HR3 HB3 HS40
    have HLI := hide (lit_row W4 [sgT [40]] W4.heap.size (Nat.le_refl _) (by decide))
    have hbl := below_new W4 (.cells (gCells [sgT [40]]).toArray 35)
    have HRL := hide ((unhide HR4).below (hbl.mono (Nat.le_trans hz3 hz4)))
    have HBL := hide ((unhide HB4).trans (hbl.mono (unhide HB4).size))
    have HZL : Hid (W4.heap.size ≤ (W4.alloc (.cells (gCells [sgT [40]]).toArray 35)).heap.size) := hbl.size
    clear hbl
    go_wp2_with (at_builtin; refine wpList_append_tk _ rfl _ _ rfl W4.heap.size _ [sgT [40]] rfl (unhide HLI) p cap _ L rfl rfl _ (unhide HRL) (by simp; omega) (unhide HZL) ?_; intro v5 W5 hrow5 hb5)
    have HR5 := hide hrow5
    have HB5 := hide ((unhide HBL).trans (hb5.mono (unhide HB4).size))
    have hz5 : W4.heap.size ≤ W5.heap.size := Nat.le_trans (unhide HZL) hb5.size
    clear hrow5 hb5 HLI HRL HBL HZL HR4 HB4
    go_wp2_with fail
    refine (unhide HS41 _).mono ?_
    rintro e W6 ⟨rfl, hb6⟩
    have hr6 := (ownsRow_bel (unhide HR5) hb6).alloc (.cells (gCells [sgT [41]]).toArray 35)
    have HR6 := hide hr6
    have HB6 := hide ((unhide HB5).trans (hb6.mono (unhide HB5).size))
    have hz6 : W4.heap.size ≤ W6.heap.size := Nat.le_trans hz5 hb6.size
    have hbl := below_new W6 (.cells (gCells [sgT [41]]).toArray 35)
    have HBL := hide ((unhide HB6).trans (hbl.mono (unhide HB6).size))
    have HLR := hide (lit_rg W6 [sgT [41]] (by decide))
    have HZL : Hid (W4.heap.size ≤ (W6.alloc (.cells (gCells [sgT [41]]).toArray 35)).heap.size) := Nat.le_trans hz6 hbl.size
    clear hb6 HR5 HB5 HS41 hbl hr6
    go_wp2_with (at_builtin; refine wpList_append_tk _ rfl _ _ rfl W4.heap.size _ ([sgT [40]] ++ L) rfl (unhide HR6) (some ⟨W6.heap.size, 0, none⟩) 1 _ [sgT [41]] rfl rfl _ (unhide HLR) (by simp; omega) (unhide HZL) ?_; intro v8 W8 hrow8 hb8)
    obtain ⟨p8, cap8, rfl, hr8⟩ := Rg.of_row (l := inT L) hrow8 rfl
    have HB8 := hide ((unhide HBL).trans (hb8.mono hw4))
    have hil : (inT L).length ≤ 30000 := by rw [inT_len]; omega
    have his : ∀ t ∈ inT L, t.s.length ≤ 140737488355328 := fun t ht => by
      rcases List.mem_cons.1 ht with rfl | ht
      · decide
      · rcases List.mem_append.1 ht with ht | ht
        · exact unhide HLS t ht
        · obtain rfl := List.mem_singleton.1 ht
          decide
    have HIS := hide his
    have HIL := hide hil
    have HE8 := hide (evalRg rfl (by omega) his hr8 (Nat.le_refl _) ((unhide HG).next (unhide HB8)))
    rw [unhide H1] at HE8
    have HR8 := hide hr8
    generalize inT L = I at *
    have hIl : I.length ≤ 30000 := hil
    clear hrow8 hb8 HBL HLR HZL HR6 HB6 H1 hr8 his hil hz3 hz4 hz5 hz6
    go_wp2_with fail
    refine (unhide HE8).mono ?_
    rintro e W9 ⟨rfl, hb9⟩
    have HR9 := hide ((unhide HR8).below hb9)
    have HB9 := hide ((unhide HB8).trans (hb9.mono (unhide HB8).size))
    have hz9 := hb9.size
    clear hb9 HE8 HR8 HB8
    go_wp2_with fail
    refine (unhide HS45 _).mono ?_
    rintro e Wa ⟨rfl, hba⟩
    have HRa := hide ((unhide HR9).below (hba.mono hz9))
    have HBa := hide ((unhide HB9).trans (hba.mono (unhide HB9).size))
    have hza := Nat.le_trans hz9 hba.size
    clear hba HR9 HB9 hz9
    go_wp2_with fail
    refine (unhide HS45 _).mono ?_
    rintro e Wb ⟨rfl, hbb⟩
    have HRb := hide ((unhide HRa).below (hbb.mono hza))
    have HBb := hide ((unhide HBa).trans (hbb.mono (unhide HBa).size))
    have hzb := Nat.le_trans hza hbb.size
    have hwb : w.heap.size ≤ Wb.heap.size := (unhide HBb).size
    clear hbb HRa HBa hza HS45
    have HLI := hide (lit_row Wb [sgT [45], sgT [45]] Wb.heap.size (Nat.le_refl _) (by decide))
    have hbl := below_new Wb (.cells (gCells [sgT [45], sgT [45]]).toArray 35)
    have HRL := hide ((unhide HRb).below (hbl.mono hzb))
    have HBL := hide ((unhide HBb).trans (hbl.mono (unhide HBb).size))
    have HZL : Hid (Wb.heap.size ≤ (Wb.alloc (.cells (gCells [sgT [45], sgT [45]]).toArray 35)).heap.size) := hbl.size
    clear hbl
    have hI2 : 2 + I.length ≤ 1000000 := by omega
    go_wp2_with (at_builtin; refine wpList_append_tk _ rfl _ _ rfl Wb.heap.size _ [sgT [45], sgT [45]] rfl (unhide HLI) p8 cap8 _ I rfl rfl _ (unhide HRL) hI2 (unhide HZL) ?_; intro vc Wc hrowc hbc)
    obtain ⟨pc, capc, rfl, hrc⟩ := Rg.of_row (l := [sgT [45], sgT [45]] ++ I) hrowc rfl
    have HBc := hide ((unhide HBL).trans (hbc.mono hwb))
    have HRc := hide ((unhide HRL).below (hbc.mono hzb))
    have hzc : W8.heap.size ≤ Wc.heap.size := Nat.le_trans hzb (Nat.le_trans (unhide HZL) hbc.size)
    have HEc := hide (evalRg (n := ([sgT [45], sgT [45]] ++ I).length) rfl (by simp; omega) (fun t ht => by
      rcases List.mem_append.1 ht with ht | ht
      · simp at ht; rw [ht]; decide
      · exact unhide HIS t ht) hrc (Nat.le_refl _) ((unhide HG).next (unhide HBc)))
    rw [unhide H2] at HEc
    generalize ([sgT [45], sgT [45]] ++ I).length = nc at *
    clear hrowc hbc HLI HRL HBL HZL HRb HBb H2 hrc hzb hI2
    go_wp2_with fail
    refine (unhide HEc).mono ?_
    rintro e Wd ⟨rfl, hbd⟩
    have HRd := hide ((unhide HRc).below (hbd.mono hzc))
    have HBd := hide ((unhide HBc).trans (hbd.mono (unhide HBc).size))
    have hzd := Nat.le_trans hzc hbd.size
    clear hbd HEc HRc HBc hzc
    go_wp2_with fail
    refine (unhide HS126 _).mono ?_
    rintro e We ⟨rfl, hbe⟩
    have HRe := hide ((unhide HRd).below (hbe.mono hzd))
    have HBe := hide ((unhide HBd).trans (hbe.mono (unhide HBd).size))
    have hze := Nat.le_trans hzd hbe.size
    clear hbe HRd HBd hzd
    go_wp2_with fail
    refine (unhide HS43 _).mono ?_
    rintro e Wf ⟨rfl, hbf⟩
    have HRf := hide ((unhide HRe).below (hbf.mono hze))
    have HBf := hide ((unhide HBe).trans (hbf.mono (unhide HBe).size))
    have hzf := Nat.le_trans hze hbf.size
    clear hbf HRe HBe hze HS43
    go_wp2_with fail
    refine (unhide HS126 _).mono ?_
    rintro e Wg ⟨rfl, hbg⟩
    have HRg := hide ((unhide HRf).below (hbg.mono hzf))
    have HBg := hide ((unhide HBf).trans (hbg.mono (unhide HBf).size))
    have hzg := Nat.le_trans hzf hbg.size
    have hwg : w.heap.size ≤ Wg.heap.size := (unhide HBg).size
    clear hbg HRf HBf hzf HS126
    have HLI := hide (lit_row Wg [sgT [126], sgT [43], sgT [126]] Wg.heap.size (Nat.le_refl _) (by decide))
    have hbl := below_new Wg (.cells (gCells [sgT [126], sgT [43], sgT [126]]).toArray 35)
    have HRL := hide ((unhide HRg).below (hbl.mono hzg))
    have HBL := hide ((unhide HBg).trans (hbl.mono (unhide HBg).size))
    have HZL : Hid (Wg.heap.size ≤ (Wg.alloc (.cells (gCells [sgT [126], sgT [43], sgT [126]]).toArray 35)).heap.size) := hbl.size
    clear hbl
    have hI3 : 3 + I.length ≤ 1000000 := by omega
    go_wp2_with (at_builtin; refine wpList_append_tk _ rfl _ _ rfl Wg.heap.size _ [sgT [126], sgT [43], sgT [126]] rfl (unhide HLI) p8 cap8 _ I rfl rfl _ (unhide HRL) hI3 (unhide HZL) ?_; intro vh Wh hrowh hbh)
    obtain ⟨ph, caph, rfl, hrh⟩ := Rg.of_row (l := [sgT [126], sgT [43], sgT [126]] ++ I) hrowh rfl
    have HBh := hide ((unhide HBL).trans (hbh.mono hwg))
    have HEh := hide (evalRg (n := ([sgT [126], sgT [43], sgT [126]] ++ I).length) rfl (by simp; omega) (fun t ht => by
      rcases List.mem_append.1 ht with ht | ht
      · simp at ht; rcases ht with rfl | rfl | rfl <;> decide
      · exact unhide HIS t ht) hrh (Nat.le_refl _) ((unhide HG).next (unhide HBh)))
    rw [unhide H3] at HEh
    generalize ([sgT [126], sgT [43], sgT [126]] ++ I).length = nh at *
    clear hrowh hbh HLI HRL HBL HZL HRg HBg H3 hrh hzg hI3
    go_wp2_with fail
    refine (unhide HEh).mono ?_
    rintro e Wi ⟨rfl, hbi⟩
    have HBi := hide ((unhide HBh).trans (hbi.mono (unhide HBh).size))
    clear hbi HEh HBh
    go_wp2
    go_ret
    exact ⟨by first | rfl | simp, unhide HBi⟩
end Go.Proofs.YtfghfohlcofdpaaDoor
