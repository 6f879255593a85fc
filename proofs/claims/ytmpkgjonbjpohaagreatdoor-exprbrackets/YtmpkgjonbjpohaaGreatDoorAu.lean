/-
  ExprBrackets: its walk.
-/
import Derived.Test.YtmpkgjonbjpohaaGreatDoorAi
namespace Go.Proofs.YtmpkgjonbjpohaaGreatDoor
open Go Go.RowKit
set_option linter.unusedVariables false
set_option linter.unusedSimpArgs false

theorem infoWd : (Tryz.prog.info? 42).map (fun i => (i.zero, i.size, i.bytes)) = some (some (.agg #[.int .i64 0, .string ⟨#[]⟩, .int .i64 0, .int .i64 0, .string ⟨#[]⟩, .int .i64 0]), 6, 64) := by kernel_rfl
theorem WdG.takeX {B : Nat} {W : World} {p : Option Addr} {cap : Nat} {l : List Wd} (h : WdG B W (.slice p l.length cap) l) (n : Nat) (hn : n ≤ l.length) : WdG B W (.slice p (l.take n).length cap) (l.take n) := by
  obtain ⟨p', cap', he, hc⟩ := h
  obtain ⟨rfl, rfl⟩ : p = p' ∧ cap = cap' := by simpa using he
  refine ⟨p, cap, rfl, fun i hi => ?_⟩
  have hi' : i < n := by simp at hi; omega
  obtain ⟨g, o, hg, hr⟩ := hc i (by omega)
  refine ⟨g, o, hg, ?_⟩
  rw [List.getElem_take]
  exact hr
set_option maxRecDepth 100000 in
set_option maxHeartbeats 16000000 in
theorem brackets_walk (p : Option Addr) (cap : Nat) (L : List Wd) (w : World) (hcap : L.length ≤ cap) (hcm : cap ≤ maxLen) (hpn : p = none → cap = 0) (hv : WdG w.heap.size w (.slice p L.length cap) L) (hs : ∀ x ∈ L, x.s.length ≤ 140737488355328) (hgl : Gl w) (hop : Ops w) (hmo : Mo w) (hgm : 10 < w.heap.size) :
    Calls Tryz.prog 7 #[.slice p L.length cap] w fun e w' => e = .returned (.bool true) ∧ Below w.heap.size w w' := by
  have HSH := veil (shown13_any w hgl hop hmo hgm)
  have HPA : Hid (∀ v W ws, Below w.heap.size w W → WdG W.heap.size W v ws → ws.length ≤ 5000 → (∀ y ∈ ws, y.s.length ≤ 140737488355328) → Calls Tryz.prog 19 #[v, .int .i64 0] W (PaR W ws 0)) := fun v W ws hb hW hl hws =>
    Parse_any W v ws 0 hW (hgl.below hb hgm) (hop.below hb (by have := hgl.size; show 0 < _; omega)) (hmo.below hb hgm) (Nat.lt_of_lt_of_le hgm hb.size) hl hws (Nat.zero_le _)
  obtain ⟨i1, hi1, zw, sw, bw⟩ := info_parts infoWd
  have hcm' : cap ≤ 9223372036854775807 := hcm
  have HM : Hid (∃ n : Nat, min (L.length : Int) 500 = (n : Int) ∧ (n : Int) ≤ (cap : Int) ∧ n ≤ L.length ∧ n ≤ 500) := by
    by_cases h : L.length ≤ 500
    · exact ⟨L.length, by omega, by omega, Nat.le_refl _, h⟩
    · exact ⟨500, by omega, by omega, by omega, by omega⟩
  obtain ⟨n, hmin, hnc, hnl, hn1⟩ := unveil HM
  clear HM
  have hT := hv.takeX n hnl
  have hln : (L.take n).length = n := by simp; omega
  have hsl : ∀ t ∈ L.take n, t.s.length ≤ 140737488355328 := fun t ht => hs t (List.mem_of_mem_take ht)
  generalize L.take n = ws at *
  have HP1 : Hid (∀ W, Below w.heap.size w W → Calls Tryz.prog 19 #[.slice p n cap, .int .i64 0] W (PaR W ws 0)) := fun W hb => by
    have := unveil HPA (.slice p ws.length cap) W ws hb ((hT.below hb).mono hb.size) (by omega) hsl
    rw [hln] at this
    exact this
  have HSW : Hid (∀ W, Below w.heap.size w W → Src W (.slice p n cap) n (wdCells ws)) := fun W hb => by
    have := src_wd (hT.below hb) hpn
    rw [hln] at this; exact this
  have HT := veil hT
  have HLN := veil hln
  have HSL := veil hsl
  have HGL := veil hgl
  clear hT hgl hop hmo hv hs hsl hln hcm hpn hcap
  have hn0 : (0 : Int) ≤ (n : Int) := by omega
  go_enter Tryz.func7, Tryz.ntmps7
  go_wp2_with fail
  refine (unveil HSH).mono ?_
  rintro e W1 ⟨rfl, hb1⟩
  have HB1 := veil hb1
  have HPC := veil (unveil HP1 W1 hb1)
  clear hb1 HSH HP1
  go_wp2_with fail
  refine (unveil HPC).mono ?_
  rintro e W2 ⟨f, o, x, p1, cr, X, at', er, ln, q, c, hg, hPT, rfl, hk', hb2⟩
  have hk : Kids W2 (fun _ => True) X q := hk'.mono (fun _ _ _ => trivial)
  clear hk'
  have HB2 := veil ((unveil HB1).trans (hb2.mono (unveil HB1).size))
  have HG := veil hg
  have HK := veil hk
  clear hg hk hb2 HPC HB1
  cases hPT with
  | bad =>
    simp only [exC, PE.is, PE.op, PE.k, PE.v, PE.nm, PE.l, PE.line]
    go_wp2
    go_ret
    exact ⟨rfl, (unveil HB2).alloc (unveil HB2).size _⟩
  | deep =>
    simp only [exC, PE.is, PE.op, PE.k, PE.v, PE.nm, PE.l, PE.line]
    go_wp2
    go_ret
    exact ⟨rfl, (unveil HB2).alloc (unveil HB2).size _⟩
  | crowd =>
    simp only [exC, PE.is, PE.op, PE.k, PE.v, PE.nm, PE.l, PE.line]
    go_wp2
    go_ret
    exact ⟨rfl, (unveil HB2).alloc (unveil HB2).size _⟩
  | good _ _ hdp =>
    have HDP := veil hdp
    clear hdp
    obtain ⟨x0, x1, x2, x3, x4, x5, x6⟩ := x
    simp only [exC, PE.is, PE.op, PE.k, PE.v, PE.nm, PE.l, PE.line]
    by_cases hpn : p1 = n
    · subst hpn
      obtain ⟨⟨f1, hg1⟩, ⟨f2, hg2⟩, hk0⟩ := brk_facts (by rw [unveil HLN]; exact unveil HG)
      rw [unveil HLN] at hg1 hg2
      have HP2 : Hid (∀ v W base, Below w.heap.size w W → W.ownsRow base 42 6 v (1 + p1 + 1) (wdCells [opnW] ++ wdCells ws ++ wdCells [clsW]) → Calls Tryz.prog 19 #[v, .int .i64 0] W fun e w' => ∃ q c, e = .returned (.tuple #[.agg #[.int .i64 x0, .int .i64 x1, .int .i64 x2, .int .i64 x3, .string ⟨x4.toArray⟩, .slice q x5.length c, .int .i64 x6], .int .i64 ((p1 : Int) + 2), .int .i64 0, .int .i64 0]) ∧ Kids w' (fun _ => True) (.mk x0 x1 x2 x3 x4 x5 x6) q ∧ Below W.heap.size W w') := fun v W base hb hr => by
        rw [← wdCells_app, ← wdCells_app] at hr
        have hlen : ([opnW] ++ ws ++ [clsW]).length = 1 + p1 + 1 := by have := unveil HLN; simp; omega
        refine (unveil HPA v W ([opnW] ++ ws ++ [clsW]) hb (WdG.of hr hlen.symm) (by omega) (fun y hy => ?_)).mono ?_
        · rcases List.mem_append.1 hy with h | h
          · rcases List.mem_append.1 h with h | h
            · obtain rfl : y = opnW := by simpa using h
              decide
            · exact unveil HSL y h
          · obtain rfl : y = clsW := by simpa using h
            decide
        · intro e w' h
          obtain ⟨q, c, h1, h2, h3⟩ := h.good hg1 (unveil HDP)
          exact ⟨q, c, h1, h2.mono (fun _ _ _ => trivial), h3⟩
      have HP3 : Hid (∀ v W base, Below w.heap.size w W → W.ownsRow base 42 6 v (2 + (1 + p1 + 1 + 1)) (wdCells [opnW, plsW] ++ (wdCells [opnW] ++ wdCells ws ++ wdCells [clsW] ++ wdCells [clsW])) → Calls Tryz.prog 19 #[v, .int .i64 0] W fun e w' => ∃ q c, e = .returned (.tuple #[.agg #[.int .i64 x0, .int .i64 x1, .int .i64 x2, .int .i64 x3, .string ⟨x4.toArray⟩, .slice q x5.length c, .int .i64 x6], .int .i64 ((p1 : Int) + 5), .int .i64 0, .int .i64 0]) ∧ Kids w' (fun g => W.heap.size ≤ g) (.mk x0 x1 x2 x3 x4 x5 x6) q ∧ Below W.heap.size W w') := fun v W base hb hr => by
        rw [← wdCells_app, ← wdCells_app, ← wdCells_app, ← wdCells_app] at hr
        have hlen : ([opnW, plsW] ++ ([opnW] ++ ws ++ [clsW] ++ [clsW])).length = 2 + (1 + p1 + 1 + 1) := by have := unveil HLN; simp; omega
        refine (unveil HPA v W ([opnW, plsW] ++ ([opnW] ++ ws ++ [clsW] ++ [clsW])) hb (WdG.of hr hlen.symm) (by omega) (fun y hy => ?_)).mono ?_
        · simp only [List.mem_append, List.mem_cons, List.not_mem_nil, or_false] at hy
          rcases hy with (rfl | rfl) | (((rfl | h) | rfl) | rfl)
          · decide
          · decide
          · decide
          · exact unveil HSL y h
          · decide
          · decide
        · intro e w' h
          exact h.good hg2 (unveil HDP)
      have HK0 := veil hk0
      have HSM : Hid (SmP w (.mk x0 x1 x2 x3 x4 x5 x6) (.mk x0 x1 x2 x3 x4 x5 x6)) := Same_any _ _ w (exp_ln (unveil HG) (by omega))
      clear hg1 hg2 hk0 HPA HG HDP
      go_upto_region 7 with fail
      have HE3 : Hid (Bk ((W2.alloc (.cells #[.int .i64 x0, .int .i64 x1, .int .i64 x2, .int .i64 x3, .string ⟨x4.toArray⟩, .slice q x5.length c, .int .i64 x6] 24)).alloc (.cells #[.int .i64 5, .string ⟨#[40]⟩, .int .i64 0, .int .i64 0, .string ⟨#[]⟩, .int .i64 0] 42)) W2.heap.size 24 (exC (.mk x0 x1 x2 x3 x4 x5 x6) q c)) := (Bk.new W2 _ _).alloc _
      have HO3 : Hid (Bk ((W2.alloc (.cells #[.int .i64 x0, .int .i64 x1, .int .i64 x2, .int .i64 x3, .string ⟨x4.toArray⟩, .slice q x5.length c, .int .i64 x6] 24)).alloc (.cells #[.int .i64 5, .string ⟨#[40]⟩, .int .i64 0, .int .i64 0, .string ⟨#[]⟩, .int .i64 0] 42)) (W2.heap.size + 1) 42 #[.int .i64 5, .string ⟨#[40]⟩, .int .i64 0, .int .i64 0, .string ⟨#[]⟩, .int .i64 0]) := by
        have := Bk.new (W2.alloc (.cells #[.int .i64 x0, .int .i64 x1, .int .i64 x2, .int .i64 x3, .string ⟨x4.toArray⟩, .slice q x5.length c, .int .i64 x6] 24)) 42 #[.int .i64 5, .string ⟨#[40]⟩, .int .i64 0, .int .i64 0, .string ⟨#[]⟩, .int .i64 0]
        rw [World.size_alloc] at this
        exact this
      have hb23 : Below W2.heap.size W2 ((W2.alloc (.cells #[.int .i64 x0, .int .i64 x1, .int .i64 x2, .int .i64 x3, .string ⟨x4.toArray⟩, .slice q x5.length c, .int .i64 x6] 24)).alloc (.cells #[.int .i64 5, .string ⟨#[40]⟩, .int .i64 0, .int .i64 0, .string ⟨#[]⟩, .int .i64 0] 42)) := ((Below.refl _ W2).alloc (Nat.le_refl _) _).alloc (by simp) _
      have HK3 : Hid (Kids ((W2.alloc (.cells #[.int .i64 x0, .int .i64 x1, .int .i64 x2, .int .i64 x3, .string ⟨x4.toArray⟩, .slice q x5.length c, .int .i64 x6] 24)).alloc (.cells #[.int .i64 5, .string ⟨#[40]⟩, .int .i64 0, .int .i64 0, .string ⟨#[]⟩, .int .i64 0] 42)) (fun _ => True) (.mk x0 x1 x2 x3 x4 x5 x6) q) := (unveil HK).below hb23
      have HB3 : Hid (Below w.heap.size w ((W2.alloc (.cells #[.int .i64 x0, .int .i64 x1, .int .i64 x2, .int .i64 x3, .string ⟨x4.toArray⟩, .slice q x5.length c, .int .i64 x6] 24)).alloc (.cells #[.int .i64 5, .string ⟨#[40]⟩, .int .i64 0, .int .i64 0, .string ⟨#[]⟩, .int .i64 0] 42))) := (unveil HB2).trans (hb23.mono (unveil HB2).size)
      clear hb23 HK HB2
      generalize ((W2.alloc (.cells #[.int .i64 x0, .int .i64 x1, .int .i64 x2, .int .i64 x3, .string ⟨x4.toArray⟩, .slice q x5.length c, .int .i64 x6] 24)).alloc (.cells #[.int .i64 5, .string ⟨#[40]⟩, .int .i64 0, .int .i64 0, .string ⟨#[]⟩, .int .i64 0] 42)) = W3 at *
      generalize W2.heap.size = E at *
      have hb4 : Below W3.heap.size W3 (W3.alloc (.cells #[.int .i64 5, .string ⟨#[40]⟩, .int .i64 0, .int .i64 0, .string ⟨#[]⟩, .int .i64 0] 42)) := (Below.refl _ W3).alloc (Nat.le_refl _) _
      have hr4 : (W3.alloc (.cells #[.int .i64 5, .string ⟨#[40]⟩, .int .i64 0, .int .i64 0, .string ⟨#[]⟩, .int .i64 0] 42)).ownsRow W3.heap.size 42 6 (.slice (some ⟨W3.heap.size, 0, none⟩) 1 1) 1 (wdCells [opnW]) := own_new (Bk.new W3 _ _) rfl rfl (Nat.le_refl _) (by decide)
      have hs4 : Src (W3.alloc (.cells #[.int .i64 5, .string ⟨#[40]⟩, .int .i64 0, .int .i64 0, .string ⟨#[]⟩, .int .i64 0] 42)) (.slice p p1 cap) p1 (wdCells ws) := unveil HSW _ ((unveil HB3).trans (hb4.mono (unveil HB3).size))
      have hz4 : W3.heap.size ≤ (W3.alloc (.cells #[.int .i64 5, .string ⟨#[40]⟩, .int .i64 0, .int .i64 0, .string ⟨#[]⟩, .int .i64 0] 42)).heap.size := hb4.size
      have hf4 : FrW W3.heap.size W3 (W3.alloc (.cells #[.int .i64 5, .string ⟨#[40]⟩, .int .i64 0, .int .i64 0, .string ⟨#[]⟩, .int .i64 0] 42)) := (FrW.refl _ W3).below hb4 (Nat.le_refl _)
      have o0 := (unveil HO3).cell 0
      have o1 := (unveil HO3).cell 1
      have o2 := (unveil HO3).cell 2
      have o3 := (unveil HO3).cell 3
      have o4 := (unveil HO3).cell 4
      have o5 := (unveil HO3).cell 5
      simp only [List.getElem?_toArray, List.getElem?_cons_zero, List.getElem?_cons_succ] at o0 o1 o2 o3 o4 o5
      have hol := (unveil HO3).lt
      go_upto_region 8 with (first
        | (at_builtin; refine append_src _ rfl _ _ 26 rfl W3.heap.size 42 i1 _ 64 Tryz.underlying26 hi1 zw sw bw rfl _ _ _ rfl hr4 _ _ _ rfl hs4 (by unfold maxLen; omega) (by omega) hz4 ?_; intro v5 W5 hown5 hgrow5; have hf5 := hf4.growX hr4 hgrow5 hz4; have hz5 : W3.heap.size ≤ W5.heap.size := Nat.le_trans hz4 hgrow5.size; have hb56 : Below W5.heap.size W5 (W5.alloc (.cells #[.int .i64 5, .string ⟨#[41]⟩, .int .i64 0, .int .i64 0, .string ⟨#[]⟩, .int .i64 0] 42)) := (Below.refl _ W5).alloc (Nat.le_refl _) _; have hr6 := row_below' hown5 hb56; have hs6 : Src (W5.alloc (.cells #[.int .i64 5, .string ⟨#[41]⟩, .int .i64 0, .int .i64 0, .string ⟨#[]⟩, .int .i64 0] 42)) (.slice (some ⟨W5.heap.size, 0, none⟩) 1 1) 1 (wdCells [clsW]) := src_row (own_new (base := 0) (Bk.new W5 _ _) rfl rfl (Nat.zero_le _) (by decide)) (wd_one _); have hf6 := hf5.below hb56 hz5; have hz6 : W3.heap.size ≤ (W5.alloc (.cells #[.int .i64 5, .string ⟨#[41]⟩, .int .i64 0, .int .i64 0, .string ⟨#[]⟩, .int .i64 0] 42)).heap.size := Nat.le_trans hz5 hb56.size; clear hr4 hs4 hf4 hz4 hb4 hown5 hgrow5 hf5 hb56)
        | (at_builtin; refine append_src _ rfl _ _ 26 rfl W3.heap.size 42 i1 _ 64 Tryz.underlying26 hi1 zw sw bw rfl _ _ _ rfl hr6 _ _ _ rfl hs6 (by unfold maxLen; omega) (by omega) hz6 ?_; intro v7 W7 hown7 hgrow7; have hf7 := hf6.growX hr6 hgrow7 hz6; have hz7 : W3.heap.size ≤ W7.heap.size := Nat.le_trans hz6 hgrow7.size; clear hr6 hs6 hf6 hz6 hgrow7))
      clear o0 o1 o2 o3 o4 o5 hol
      obtain ⟨g7, c7, rfl⟩ := ownsRow_succX (n := 1 + p1) hown7
      have hb7 : Below w.heap.size w W7 := (unveil HB3).trans (hf7.be.mono (unveil HB3).size)
      have HC7 := veil (unveil HP2 _ W7 W3.heap.size hb7 hown7)
      have HV7 := veil hown7
      have HF7 := veil hf7
      have HZ7 := veil hz7
      clear HP2 hb7 hown7 hf7 hz7
      go_upto_region 9 with (go_at_call 19; refine (unveil HC7).mono ?_; rintro e W8 ⟨q2, c2, rfl, hk8, hb8⟩; have HK8 := veil hk8; have HB8 := veil hb8; clear hk8 hb8 HC7)
      have hb89 : Below W8.heap.size W8 (W8.alloc (.cells #[.int .i64 x0, .int .i64 x1, .int .i64 x2, .int .i64 x3, .string ⟨x4.toArray⟩, .slice q2 x5.length c2, .int .i64 x6] 24)) := (Below.refl _ W8).alloc (Nat.le_refl _) _
      have hb79 : Below W7.heap.size W7 (W8.alloc (.cells #[.int .i64 x0, .int .i64 x1, .int .i64 x2, .int .i64 x3, .string ⟨x4.toArray⟩, .slice q2 x5.length c2, .int .i64 x6] 24)) := (unveil HB8).trans (hb89.mono (unveil HB8).size)
      have HE9 : Hid (Bk (W8.alloc (.cells #[.int .i64 x0, .int .i64 x1, .int .i64 x2, .int .i64 x3, .string ⟨x4.toArray⟩, .slice q2 x5.length c2, .int .i64 x6] 24)) W8.heap.size 24 (exC (.mk x0 x1 x2 x3 x4 x5 x6) q2 c2)) := Bk.new W8 _ _
      have HK9 : Hid (Kids (W8.alloc (.cells #[.int .i64 x0, .int .i64 x1, .int .i64 x2, .int .i64 x3, .string ⟨x4.toArray⟩, .slice q2 x5.length c2, .int .i64 x6] 24)) (fun _ => True) (.mk x0 x1 x2 x3 x4 x5 x6) q2) := (unveil HK8).below hb89
      have HV9 := veil (row_below' (unveil HV7) hb79)
      have HF9 := veil ((unveil HF7).below hb79 (unveil HZ7))
      have HZ9 : Hid (W3.heap.size ≤ (W8.alloc (.cells #[.int .i64 x0, .int .i64 x1, .int .i64 x2, .int .i64 x3, .string ⟨x4.toArray⟩, .slice q2 x5.length c2, .int .i64 x6] 24)).heap.size) := Nat.le_trans (unveil HZ7) hb79.size
      clear hb89 hb79 HK8 HB8 HV7 HF7 HZ7
      generalize (W8.alloc (.cells #[.int .i64 x0, .int .i64 x1, .int .i64 x2, .int .i64 x3, .string ⟨x4.toArray⟩, .slice q2 x5.length c2, .int .i64 x6] 24)) = W9 at *
      generalize W8.heap.size = E2 at *
      go_cut [14, 15, 16, 17] from 55 to 74 (fun v14 v15 v16 v17 wx => ∃ (bZ : Nat) (q3 : Option Addr) (c3 : Nat), v14 = .pointer (some ⟨bZ, 0, none⟩) ∧ v15 = .int .i64 ((p1 : Int) + 5) ∧ v16 = .int .i64 0 ∧ v17 = .int .i64 0 ∧ Hid (FrW W3.heap.size W9 wx) ∧ Hid (Bk wx bZ 24 (exC (.mk x0 x1 x2 x3 x4 x5 x6) q3 c3)) ∧ Hid (Kids wx (fun _ => True) (.mk x0 x1 x2 x3 x4 x5 x6) q3))
      case first =>
        have hbd : Below W9.heap.size W9 W9.drew := (Below.refl _ W9).drew
        have HF := veil ((FrW.refl W3.heap.size W9).below hbd (unveil HZ9))
        have HV := veil (row_below' (unveil HV9) hbd)
        have HN : Hid (W3.heap.size ≤ W9.drew.heap.size) := unveil HZ9
        have hol := (unveil HO3).lt
        have HOC : Hid (∀ W, Hid (Below W3.heap.size W9 W) → (W.cell? ⟨E + 1, 0, none⟩ = some (.int .i64 5) ∧ W.cell? ⟨E + 1, 1, none⟩ = some (.string ⟨#[40]⟩) ∧ W.cell? ⟨E + 1, 2, none⟩ = some (.int .i64 0) ∧ W.cell? ⟨E + 1, 3, none⟩ = some (.int .i64 0) ∧ W.cell? ⟨E + 1, 4, none⟩ = some (.string ⟨#[]⟩) ∧ W.cell? ⟨E + 1, 5, none⟩ = some (.int .i64 0)) ∧ E + 1 < W.heap.size) := fun W hS => by
          have h1 : Bk W (E + 1) 42 #[.int .i64 5, .string ⟨#[40]⟩, .int .i64 0, .int .i64 0, .string ⟨#[]⟩, .int .i64 0] := ((unveil hS).block _ hol).trans (((unveil HF9).be.block _ hol).trans (unveil HO3))
          exact ⟨⟨h1.cell 0, h1.cell 1, h1.cell 2, h1.cell 3, h1.cell 4, h1.cell 5⟩, h1.lt⟩
        refine wp_region_noPanic (wpIn_wide.1 (wpIn_region_sct (ro := none) (n := 0) (fun w' => Hid (Below W3.heap.size W9 w'))
          (.pure 0 (.pure 1 (.pure 3 (.pure 4 (.pure 5 (.pure 6 (.pure 7 (.pure 8 (.three 2 9 19 (.both 9 19 (.both 10 19 (.both 11 19 (.both 12 19 (.both 13 19 (.pure 14 (.pure 15 (.pure 16 (.pure 17 (.pure 18 (.sole 19 (.sole 20 (.pure 21 (.pure 22 .done))))))))) (.sole 13 (.pure 14 (.pure 15 (.pure 16 (.pure 17 (.pure 18 (.sole 20 (.pure 21 (.pure 22 .done)))))))))) (.sole 12 (.sole 13 (.pure 14 (.pure 15 (.pure 16 (.pure 17 (.pure 18 (.sole 20 (.pure 21 (.pure 22 .done))))))))))) (.sole 11 (.sole 12 (.sole 13 (.pure 14 (.pure 15 (.pure 16 (.pure 17 (.pure 18 (.sole 20 (.pure 21 (.pure 22 .done)))))))))))) (.sole 10 (.sole 11 (.sole 12 (.sole 13 (.pure 14 (.pure 15 (.pure 16 (.pure 17 (.pure 18 (.sole 20 (.pure 21 (.pure 22 .done))))))))))))) (.sole 9 (.sole 10 (.sole 11 (.sole 12 (.sole 13 (.pure 14 (.pure 15 (.pure 16 (.pure 17 (.pure 18 (.sole 20 (.pure 21 (.pure 22 .done)))))))))))))) (.three 2 10 19 (.both 10 19 (.both 11 19 (.both 12 19 (.both 13 19 (.pure 14 (.pure 15 (.pure 16 (.pure 17 (.pure 18 (.sole 19 (.sole 20 (.pure 21 (.pure 22 .done))))))))) (.sole 13 (.pure 14 (.pure 15 (.pure 16 (.pure 17 (.pure 18 (.sole 20 (.pure 21 (.pure 22 .done)))))))))) (.sole 12 (.sole 13 (.pure 14 (.pure 15 (.pure 16 (.pure 17 (.pure 18 (.sole 20 (.pure 21 (.pure 22 .done))))))))))) (.sole 11 (.sole 12 (.sole 13 (.pure 14 (.pure 15 (.pure 16 (.pure 17 (.pure 18 (.sole 20 (.pure 21 (.pure 22 .done)))))))))))) (.sole 10 (.sole 11 (.sole 12 (.sole 13 (.pure 14 (.pure 15 (.pure 16 (.pure 17 (.pure 18 (.sole 20 (.pure 21 (.pure 22 .done))))))))))))) (.three 2 11 19 (.both 11 19 (.both 12 19 (.both 13 19 (.pure 14 (.pure 15 (.pure 16 (.pure 17 (.pure 18 (.sole 19 (.sole 20 (.pure 21 (.pure 22 .done))))))))) (.sole 13 (.pure 14 (.pure 15 (.pure 16 (.pure 17 (.pure 18 (.sole 20 (.pure 21 (.pure 22 .done)))))))))) (.sole 12 (.sole 13 (.pure 14 (.pure 15 (.pure 16 (.pure 17 (.pure 18 (.sole 20 (.pure 21 (.pure 22 .done))))))))))) (.sole 11 (.sole 12 (.sole 13 (.pure 14 (.pure 15 (.pure 16 (.pure 17 (.pure 18 (.sole 20 (.pure 21 (.pure 22 .done)))))))))))) (.both 2 19 (.both 12 19 (.both 13 19 (.pure 14 (.pure 15 (.pure 16 (.pure 17 (.pure 18 (.sole 19 (.sole 20 (.pure 21 (.pure 22 .done))))))))) (.sole 13 (.pure 14 (.pure 15 (.pure 16 (.pure 17 (.pure 18 (.sole 20 (.pure 21 (.pure 22 .done)))))))))) (.sole 12 (.sole 13 (.pure 14 (.pure 15 (.pure 16 (.pure 17 (.pure 18 (.sole 20 (.pure 21 (.pure 22 .done))))))))))) (.sole 2 (.sole 12 (.sole 13 (.pure 14 (.pure 15 (.pure 16 (.pure 17 (.pure 18 (.sole 20 (.pure 21 (.pure 22 .done)))))))))))) (.both 2 11 (.sole 11 (.sole 12 (.sole 13 (.pure 14 (.pure 15 (.pure 16 (.pure 17 (.pure 18 (.sole 20 (.pure 21 (.pure 22 .done))))))))))) (.sole 2 (.sole 12 (.sole 13 (.pure 14 (.pure 15 (.pure 16 (.pure 17 (.pure 18 (.sole 20 (.pure 21 (.pure 22 .done))))))))))))) (.both 2 10 (.sole 10 (.sole 11 (.sole 12 (.sole 13 (.pure 14 (.pure 15 (.pure 16 (.pure 17 (.pure 18 (.sole 20 (.pure 21 (.pure 22 .done)))))))))))) (.both 2 11 (.sole 11 (.sole 12 (.sole 13 (.pure 14 (.pure 15 (.pure 16 (.pure 17 (.pure 18 (.sole 20 (.pure 21 (.pure 22 .done))))))))))) (.sole 2 (.sole 12 (.sole 13 (.pure 14 (.pure 15 (.pure 16 (.pure 17 (.pure 18 (.sole 20 (.pure 21 (.pure 22 .done)))))))))))))) (.both 2 9 (.sole 9 (.sole 10 (.sole 11 (.sole 12 (.sole 13 (.pure 14 (.pure 15 (.pure 16 (.pure 17 (.pure 18 (.sole 20 (.pure 21 (.pure 22 .done))))))))))))) (.both 2 10 (.sole 10 (.sole 11 (.sole 12 (.sole 13 (.pure 14 (.pure 15 (.pure 16 (.pure 17 (.pure 18 (.sole 20 (.pure 21 (.pure 22 .done)))))))))))) (.both 2 11 (.sole 11 (.sole 12 (.sole 13 (.pure 14 (.pure 15 (.pure 16 (.pure 17 (.pure 18 (.sole 20 (.pure 21 (.pure 22 .done))))))))))) (.sole 2 (.sole 12 (.sole 13 (.pure 14 (.pure 15 (.pure 16 (.pure 17 (.pure 18 (.sole 20 (.pure 21 (.pure 22 .done)))))))))))))))))))))))
          23 hmixP (by kernel_rfl) (by kernel_rfl) (by kernel_rfl) (by kernel_rfl) (by kernel_rfl) (by kernel_rfl) (fun _ _ _ _ h => h) (veil (unveil HF).be) ?_))
        clear hbd
        generalize W9.drew = W10 at *
        have hx1 : 1 + p1 < 1 + p1 + 1 := by omega
        have hg7 := ((unveil HV).lt g7 rfl).2
        refine sct_pure _ rfl _ (.inl ⟨rfl, fun W hS => (by obtain ⟨⟨o0, o1, o2, o3, o4, o5⟩, ol⟩ := unveil HOC W hS; go_simp; rfl)⟩) (fun B hB => ?_)
        simp only [List.getElem_toArray, List.getElem_cons_zero, List.getElem_cons_succ, Act.put, List.setIfInBounds_toArray, List.set_cons_zero, List.set_cons_succ] at hB
        subst hB
        refine sct_pure _ rfl _ (.inl ⟨rfl, fun W hS => (by go_simp; rfl)⟩) (fun B hB => ?_)
        simp only [List.getElem_toArray, List.getElem_cons_zero, List.getElem_cons_succ, Act.put, List.setIfInBounds_toArray, List.set_cons_zero, List.set_cons_succ] at hB
        subst hB
        refine sct_pure _ rfl _ (.inl ⟨rfl, fun W hS => (by go_simp; rfl)⟩) (fun B hB => ?_)
        simp only [List.getElem_toArray, List.getElem_cons_zero, List.getElem_cons_succ, Act.put, List.setIfInBounds_toArray, List.set_cons_zero, List.set_cons_succ] at hB
        subst hB
        refine sct_pure _ rfl _ (.inl ⟨rfl, fun W hS => (by go_simp; rfl)⟩) (fun B hB => ?_)
        simp only [List.getElem_toArray, List.getElem_cons_zero, List.getElem_cons_succ, Act.put, List.setIfInBounds_toArray, List.set_cons_zero, List.set_cons_succ] at hB
        subst hB
        refine sct_pure _ rfl _ (.inl ⟨rfl, fun W hS => (by go_simp; rfl)⟩) (fun B hB => ?_)
        simp only [List.getElem_toArray, List.getElem_cons_zero, List.getElem_cons_succ, Act.put, List.setIfInBounds_toArray, List.set_cons_zero, List.set_cons_succ] at hB
        subst hB
        refine sct_pure _ rfl _ (.inl ⟨rfl, fun W hS => (by go_simp; rfl)⟩) (fun B hB => ?_)
        simp only [List.getElem_toArray, List.getElem_cons_zero, List.getElem_cons_succ, Act.put, List.setIfInBounds_toArray, List.set_cons_zero, List.set_cons_succ] at hB
        subst hB
        refine sct_pure _ rfl (.int .i64 ((1 + p1 : Nat) : Int)) (.inl ⟨rfl, fun W hS => (by go_simp; first | done | (rw [IntKind.wrap_i64]; omega))⟩) (fun B hB => ?_)
        simp only [List.getElem_toArray, List.getElem_cons_zero, List.getElem_cons_succ, Act.put, List.setIfInBounds_toArray, List.set_cons_zero, List.set_cons_succ] at hB
        subst hB
        refine sct_pure _ rfl (.pointer (some ⟨g7, (1 + p1) * 6, none⟩)) (.inl ⟨rfl, fun W hS => (by go_simp; first | done | (rw [if_pos ⟨by omega, by omega⟩, show (1 + (p1 : Int)).toNat = 1 + p1 by omega]))⟩) (fun B hB => ?_)
        simp only [List.getElem_toArray, List.getElem_cons_zero, List.getElem_cons_succ, Act.put, List.setIfInBounds_toArray, List.set_cons_zero, List.set_cons_succ] at hB
        subst hB
        clear hx1 hg7
        refine sct_three ?_ ?_ ?_
        · skip
          refine sct_step _ rfl (fun K hK => ?_)
          go_simp
          have hbn : Below W10.heap.size W10 (W10.alloc (.cells #[.int .i64 5, .string ⟨#[40]⟩, .int .i64 0, .int .i64 0, .string ⟨#[]⟩, .int .i64 0, .int .i64 5, .string ⟨#[43]⟩, .int .i64 0, .int .i64 0, .string ⟨#[]⟩, .int .i64 0] 42)) := (Below.refl _ W10).alloc (Nat.le_refl _) _
          have HFn : Hid (FrW W3.heap.size W9 (W10.alloc (.cells #[.int .i64 5, .string ⟨#[40]⟩, .int .i64 0, .int .i64 0, .string ⟨#[]⟩, .int .i64 0, .int .i64 5, .string ⟨#[43]⟩, .int .i64 0, .int .i64 0, .string ⟨#[]⟩, .int .i64 0] 42))) := (unveil HF).below hbn (unveil HN)
          have HNn : Hid (W3.heap.size ≤ (W10.alloc (.cells #[.int .i64 5, .string ⟨#[40]⟩, .int .i64 0, .int .i64 0, .string ⟨#[]⟩, .int .i64 0, .int .i64 5, .string ⟨#[43]⟩, .int .i64 0, .int .i64 0, .string ⟨#[]⟩, .int .i64 0] 42)).heap.size) := Nat.le_trans (unveil HN) hbn.size
          have HVn := veil (row_below' (unveil HV) hbn)
          have HAn : Hid ((W10.alloc (.cells #[.int .i64 5, .string ⟨#[40]⟩, .int .i64 0, .int .i64 0, .string ⟨#[]⟩, .int .i64 0, .int .i64 5, .string ⟨#[43]⟩, .int .i64 0, .int .i64 0, .string ⟨#[]⟩, .int .i64 0] 42)).ownsRow W3.heap.size 42 6 (.slice (some ⟨W10.heap.size, 0, none⟩) 2 2) 2 (wdCells [opnW, plsW]) ∧ g7 < W10.heap.size) := ⟨own_new (Bk.new W10 _ _) rfl rfl (unveil HN) (by decide), ((unveil HV).lt g7 rfl).2⟩
          refine hK _ _ (veil (unveil HFn).be) ?_
          clear hK K hbn HF HN HV
          generalize (W10.alloc (.cells #[.int .i64 5, .string ⟨#[40]⟩, .int .i64 0, .int .i64 0, .string ⟨#[]⟩, .int .i64 0, .int .i64 5, .string ⟨#[43]⟩, .int .i64 0, .int .i64 0, .string ⟨#[]⟩, .int .i64 0] 42)) = W11 at *
          have HF := HFn; clear HFn
          have HN := HNn; clear HNn
          have HV := HVn; clear HVn
          have HA := HAn; clear HAn
          refine sct_both ?_ ?_
          · skip
            refine sct_step _ rfl (fun K hK => ?_)
            obtain ⟨l0, l1, l2, l3, l4, l5, ll⟩ := last_cells (unveil HV)
            simp only [clsW] at l0 l1 l2 l3 l4 l5
            go_simp
            refine hK _ _ (veil (unveil HF).be) ?_
            clear hK K l0 l1 l2 l3 l4 l5 ll
            refine sct_both ?_ ?_
            · skip
              refine sct_step _ rfl (fun K hK => ?_)
              go_simp
              have hbn : Below W11.heap.size W11 (W11.alloc (.cells #[.int .i64 5, .string ⟨#[41]⟩, .int .i64 0, .int .i64 0, .string ⟨#[]⟩, .int .i64 0] 42)) := (Below.refl _ W11).alloc (Nat.le_refl _) _
              have HFn : Hid (FrW W3.heap.size W9 (W11.alloc (.cells #[.int .i64 5, .string ⟨#[41]⟩, .int .i64 0, .int .i64 0, .string ⟨#[]⟩, .int .i64 0] 42))) := (unveil HF).below hbn (unveil HN)
              have HNn : Hid (W3.heap.size ≤ (W11.alloc (.cells #[.int .i64 5, .string ⟨#[41]⟩, .int .i64 0, .int .i64 0, .string ⟨#[]⟩, .int .i64 0] 42)).heap.size) := Nat.le_trans (unveil HN) hbn.size
              have HVn := veil (row_below' (unveil HV) hbn)
              have HAn := veil (And.intro (row_below' (unveil HA).1 hbn) (unveil HA).2)
              have HBn : Hid (Src (W11.alloc (.cells #[.int .i64 5, .string ⟨#[41]⟩, .int .i64 0, .int .i64 0, .string ⟨#[]⟩, .int .i64 0] 42)) (.slice (some ⟨W11.heap.size, 0, none⟩) 1 1) 1 (wdCells [clsW])) := src_row (own_new (base := 0) (Bk.new W11 _ _) rfl rfl (Nat.zero_le _) (by decide)) (wd_one _)
              refine hK _ _ (veil (unveil HFn).be) ?_
              clear hK K hbn HF HN HV HA
              generalize (W11.alloc (.cells #[.int .i64 5, .string ⟨#[41]⟩, .int .i64 0, .int .i64 0, .string ⟨#[]⟩, .int .i64 0] 42)) = W12 at *
              have HF := HFn; clear HFn
              have HN := HNn; clear HNn
              have HV := HVn; clear HVn
              have HA := HAn; clear HAn
              have HBB := HBn; clear HBn
              refine sct_both ?_ ?_
              · skip
                refine sct_step _ rfl (fun K hK => ?_)
                refine stepIn_app_Src rfl _ _ 26 rfl W3.heap.size 42 i1 _ 64 Tryz.underlying26 hi1 zw sw bw rfl _ (1 + p1 + 1) _ rfl (unveil HV) _ 1 _ rfl (unveil HBB) (by unfold maxLen; omega) (by omega) (unveil HN) ?_
                intro v67 W13 hown hgrow
                have HFn := veil ((unveil HF).growX (unveil HV) hgrow (unveil HN))
                have HNn : Hid (W3.heap.size ≤ W13.heap.size) := Nat.le_trans (unveil HN) hgrow.size
                have HCn : Hid (Src W13 v67 (1 + p1 + 1 + 1) (wdCells [opnW] ++ wdCells ws ++ wdCells [clsW] ++ wdCells [clsW])) := src_row hown (fun u hu => wd_one ([opnW] ++ ws ++ [clsW] ++ [clsW]) u (by rw [wdCells_app, wdCells_app, wdCells_app]; exact hu))
                have HAn := veil (And.intro (row_other (unveil HA).1 hgrow (Nat.ne_of_gt (unveil HA).2)) trivial)
                simp only [List.getElem_toArray, List.getElem_cons_zero, List.getElem_cons_succ, Act.put, List.setIfInBounds_toArray, List.set_cons_zero, List.set_cons_succ]
                refine hK _ _ (veil (unveil HFn).be) ?_
                clear hK K hown hgrow HF HN HV HBB HA
                have HF := HFn; clear HFn; have HN := HNn; clear HNn
                have HCC := HCn; clear HCn
                have HA := HAn; clear HAn
                refine sct_both ?_ ?_
                · skip
                  refine sct_step _ rfl (fun K hK => ?_)
                  refine stepIn_app_Src rfl _ _ 26 rfl W3.heap.size 42 i1 _ 64 Tryz.underlying26 hi1 zw sw bw rfl _ 2 _ rfl (unveil HA).1 _ (1 + p1 + 1 + 1) _ rfl (unveil HCC) (by unfold maxLen; omega) (by omega) (unveil HN) ?_
                  intro v68 W14 hown hgrow
                  have HFn := veil ((unveil HF).growX (unveil HA).1 hgrow (unveil HN))
                  have HNn : Hid (W3.heap.size ≤ W14.heap.size) := Nat.le_trans (unveil HN) hgrow.size
                  have HDn := veil hown
                  simp only [List.getElem_toArray, List.getElem_cons_zero, List.getElem_cons_succ, Act.put, List.setIfInBounds_toArray, List.set_cons_zero, List.set_cons_succ]
                  refine hK _ _ (veil (unveil HFn).be) ?_
                  clear hK K hown hgrow HF HN HA HCC
                  have HF := HFn; clear HFn; have HN := HNn; clear HNn
                  have HDD := HDn; clear HDn
                  refine sct_both ?_ ?_
                  · skip
                    refine sct_step _ rfl (fun K hK => ?_)
                    go_simp
                    refine ⟨trivial, rfl, (callsIn_wide.2 (unveil HP3 _ W14 W3.heap.size ((unveil HB3).trans (((unveil HF9).be.trans (unveil HF).be).mono (unveil HB3).size)) (unveil HDD))).mono ?_⟩
                    rintro e W15 ⟨q3, c3, rfl, hk3, hbn⟩
                    have HFn := veil ((unveil HF).below hbn (unveil HN))
                    have HNn : Hid (W3.heap.size ≤ W15.heap.size) := Nat.le_trans (unveil HN) hbn.size
                    have HKK := veil hk3
                    refine hK _ _ (veil (unveil HFn).be) ?_
                    clear hK K hk3 hbn HF HN HDD
                    have HF := HFn; clear HFn; have HN := HNn; clear HNn
                    iterate 5 (
                     refine sct_pure _ rfl _ (.inl ⟨rfl, fun W hS => (by go_simp; rfl)⟩) (fun B hB => ?_)
                     simp only [List.getElem_toArray, List.getElem_cons_zero, List.getElem_cons_succ, Act.put, List.setIfInBounds_toArray, List.set_cons_zero, List.set_cons_succ] at hB
                     subst hB)
                    refine sct_step _ rfl (fun K hK => ?_)
                    go_simp
                    have hbn : Below W15.heap.size W15 (W15.alloc (.cells #[.int .i64 0, .int .i64 0, .int .i64 0, .int .i64 0, .string ⟨#[]⟩, .slice none 0 0, .int .i64 0] 24)) := (Below.refl _ W15).alloc (Nat.le_refl _) _
                    have HFn : Hid (FrW W3.heap.size W9 (W15.alloc (.cells #[.int .i64 0, .int .i64 0, .int .i64 0, .int .i64 0, .string ⟨#[]⟩, .slice none 0 0, .int .i64 0] 24))) := (unveil HF).below hbn (unveil HN)
                    have HNn : Hid (W3.heap.size ≤ (W15.alloc (.cells #[.int .i64 0, .int .i64 0, .int .i64 0, .int .i64 0, .string ⟨#[]⟩, .slice none 0 0, .int .i64 0] 24)).heap.size) := Nat.le_trans (unveil HN) hbn.size
                    have HZn : Hid (Bk (W15.alloc (.cells #[.int .i64 0, .int .i64 0, .int .i64 0, .int .i64 0, .string ⟨#[]⟩, .slice none 0 0, .int .i64 0] 24)) W15.heap.size 24 #[.int .i64 0, .int .i64 0, .int .i64 0, .int .i64 0, .string ⟨#[]⟩, .slice none 0 0, .int .i64 0] ∧ W9.heap.size ≤ W15.heap.size) := ⟨Bk.new W15 _ _, (unveil HF).be.size⟩
                    have HKn : Hid (Kids (W15.alloc (.cells #[.int .i64 0, .int .i64 0, .int .i64 0, .int .i64 0, .string ⟨#[]⟩, .slice none 0 0, .int .i64 0] 24)) (fun g => g ≠ W15.heap.size) (.mk x0 x1 x2 x3 x4 x5 x6) q3) := ((unveil HKK).mono (fun g hg _ => by omega)).below hbn
                    refine hK _ _ (veil (unveil HFn).be) ?_
                    clear hK K hbn HF HN HKK
                    generalize (W15.alloc (.cells #[.int .i64 0, .int .i64 0, .int .i64 0, .int .i64 0, .string ⟨#[]⟩, .slice none 0 0, .int .i64 0] 24)) = W16 at *
                    have HF := HFn; clear HFn
                    have HN := HNn; clear HNn
                    have HZ := HZn; clear HZn
                    have HKK := HKn; clear HKn
                    refine sct_step _ rfl (fun K hK => ?_)
                    obtain ⟨⟨z0, z1, z2, z3, z4, z5, z6⟩, zl, ⟨u0, u1, u2, u3, u4, u5, u6⟩⟩ := ex_cells (unveil HZ).1
                    go_simp
                    obtain ⟨r1, r2, r3, r4⟩ := ex_put (unveil HZ).1 (.int .i64 x0) (.int .i64 x1) (.int .i64 x2) (.int .i64 x3) (.string ⟨x4.toArray⟩) (.slice q3 x5.length c3) (.int .i64 x6) _ rfl
                    have HFE := veil ((unveil HF).putBox (unveil HZ).2 (Nat.le_trans (unveil HZ9) (unveil HZ).2) r2 r3)
                    have HEE := veil r1
                    have HKE : Hid (Kids _ (fun _ => True) (.mk x0 x1 x2 x3 x4 x5 x6) q3) := (unveil HKK).keep (fun g cs fz hg he => ⟨r3 g _ hg he, trivial⟩)
                    refine hK _ _ (veil (unveil HFE).be) ?_
                    clear hK K r1 r2 r3 r4 z0 z1 z2 z3 z4 z5 z6 zl u0 u1 u2 u3 u4 u5 u6
                    iterate 2 (
                     refine sct_pure _ rfl _ (.inl ⟨rfl, fun W hS => (by go_simp; rfl)⟩) (fun B hB => ?_)
                     simp only [List.getElem_toArray, List.getElem_cons_zero, List.getElem_cons_succ, Act.put, List.setIfInBounds_toArray, List.set_cons_zero, List.set_cons_succ] at hB
                     subst hB)
                    refine sct_done ?_
                    refine listIn_last rfl (fun K hK => ?_)
                    go_simp
                    refine hK _ _ ?_
                    clear hK K
                    go_wp2_with fail
                    go_meet
                    case rel => exact ⟨_, _, _, rfl, rfl, rfl, rfl, HFE, HEE, HKE⟩
                  · skip
                    refine sct_step _ rfl (fun K hK => ?_)
                    go_simp
                    have hbn : Below W14.heap.size W14 (W14.alloc (.cells #[.int .i64 0, .int .i64 0, .int .i64 0, .int .i64 0, .string ⟨#[]⟩, .slice none 0 0, .int .i64 0] 24)) := (Below.refl _ W14).alloc (Nat.le_refl _) _
                    have HFn : Hid (FrW W3.heap.size W9 (W14.alloc (.cells #[.int .i64 0, .int .i64 0, .int .i64 0, .int .i64 0, .string ⟨#[]⟩, .slice none 0 0, .int .i64 0] 24))) := (unveil HF).below hbn (unveil HN)
                    have HNn : Hid (W3.heap.size ≤ (W14.alloc (.cells #[.int .i64 0, .int .i64 0, .int .i64 0, .int .i64 0, .string ⟨#[]⟩, .slice none 0 0, .int .i64 0] 24)).heap.size) := Nat.le_trans (unveil HN) hbn.size
                    have HDn := veil (row_below' (unveil HDD) hbn)
                    have HZn : Hid (Bk (W14.alloc (.cells #[.int .i64 0, .int .i64 0, .int .i64 0, .int .i64 0, .string ⟨#[]⟩, .slice none 0 0, .int .i64 0] 24)) W14.heap.size 24 #[.int .i64 0, .int .i64 0, .int .i64 0, .int .i64 0, .string ⟨#[]⟩, .slice none 0 0, .int .i64 0] ∧ W9.heap.size ≤ W14.heap.size) := ⟨Bk.new W14 _ _, (unveil HF).be.size⟩
                    refine hK _ _ (veil (unveil HFn).be) ?_
                    clear hK K hbn HF HN HDD
                    generalize (W14.alloc (.cells #[.int .i64 0, .int .i64 0, .int .i64 0, .int .i64 0, .string ⟨#[]⟩, .slice none 0 0, .int .i64 0] 24)) = W17 at *
                    have HF := HFn; clear HFn
                    have HN := HNn; clear HNn
                    have HDD := HDn; clear HDn
                    have HZ := HZn; clear HZn
                    refine sct_step _ rfl (fun K hK => ?_)
                    go_simp
                    refine ⟨trivial, rfl, (callsIn_wide.2 (unveil HP3 _ W17 W3.heap.size ((unveil HB3).trans (((unveil HF9).be.trans (unveil HF).be).mono (unveil HB3).size)) (unveil HDD))).mono ?_⟩
                    rintro e W18 ⟨q3, c3, rfl, hk3, hbn⟩
                    have HFn := veil ((unveil HF).below hbn (unveil HN))
                    have HNn : Hid (W3.heap.size ≤ W18.heap.size) := Nat.le_trans (unveil HN) hbn.size
                    have HZn := veil (And.intro ((unveil HZ).1.below hbn) (unveil HZ).2)
                    have HKK := veil (hk3.mono (K' := fun g => g ≠ W14.heap.size) (fun g _ hg => by have := (unveil HZ).1.lt; omega))
                    refine hK _ _ (veil (unveil HFn).be) ?_
                    clear hK K hk3 hbn HF HN HDD HZ
                    have HF := HFn; clear HFn; have HN := HNn; clear HNn
                    have HZ := HZn; clear HZn
                    iterate 5 (
                     refine sct_pure _ rfl _ (.inl ⟨rfl, fun W hS => (by go_simp; rfl)⟩) (fun B hB => ?_)
                     simp only [List.getElem_toArray, List.getElem_cons_zero, List.getElem_cons_succ, Act.put, List.setIfInBounds_toArray, List.set_cons_zero, List.set_cons_succ] at hB
                     subst hB)
                    refine sct_step _ rfl (fun K hK => ?_)
                    obtain ⟨⟨z0, z1, z2, z3, z4, z5, z6⟩, zl, ⟨u0, u1, u2, u3, u4, u5, u6⟩⟩ := ex_cells (unveil HZ).1
                    go_simp
                    obtain ⟨r1, r2, r3, r4⟩ := ex_put (unveil HZ).1 (.int .i64 x0) (.int .i64 x1) (.int .i64 x2) (.int .i64 x3) (.string ⟨x4.toArray⟩) (.slice q3 x5.length c3) (.int .i64 x6) _ rfl
                    have HFE := veil ((unveil HF).putBox (unveil HZ).2 (Nat.le_trans (unveil HZ9) (unveil HZ).2) r2 r3)
                    have HEE := veil r1
                    have HKE : Hid (Kids _ (fun _ => True) (.mk x0 x1 x2 x3 x4 x5 x6) q3) := (unveil HKK).keep (fun g cs fz hg he => ⟨r3 g _ hg he, trivial⟩)
                    refine hK _ _ (veil (unveil HFE).be) ?_
                    clear hK K r1 r2 r3 r4 z0 z1 z2 z3 z4 z5 z6 zl u0 u1 u2 u3 u4 u5 u6
                    iterate 2 (
                     refine sct_pure _ rfl _ (.inl ⟨rfl, fun W hS => (by go_simp; rfl)⟩) (fun B hB => ?_)
                     simp only [List.getElem_toArray, List.getElem_cons_zero, List.getElem_cons_succ, Act.put, List.setIfInBounds_toArray, List.set_cons_zero, List.set_cons_succ] at hB
                     subst hB)
                    refine sct_done ?_
                    refine listIn_last rfl (fun K hK => ?_)
                    go_simp
                    refine hK _ _ ?_
                    clear hK K
                    go_wp2_with fail
                    go_meet
                    case rel => exact ⟨_, _, _, rfl, rfl, rfl, rfl, HFE, HEE, HKE⟩
                · skip
                  refine sct_step _ rfl (fun K hK => ?_)
                  go_simp
                  have hbn : Below W13.heap.size W13 (W13.alloc (.cells #[.int .i64 0, .int .i64 0, .int .i64 0, .int .i64 0, .string ⟨#[]⟩, .slice none 0 0, .int .i64 0] 24)) := (Below.refl _ W13).alloc (Nat.le_refl _) _
                  have HFn : Hid (FrW W3.heap.size W9 (W13.alloc (.cells #[.int .i64 0, .int .i64 0, .int .i64 0, .int .i64 0, .string ⟨#[]⟩, .slice none 0 0, .int .i64 0] 24))) := (unveil HF).below hbn (unveil HN)
                  have HNn : Hid (W3.heap.size ≤ (W13.alloc (.cells #[.int .i64 0, .int .i64 0, .int .i64 0, .int .i64 0, .string ⟨#[]⟩, .slice none 0 0, .int .i64 0] 24)).heap.size) := Nat.le_trans (unveil HN) hbn.size
                  have HAn := veil (And.intro (row_below' (unveil HA).1 hbn) (unveil HA).2)
                  have HCn := veil ((unveil HCC).below hbn)
                  have HZn : Hid (Bk (W13.alloc (.cells #[.int .i64 0, .int .i64 0, .int .i64 0, .int .i64 0, .string ⟨#[]⟩, .slice none 0 0, .int .i64 0] 24)) W13.heap.size 24 #[.int .i64 0, .int .i64 0, .int .i64 0, .int .i64 0, .string ⟨#[]⟩, .slice none 0 0, .int .i64 0] ∧ W9.heap.size ≤ W13.heap.size) := ⟨Bk.new W13 _ _, (unveil HF).be.size⟩
                  refine hK _ _ (veil (unveil HFn).be) ?_
                  clear hK K hbn HF HN HA HCC
                  generalize (W13.alloc (.cells #[.int .i64 0, .int .i64 0, .int .i64 0, .int .i64 0, .string ⟨#[]⟩, .slice none 0 0, .int .i64 0] 24)) = W19 at *
                  have HF := HFn; clear HFn
                  have HN := HNn; clear HNn
                  have HA := HAn; clear HAn
                  have HCC := HCn; clear HCn
                  have HZ := HZn; clear HZn
                  refine sct_step _ rfl (fun K hK => ?_)
                  refine stepIn_app_Src rfl _ _ 26 rfl W3.heap.size 42 i1 _ 64 Tryz.underlying26 hi1 zw sw bw rfl _ 2 _ rfl (unveil HA).1 _ (1 + p1 + 1 + 1) _ rfl (unveil HCC) (by unfold maxLen; omega) (by omega) (unveil HN) ?_
                  intro v68 W20 hown hgrow
                  have HFn := veil ((unveil HF).growX (unveil HA).1 hgrow (unveil HN))
                  have HNn : Hid (W3.heap.size ≤ W20.heap.size) := Nat.le_trans (unveil HN) hgrow.size
                  have HDn := veil hown
                  have HZn := veil (And.intro (bk_grow (unveil HZ).1 (by decide) hgrow (row_at (unveil HA).1).2.choose_spec) (unveil HZ).2)
                  simp only [List.getElem_toArray, List.getElem_cons_zero, List.getElem_cons_succ, Act.put, List.setIfInBounds_toArray, List.set_cons_zero, List.set_cons_succ]
                  refine hK _ _ (veil (unveil HFn).be) ?_
                  clear hK K hown hgrow HF HN HA HCC HZ
                  have HF := HFn; clear HFn; have HN := HNn; clear HNn
                  have HDD := HDn; clear HDn
                  have HZ := HZn; clear HZn
                  refine sct_step _ rfl (fun K hK => ?_)
                  go_simp
                  refine ⟨trivial, rfl, (callsIn_wide.2 (unveil HP3 _ W20 W3.heap.size ((unveil HB3).trans (((unveil HF9).be.trans (unveil HF).be).mono (unveil HB3).size)) (unveil HDD))).mono ?_⟩
                  rintro e W21 ⟨q3, c3, rfl, hk3, hbn⟩
                  have HFn := veil ((unveil HF).below hbn (unveil HN))
                  have HNn : Hid (W3.heap.size ≤ W21.heap.size) := Nat.le_trans (unveil HN) hbn.size
                  have HZn := veil (And.intro ((unveil HZ).1.below hbn) (unveil HZ).2)
                  have HKK := veil (hk3.mono (K' := fun g => g ≠ W13.heap.size) (fun g _ hg => by have := (unveil HZ).1.lt; omega))
                  refine hK _ _ (veil (unveil HFn).be) ?_
                  clear hK K hk3 hbn HF HN HDD HZ
                  have HF := HFn; clear HFn; have HN := HNn; clear HNn
                  have HZ := HZn; clear HZn
                  iterate 5 (
                   refine sct_pure _ rfl _ (.inl ⟨rfl, fun W hS => (by go_simp; rfl)⟩) (fun B hB => ?_)
                   simp only [List.getElem_toArray, List.getElem_cons_zero, List.getElem_cons_succ, Act.put, List.setIfInBounds_toArray, List.set_cons_zero, List.set_cons_succ] at hB
                   subst hB)
                  refine sct_step _ rfl (fun K hK => ?_)
                  obtain ⟨⟨z0, z1, z2, z3, z4, z5, z6⟩, zl, ⟨u0, u1, u2, u3, u4, u5, u6⟩⟩ := ex_cells (unveil HZ).1
                  go_simp
                  obtain ⟨r1, r2, r3, r4⟩ := ex_put (unveil HZ).1 (.int .i64 x0) (.int .i64 x1) (.int .i64 x2) (.int .i64 x3) (.string ⟨x4.toArray⟩) (.slice q3 x5.length c3) (.int .i64 x6) _ rfl
                  have HFE := veil ((unveil HF).putBox (unveil HZ).2 (Nat.le_trans (unveil HZ9) (unveil HZ).2) r2 r3)
                  have HEE := veil r1
                  have HKE : Hid (Kids _ (fun _ => True) (.mk x0 x1 x2 x3 x4 x5 x6) q3) := (unveil HKK).keep (fun g cs fz hg he => ⟨r3 g _ hg he, trivial⟩)
                  refine hK _ _ (veil (unveil HFE).be) ?_
                  clear hK K r1 r2 r3 r4 z0 z1 z2 z3 z4 z5 z6 zl u0 u1 u2 u3 u4 u5 u6
                  iterate 2 (
                   refine sct_pure _ rfl _ (.inl ⟨rfl, fun W hS => (by go_simp; rfl)⟩) (fun B hB => ?_)
                   simp only [List.getElem_toArray, List.getElem_cons_zero, List.getElem_cons_succ, Act.put, List.setIfInBounds_toArray, List.set_cons_zero, List.set_cons_succ] at hB
                   subst hB)
                  refine sct_done ?_
                  refine listIn_last rfl (fun K hK => ?_)
                  go_simp
                  refine hK _ _ ?_
                  clear hK K
                  go_wp2_with fail
                  go_meet
                  case rel => exact ⟨_, _, _, rfl, rfl, rfl, rfl, HFE, HEE, HKE⟩
              · skip
                refine sct_step _ rfl (fun K hK => ?_)
                go_simp
                have hbn : Below W12.heap.size W12 (W12.alloc (.cells #[.int .i64 0, .int .i64 0, .int .i64 0, .int .i64 0, .string ⟨#[]⟩, .slice none 0 0, .int .i64 0] 24)) := (Below.refl _ W12).alloc (Nat.le_refl _) _
                have HFn : Hid (FrW W3.heap.size W9 (W12.alloc (.cells #[.int .i64 0, .int .i64 0, .int .i64 0, .int .i64 0, .string ⟨#[]⟩, .slice none 0 0, .int .i64 0] 24))) := (unveil HF).below hbn (unveil HN)
                have HNn : Hid (W3.heap.size ≤ (W12.alloc (.cells #[.int .i64 0, .int .i64 0, .int .i64 0, .int .i64 0, .string ⟨#[]⟩, .slice none 0 0, .int .i64 0] 24)).heap.size) := Nat.le_trans (unveil HN) hbn.size
                have HVn := veil (row_below' (unveil HV) hbn)
                have HAn := veil (And.intro (row_below' (unveil HA).1 hbn) (unveil HA).2)
                have HBn := veil ((unveil HBB).below hbn)
                have HZn : Hid (Bk (W12.alloc (.cells #[.int .i64 0, .int .i64 0, .int .i64 0, .int .i64 0, .string ⟨#[]⟩, .slice none 0 0, .int .i64 0] 24)) W12.heap.size 24 #[.int .i64 0, .int .i64 0, .int .i64 0, .int .i64 0, .string ⟨#[]⟩, .slice none 0 0, .int .i64 0] ∧ W9.heap.size ≤ W12.heap.size) := ⟨Bk.new W12 _ _, (unveil HF).be.size⟩
                refine hK _ _ (veil (unveil HFn).be) ?_
                clear hK K hbn HF HN HV HA HBB
                generalize (W12.alloc (.cells #[.int .i64 0, .int .i64 0, .int .i64 0, .int .i64 0, .string ⟨#[]⟩, .slice none 0 0, .int .i64 0] 24)) = W22 at *
                have HF := HFn; clear HFn
                have HN := HNn; clear HNn
                have HV := HVn; clear HVn
                have HA := HAn; clear HAn
                have HBB := HBn; clear HBn
                have HZ := HZn; clear HZn
                refine sct_step _ rfl (fun K hK => ?_)
                refine stepIn_app_Src rfl _ _ 26 rfl W3.heap.size 42 i1 _ 64 Tryz.underlying26 hi1 zw sw bw rfl _ (1 + p1 + 1) _ rfl (unveil HV) _ 1 _ rfl (unveil HBB) (by unfold maxLen; omega) (by omega) (unveil HN) ?_
                intro v67 W23 hown hgrow
                have HFn := veil ((unveil HF).growX (unveil HV) hgrow (unveil HN))
                have HNn : Hid (W3.heap.size ≤ W23.heap.size) := Nat.le_trans (unveil HN) hgrow.size
                have HCn : Hid (Src W23 v67 (1 + p1 + 1 + 1) (wdCells [opnW] ++ wdCells ws ++ wdCells [clsW] ++ wdCells [clsW])) := src_row hown (fun u hu => wd_one ([opnW] ++ ws ++ [clsW] ++ [clsW]) u (by rw [wdCells_app, wdCells_app, wdCells_app]; exact hu))
                have HAn := veil (And.intro (row_other (unveil HA).1 hgrow (Nat.ne_of_gt (unveil HA).2)) trivial)
                have HZn := veil (And.intro (bk_grow (unveil HZ).1 (by decide) hgrow (row_at (unveil HV)).2.choose_spec) (unveil HZ).2)
                simp only [List.getElem_toArray, List.getElem_cons_zero, List.getElem_cons_succ, Act.put, List.setIfInBounds_toArray, List.set_cons_zero, List.set_cons_succ]
                refine hK _ _ (veil (unveil HFn).be) ?_
                clear hK K hown hgrow HF HN HV HBB HA HZ
                have HF := HFn; clear HFn; have HN := HNn; clear HNn
                have HCC := HCn; clear HCn
                have HA := HAn; clear HAn
                have HZ := HZn; clear HZn
                refine sct_step _ rfl (fun K hK => ?_)
                refine stepIn_app_Src rfl _ _ 26 rfl W3.heap.size 42 i1 _ 64 Tryz.underlying26 hi1 zw sw bw rfl _ 2 _ rfl (unveil HA).1 _ (1 + p1 + 1 + 1) _ rfl (unveil HCC) (by unfold maxLen; omega) (by omega) (unveil HN) ?_
                intro v68 W24 hown hgrow
                have HFn := veil ((unveil HF).growX (unveil HA).1 hgrow (unveil HN))
                have HNn : Hid (W3.heap.size ≤ W24.heap.size) := Nat.le_trans (unveil HN) hgrow.size
                have HDn := veil hown
                have HZn := veil (And.intro (bk_grow (unveil HZ).1 (by decide) hgrow (row_at (unveil HA).1).2.choose_spec) (unveil HZ).2)
                simp only [List.getElem_toArray, List.getElem_cons_zero, List.getElem_cons_succ, Act.put, List.setIfInBounds_toArray, List.set_cons_zero, List.set_cons_succ]
                refine hK _ _ (veil (unveil HFn).be) ?_
                clear hK K hown hgrow HF HN HA HCC HZ
                have HF := HFn; clear HFn; have HN := HNn; clear HNn
                have HDD := HDn; clear HDn
                have HZ := HZn; clear HZn
                refine sct_step _ rfl (fun K hK => ?_)
                go_simp
                refine ⟨trivial, rfl, (callsIn_wide.2 (unveil HP3 _ W24 W3.heap.size ((unveil HB3).trans (((unveil HF9).be.trans (unveil HF).be).mono (unveil HB3).size)) (unveil HDD))).mono ?_⟩
                rintro e W25 ⟨q3, c3, rfl, hk3, hbn⟩
                have HFn := veil ((unveil HF).below hbn (unveil HN))
                have HNn : Hid (W3.heap.size ≤ W25.heap.size) := Nat.le_trans (unveil HN) hbn.size
                have HZn := veil (And.intro ((unveil HZ).1.below hbn) (unveil HZ).2)
                have HKK := veil (hk3.mono (K' := fun g => g ≠ W12.heap.size) (fun g _ hg => by have := (unveil HZ).1.lt; omega))
                refine hK _ _ (veil (unveil HFn).be) ?_
                clear hK K hk3 hbn HF HN HDD HZ
                have HF := HFn; clear HFn; have HN := HNn; clear HNn
                have HZ := HZn; clear HZn
                iterate 5 (
                 refine sct_pure _ rfl _ (.inl ⟨rfl, fun W hS => (by go_simp; rfl)⟩) (fun B hB => ?_)
                 simp only [List.getElem_toArray, List.getElem_cons_zero, List.getElem_cons_succ, Act.put, List.setIfInBounds_toArray, List.set_cons_zero, List.set_cons_succ] at hB
                 subst hB)
                refine sct_step _ rfl (fun K hK => ?_)
                obtain ⟨⟨z0, z1, z2, z3, z4, z5, z6⟩, zl, ⟨u0, u1, u2, u3, u4, u5, u6⟩⟩ := ex_cells (unveil HZ).1
                go_simp
                obtain ⟨r1, r2, r3, r4⟩ := ex_put (unveil HZ).1 (.int .i64 x0) (.int .i64 x1) (.int .i64 x2) (.int .i64 x3) (.string ⟨x4.toArray⟩) (.slice q3 x5.length c3) (.int .i64 x6) _ rfl
                have HFE := veil ((unveil HF).putBox (unveil HZ).2 (Nat.le_trans (unveil HZ9) (unveil HZ).2) r2 r3)
                have HEE := veil r1
                have HKE : Hid (Kids _ (fun _ => True) (.mk x0 x1 x2 x3 x4 x5 x6) q3) := (unveil HKK).keep (fun g cs fz hg he => ⟨r3 g _ hg he, trivial⟩)
                refine hK _ _ (veil (unveil HFE).be) ?_
                clear hK K r1 r2 r3 r4 z0 z1 z2 z3 z4 z5 z6 zl u0 u1 u2 u3 u4 u5 u6
                iterate 2 (
                 refine sct_pure _ rfl _ (.inl ⟨rfl, fun W hS => (by go_simp; rfl)⟩) (fun B hB => ?_)
                 simp only [List.getElem_toArray, List.getElem_cons_zero, List.getElem_cons_succ, Act.put, List.setIfInBounds_toArray, List.set_cons_zero, List.set_cons_succ] at hB
                 subst hB)
                refine sct_done ?_
                refine listIn_last rfl (fun K hK => ?_)
                go_simp
                refine hK _ _ ?_
                clear hK K
                go_wp2_with fail
                go_meet
                case rel => exact ⟨_, _, _, rfl, rfl, rfl, rfl, HFE, HEE, HKE⟩
            · skip
              refine sct_step _ rfl (fun K hK => ?_)
              go_simp
              have hbn : Below W11.heap.size W11 (W11.alloc (.cells #[.int .i64 0, .int .i64 0, .int .i64 0, .int .i64 0, .string ⟨#[]⟩, .slice none 0 0, .int .i64 0] 24)) := (Below.refl _ W11).alloc (Nat.le_refl _) _
              have HFn : Hid (FrW W3.heap.size W9 (W11.alloc (.cells #[.int .i64 0, .int .i64 0, .int .i64 0, .int .i64 0, .string ⟨#[]⟩, .slice none 0 0, .int .i64 0] 24))) := (unveil HF).below hbn (unveil HN)
              have HNn : Hid (W3.heap.size ≤ (W11.alloc (.cells #[.int .i64 0, .int .i64 0, .int .i64 0, .int .i64 0, .string ⟨#[]⟩, .slice none 0 0, .int .i64 0] 24)).heap.size) := Nat.le_trans (unveil HN) hbn.size
              have HVn := veil (row_below' (unveil HV) hbn)
              have HAn := veil (And.intro (row_below' (unveil HA).1 hbn) (unveil HA).2)
              have HZn : Hid (Bk (W11.alloc (.cells #[.int .i64 0, .int .i64 0, .int .i64 0, .int .i64 0, .string ⟨#[]⟩, .slice none 0 0, .int .i64 0] 24)) W11.heap.size 24 #[.int .i64 0, .int .i64 0, .int .i64 0, .int .i64 0, .string ⟨#[]⟩, .slice none 0 0, .int .i64 0] ∧ W9.heap.size ≤ W11.heap.size) := ⟨Bk.new W11 _ _, (unveil HF).be.size⟩
              refine hK _ _ (veil (unveil HFn).be) ?_
              clear hK K hbn HF HN HV HA
              generalize (W11.alloc (.cells #[.int .i64 0, .int .i64 0, .int .i64 0, .int .i64 0, .string ⟨#[]⟩, .slice none 0 0, .int .i64 0] 24)) = W26 at *
              have HF := HFn; clear HFn
              have HN := HNn; clear HNn
              have HV := HVn; clear HVn
              have HA := HAn; clear HAn
              have HZ := HZn; clear HZn
              refine sct_step _ rfl (fun K hK => ?_)
              go_simp
              have hbn : Below W26.heap.size W26 (W26.alloc (.cells #[.int .i64 5, .string ⟨#[41]⟩, .int .i64 0, .int .i64 0, .string ⟨#[]⟩, .int .i64 0] 42)) := (Below.refl _ W26).alloc (Nat.le_refl _) _
              have HFn : Hid (FrW W3.heap.size W9 (W26.alloc (.cells #[.int .i64 5, .string ⟨#[41]⟩, .int .i64 0, .int .i64 0, .string ⟨#[]⟩, .int .i64 0] 42))) := (unveil HF).below hbn (unveil HN)
              have HNn : Hid (W3.heap.size ≤ (W26.alloc (.cells #[.int .i64 5, .string ⟨#[41]⟩, .int .i64 0, .int .i64 0, .string ⟨#[]⟩, .int .i64 0] 42)).heap.size) := Nat.le_trans (unveil HN) hbn.size
              have HVn := veil (row_below' (unveil HV) hbn)
              have HAn := veil (And.intro (row_below' (unveil HA).1 hbn) (unveil HA).2)
              have HZn := veil (And.intro ((unveil HZ).1.below hbn) (unveil HZ).2)
              have HBn : Hid (Src (W26.alloc (.cells #[.int .i64 5, .string ⟨#[41]⟩, .int .i64 0, .int .i64 0, .string ⟨#[]⟩, .int .i64 0] 42)) (.slice (some ⟨W26.heap.size, 0, none⟩) 1 1) 1 (wdCells [clsW])) := src_row (own_new (base := 0) (Bk.new W26 _ _) rfl rfl (Nat.zero_le _) (by decide)) (wd_one _)
              refine hK _ _ (veil (unveil HFn).be) ?_
              clear hK K hbn HF HN HV HA HZ
              generalize (W26.alloc (.cells #[.int .i64 5, .string ⟨#[41]⟩, .int .i64 0, .int .i64 0, .string ⟨#[]⟩, .int .i64 0] 42)) = W27 at *
              have HF := HFn; clear HFn
              have HN := HNn; clear HNn
              have HV := HVn; clear HVn
              have HA := HAn; clear HAn
              have HBB := HBn; clear HBn
              have HZ := HZn; clear HZn
              refine sct_step _ rfl (fun K hK => ?_)
              refine stepIn_app_Src rfl _ _ 26 rfl W3.heap.size 42 i1 _ 64 Tryz.underlying26 hi1 zw sw bw rfl _ (1 + p1 + 1) _ rfl (unveil HV) _ 1 _ rfl (unveil HBB) (by unfold maxLen; omega) (by omega) (unveil HN) ?_
              intro v67 W28 hown hgrow
              have HFn := veil ((unveil HF).growX (unveil HV) hgrow (unveil HN))
              have HNn : Hid (W3.heap.size ≤ W28.heap.size) := Nat.le_trans (unveil HN) hgrow.size
              have HCn : Hid (Src W28 v67 (1 + p1 + 1 + 1) (wdCells [opnW] ++ wdCells ws ++ wdCells [clsW] ++ wdCells [clsW])) := src_row hown (fun u hu => wd_one ([opnW] ++ ws ++ [clsW] ++ [clsW]) u (by rw [wdCells_app, wdCells_app, wdCells_app]; exact hu))
              have HAn := veil (And.intro (row_other (unveil HA).1 hgrow (Nat.ne_of_gt (unveil HA).2)) trivial)
              have HZn := veil (And.intro (bk_grow (unveil HZ).1 (by decide) hgrow (row_at (unveil HV)).2.choose_spec) (unveil HZ).2)
              simp only [List.getElem_toArray, List.getElem_cons_zero, List.getElem_cons_succ, Act.put, List.setIfInBounds_toArray, List.set_cons_zero, List.set_cons_succ]
              refine hK _ _ (veil (unveil HFn).be) ?_
              clear hK K hown hgrow HF HN HV HBB HA HZ
              have HF := HFn; clear HFn; have HN := HNn; clear HNn
              have HCC := HCn; clear HCn
              have HA := HAn; clear HAn
              have HZ := HZn; clear HZn
              refine sct_step _ rfl (fun K hK => ?_)
              refine stepIn_app_Src rfl _ _ 26 rfl W3.heap.size 42 i1 _ 64 Tryz.underlying26 hi1 zw sw bw rfl _ 2 _ rfl (unveil HA).1 _ (1 + p1 + 1 + 1) _ rfl (unveil HCC) (by unfold maxLen; omega) (by omega) (unveil HN) ?_
              intro v68 W29 hown hgrow
              have HFn := veil ((unveil HF).growX (unveil HA).1 hgrow (unveil HN))
              have HNn : Hid (W3.heap.size ≤ W29.heap.size) := Nat.le_trans (unveil HN) hgrow.size
              have HDn := veil hown
              have HZn := veil (And.intro (bk_grow (unveil HZ).1 (by decide) hgrow (row_at (unveil HA).1).2.choose_spec) (unveil HZ).2)
              simp only [List.getElem_toArray, List.getElem_cons_zero, List.getElem_cons_succ, Act.put, List.setIfInBounds_toArray, List.set_cons_zero, List.set_cons_succ]
              refine hK _ _ (veil (unveil HFn).be) ?_
              clear hK K hown hgrow HF HN HA HCC HZ
              have HF := HFn; clear HFn; have HN := HNn; clear HNn
              have HDD := HDn; clear HDn
              have HZ := HZn; clear HZn
              refine sct_step _ rfl (fun K hK => ?_)
              go_simp
              refine ⟨trivial, rfl, (callsIn_wide.2 (unveil HP3 _ W29 W3.heap.size ((unveil HB3).trans (((unveil HF9).be.trans (unveil HF).be).mono (unveil HB3).size)) (unveil HDD))).mono ?_⟩
              rintro e W30 ⟨q3, c3, rfl, hk3, hbn⟩
              have HFn := veil ((unveil HF).below hbn (unveil HN))
              have HNn : Hid (W3.heap.size ≤ W30.heap.size) := Nat.le_trans (unveil HN) hbn.size
              have HZn := veil (And.intro ((unveil HZ).1.below hbn) (unveil HZ).2)
              have HKK := veil (hk3.mono (K' := fun g => g ≠ W11.heap.size) (fun g _ hg => by have := (unveil HZ).1.lt; omega))
              refine hK _ _ (veil (unveil HFn).be) ?_
              clear hK K hk3 hbn HF HN HDD HZ
              have HF := HFn; clear HFn; have HN := HNn; clear HNn
              have HZ := HZn; clear HZn
              iterate 5 (
               refine sct_pure _ rfl _ (.inl ⟨rfl, fun W hS => (by go_simp; rfl)⟩) (fun B hB => ?_)
               simp only [List.getElem_toArray, List.getElem_cons_zero, List.getElem_cons_succ, Act.put, List.setIfInBounds_toArray, List.set_cons_zero, List.set_cons_succ] at hB
               subst hB)
              refine sct_step _ rfl (fun K hK => ?_)
              obtain ⟨⟨z0, z1, z2, z3, z4, z5, z6⟩, zl, ⟨u0, u1, u2, u3, u4, u5, u6⟩⟩ := ex_cells (unveil HZ).1
              go_simp
              obtain ⟨r1, r2, r3, r4⟩ := ex_put (unveil HZ).1 (.int .i64 x0) (.int .i64 x1) (.int .i64 x2) (.int .i64 x3) (.string ⟨x4.toArray⟩) (.slice q3 x5.length c3) (.int .i64 x6) _ rfl
              have HFE := veil ((unveil HF).putBox (unveil HZ).2 (Nat.le_trans (unveil HZ9) (unveil HZ).2) r2 r3)
              have HEE := veil r1
              have HKE : Hid (Kids _ (fun _ => True) (.mk x0 x1 x2 x3 x4 x5 x6) q3) := (unveil HKK).keep (fun g cs fz hg he => ⟨r3 g _ hg he, trivial⟩)
              refine hK _ _ (veil (unveil HFE).be) ?_
              clear hK K r1 r2 r3 r4 z0 z1 z2 z3 z4 z5 z6 zl u0 u1 u2 u3 u4 u5 u6
              iterate 2 (
               refine sct_pure _ rfl _ (.inl ⟨rfl, fun W hS => (by go_simp; rfl)⟩) (fun B hB => ?_)
               simp only [List.getElem_toArray, List.getElem_cons_zero, List.getElem_cons_succ, Act.put, List.setIfInBounds_toArray, List.set_cons_zero, List.set_cons_succ] at hB
               subst hB)
              refine sct_done ?_
              refine listIn_last rfl (fun K hK => ?_)
              go_simp
              refine hK _ _ ?_
              clear hK K
              go_wp2_with fail
              go_meet
              case rel => exact ⟨_, _, _, rfl, rfl, rfl, rfl, HFE, HEE, HKE⟩
          · skip
            refine sct_step _ rfl (fun K hK => ?_)
            go_simp
            have hbn : Below W11.heap.size W11 (W11.alloc (.cells #[.int .i64 0, .int .i64 0, .int .i64 0, .int .i64 0, .string ⟨#[]⟩, .slice none 0 0, .int .i64 0] 24)) := (Below.refl _ W11).alloc (Nat.le_refl _) _
            have HFn : Hid (FrW W3.heap.size W9 (W11.alloc (.cells #[.int .i64 0, .int .i64 0, .int .i64 0, .int .i64 0, .string ⟨#[]⟩, .slice none 0 0, .int .i64 0] 24))) := (unveil HF).below hbn (unveil HN)
            have HNn : Hid (W3.heap.size ≤ (W11.alloc (.cells #[.int .i64 0, .int .i64 0, .int .i64 0, .int .i64 0, .string ⟨#[]⟩, .slice none 0 0, .int .i64 0] 24)).heap.size) := Nat.le_trans (unveil HN) hbn.size
            have HVn := veil (row_below' (unveil HV) hbn)
            have HAn := veil (And.intro (row_below' (unveil HA).1 hbn) (unveil HA).2)
            have HZn : Hid (Bk (W11.alloc (.cells #[.int .i64 0, .int .i64 0, .int .i64 0, .int .i64 0, .string ⟨#[]⟩, .slice none 0 0, .int .i64 0] 24)) W11.heap.size 24 #[.int .i64 0, .int .i64 0, .int .i64 0, .int .i64 0, .string ⟨#[]⟩, .slice none 0 0, .int .i64 0] ∧ W9.heap.size ≤ W11.heap.size) := ⟨Bk.new W11 _ _, (unveil HF).be.size⟩
            refine hK _ _ (veil (unveil HFn).be) ?_
            clear hK K hbn HF HN HV HA
            generalize (W11.alloc (.cells #[.int .i64 0, .int .i64 0, .int .i64 0, .int .i64 0, .string ⟨#[]⟩, .slice none 0 0, .int .i64 0] 24)) = W31 at *
            have HF := HFn; clear HFn
            have HN := HNn; clear HNn
            have HV := HVn; clear HVn
            have HA := HAn; clear HAn
            have HZ := HZn; clear HZn
            refine sct_step _ rfl (fun K hK => ?_)
            obtain ⟨l0, l1, l2, l3, l4, l5, ll⟩ := last_cells (unveil HV)
            simp only [clsW] at l0 l1 l2 l3 l4 l5
            go_simp
            refine hK _ _ (veil (unveil HF).be) ?_
            clear hK K l0 l1 l2 l3 l4 l5 ll
            refine sct_step _ rfl (fun K hK => ?_)
            go_simp
            have hbn : Below W31.heap.size W31 (W31.alloc (.cells #[.int .i64 5, .string ⟨#[41]⟩, .int .i64 0, .int .i64 0, .string ⟨#[]⟩, .int .i64 0] 42)) := (Below.refl _ W31).alloc (Nat.le_refl _) _
            have HFn : Hid (FrW W3.heap.size W9 (W31.alloc (.cells #[.int .i64 5, .string ⟨#[41]⟩, .int .i64 0, .int .i64 0, .string ⟨#[]⟩, .int .i64 0] 42))) := (unveil HF).below hbn (unveil HN)
            have HNn : Hid (W3.heap.size ≤ (W31.alloc (.cells #[.int .i64 5, .string ⟨#[41]⟩, .int .i64 0, .int .i64 0, .string ⟨#[]⟩, .int .i64 0] 42)).heap.size) := Nat.le_trans (unveil HN) hbn.size
            have HVn := veil (row_below' (unveil HV) hbn)
            have HAn := veil (And.intro (row_below' (unveil HA).1 hbn) (unveil HA).2)
            have HZn := veil (And.intro ((unveil HZ).1.below hbn) (unveil HZ).2)
            have HBn : Hid (Src (W31.alloc (.cells #[.int .i64 5, .string ⟨#[41]⟩, .int .i64 0, .int .i64 0, .string ⟨#[]⟩, .int .i64 0] 42)) (.slice (some ⟨W31.heap.size, 0, none⟩) 1 1) 1 (wdCells [clsW])) := src_row (own_new (base := 0) (Bk.new W31 _ _) rfl rfl (Nat.zero_le _) (by decide)) (wd_one _)
            refine hK _ _ (veil (unveil HFn).be) ?_
            clear hK K hbn HF HN HV HA HZ
            generalize (W31.alloc (.cells #[.int .i64 5, .string ⟨#[41]⟩, .int .i64 0, .int .i64 0, .string ⟨#[]⟩, .int .i64 0] 42)) = W32 at *
            have HF := HFn; clear HFn
            have HN := HNn; clear HNn
            have HV := HVn; clear HVn
            have HA := HAn; clear HAn
            have HBB := HBn; clear HBn
            have HZ := HZn; clear HZn
            refine sct_step _ rfl (fun K hK => ?_)
            refine stepIn_app_Src rfl _ _ 26 rfl W3.heap.size 42 i1 _ 64 Tryz.underlying26 hi1 zw sw bw rfl _ (1 + p1 + 1) _ rfl (unveil HV) _ 1 _ rfl (unveil HBB) (by unfold maxLen; omega) (by omega) (unveil HN) ?_
            intro v67 W33 hown hgrow
            have HFn := veil ((unveil HF).growX (unveil HV) hgrow (unveil HN))
            have HNn : Hid (W3.heap.size ≤ W33.heap.size) := Nat.le_trans (unveil HN) hgrow.size
            have HCn : Hid (Src W33 v67 (1 + p1 + 1 + 1) (wdCells [opnW] ++ wdCells ws ++ wdCells [clsW] ++ wdCells [clsW])) := src_row hown (fun u hu => wd_one ([opnW] ++ ws ++ [clsW] ++ [clsW]) u (by rw [wdCells_app, wdCells_app, wdCells_app]; exact hu))
            have HAn := veil (And.intro (row_other (unveil HA).1 hgrow (Nat.ne_of_gt (unveil HA).2)) trivial)
            have HZn := veil (And.intro (bk_grow (unveil HZ).1 (by decide) hgrow (row_at (unveil HV)).2.choose_spec) (unveil HZ).2)
            simp only [List.getElem_toArray, List.getElem_cons_zero, List.getElem_cons_succ, Act.put, List.setIfInBounds_toArray, List.set_cons_zero, List.set_cons_succ]
            refine hK _ _ (veil (unveil HFn).be) ?_
            clear hK K hown hgrow HF HN HV HBB HA HZ
            have HF := HFn; clear HFn; have HN := HNn; clear HNn
            have HCC := HCn; clear HCn
            have HA := HAn; clear HAn
            have HZ := HZn; clear HZn
            refine sct_step _ rfl (fun K hK => ?_)
            refine stepIn_app_Src rfl _ _ 26 rfl W3.heap.size 42 i1 _ 64 Tryz.underlying26 hi1 zw sw bw rfl _ 2 _ rfl (unveil HA).1 _ (1 + p1 + 1 + 1) _ rfl (unveil HCC) (by unfold maxLen; omega) (by omega) (unveil HN) ?_
            intro v68 W34 hown hgrow
            have HFn := veil ((unveil HF).growX (unveil HA).1 hgrow (unveil HN))
            have HNn : Hid (W3.heap.size ≤ W34.heap.size) := Nat.le_trans (unveil HN) hgrow.size
            have HDn := veil hown
            have HZn := veil (And.intro (bk_grow (unveil HZ).1 (by decide) hgrow (row_at (unveil HA).1).2.choose_spec) (unveil HZ).2)
            simp only [List.getElem_toArray, List.getElem_cons_zero, List.getElem_cons_succ, Act.put, List.setIfInBounds_toArray, List.set_cons_zero, List.set_cons_succ]
            refine hK _ _ (veil (unveil HFn).be) ?_
            clear hK K hown hgrow HF HN HA HCC HZ
            have HF := HFn; clear HFn; have HN := HNn; clear HNn
            have HDD := HDn; clear HDn
            have HZ := HZn; clear HZn
            refine sct_step _ rfl (fun K hK => ?_)
            go_simp
            refine ⟨trivial, rfl, (callsIn_wide.2 (unveil HP3 _ W34 W3.heap.size ((unveil HB3).trans (((unveil HF9).be.trans (unveil HF).be).mono (unveil HB3).size)) (unveil HDD))).mono ?_⟩
            rintro e W35 ⟨q3, c3, rfl, hk3, hbn⟩
            have HFn := veil ((unveil HF).below hbn (unveil HN))
            have HNn : Hid (W3.heap.size ≤ W35.heap.size) := Nat.le_trans (unveil HN) hbn.size
            have HZn := veil (And.intro ((unveil HZ).1.below hbn) (unveil HZ).2)
            have HKK := veil (hk3.mono (K' := fun g => g ≠ W11.heap.size) (fun g _ hg => by have := (unveil HZ).1.lt; omega))
            refine hK _ _ (veil (unveil HFn).be) ?_
            clear hK K hk3 hbn HF HN HDD HZ
            have HF := HFn; clear HFn; have HN := HNn; clear HNn
            have HZ := HZn; clear HZn
            iterate 5 (
             refine sct_pure _ rfl _ (.inl ⟨rfl, fun W hS => (by go_simp; rfl)⟩) (fun B hB => ?_)
             simp only [List.getElem_toArray, List.getElem_cons_zero, List.getElem_cons_succ, Act.put, List.setIfInBounds_toArray, List.set_cons_zero, List.set_cons_succ] at hB
             subst hB)
            refine sct_step _ rfl (fun K hK => ?_)
            obtain ⟨⟨z0, z1, z2, z3, z4, z5, z6⟩, zl, ⟨u0, u1, u2, u3, u4, u5, u6⟩⟩ := ex_cells (unveil HZ).1
            go_simp
            obtain ⟨r1, r2, r3, r4⟩ := ex_put (unveil HZ).1 (.int .i64 x0) (.int .i64 x1) (.int .i64 x2) (.int .i64 x3) (.string ⟨x4.toArray⟩) (.slice q3 x5.length c3) (.int .i64 x6) _ rfl
            have HFE := veil ((unveil HF).putBox (unveil HZ).2 (Nat.le_trans (unveil HZ9) (unveil HZ).2) r2 r3)
            have HEE := veil r1
            have HKE : Hid (Kids _ (fun _ => True) (.mk x0 x1 x2 x3 x4 x5 x6) q3) := (unveil HKK).keep (fun g cs fz hg he => ⟨r3 g _ hg he, trivial⟩)
            refine hK _ _ (veil (unveil HFE).be) ?_
            clear hK K r1 r2 r3 r4 z0 z1 z2 z3 z4 z5 z6 zl u0 u1 u2 u3 u4 u5 u6
            iterate 2 (
             refine sct_pure _ rfl _ (.inl ⟨rfl, fun W hS => (by go_simp; rfl)⟩) (fun B hB => ?_)
             simp only [List.getElem_toArray, List.getElem_cons_zero, List.getElem_cons_succ, Act.put, List.setIfInBounds_toArray, List.set_cons_zero, List.set_cons_succ] at hB
             subst hB)
            refine sct_done ?_
            refine listIn_last rfl (fun K hK => ?_)
            go_simp
            refine hK _ _ ?_
            clear hK K
            go_wp2_with fail
            go_meet
            case rel => exact ⟨_, _, _, rfl, rfl, rfl, rfl, HFE, HEE, HKE⟩
        · skip
          refine sct_step _ rfl (fun K hK => ?_)
          obtain ⟨l0, l1, l2, l3, l4, l5, ll⟩ := last_cells (unveil HV)
          simp only [clsW] at l0 l1 l2 l3 l4 l5
          go_simp
          refine hK _ _ (veil (unveil HF).be) ?_
          clear hK K l0 l1 l2 l3 l4 l5 ll
          refine sct_three ?_ ?_ ?_
          · skip
            refine sct_step _ rfl (fun K hK => ?_)
            go_simp
            have hbn : Below W10.heap.size W10 (W10.alloc (.cells #[.int .i64 5, .string ⟨#[40]⟩, .int .i64 0, .int .i64 0, .string ⟨#[]⟩, .int .i64 0, .int .i64 5, .string ⟨#[43]⟩, .int .i64 0, .int .i64 0, .string ⟨#[]⟩, .int .i64 0] 42)) := (Below.refl _ W10).alloc (Nat.le_refl _) _
            have HFn : Hid (FrW W3.heap.size W9 (W10.alloc (.cells #[.int .i64 5, .string ⟨#[40]⟩, .int .i64 0, .int .i64 0, .string ⟨#[]⟩, .int .i64 0, .int .i64 5, .string ⟨#[43]⟩, .int .i64 0, .int .i64 0, .string ⟨#[]⟩, .int .i64 0] 42))) := (unveil HF).below hbn (unveil HN)
            have HNn : Hid (W3.heap.size ≤ (W10.alloc (.cells #[.int .i64 5, .string ⟨#[40]⟩, .int .i64 0, .int .i64 0, .string ⟨#[]⟩, .int .i64 0, .int .i64 5, .string ⟨#[43]⟩, .int .i64 0, .int .i64 0, .string ⟨#[]⟩, .int .i64 0] 42)).heap.size) := Nat.le_trans (unveil HN) hbn.size
            have HVn := veil (row_below' (unveil HV) hbn)
            have HAn : Hid ((W10.alloc (.cells #[.int .i64 5, .string ⟨#[40]⟩, .int .i64 0, .int .i64 0, .string ⟨#[]⟩, .int .i64 0, .int .i64 5, .string ⟨#[43]⟩, .int .i64 0, .int .i64 0, .string ⟨#[]⟩, .int .i64 0] 42)).ownsRow W3.heap.size 42 6 (.slice (some ⟨W10.heap.size, 0, none⟩) 2 2) 2 (wdCells [opnW, plsW]) ∧ g7 < W10.heap.size) := ⟨own_new (Bk.new W10 _ _) rfl rfl (unveil HN) (by decide), ((unveil HV).lt g7 rfl).2⟩
            refine hK _ _ (veil (unveil HFn).be) ?_
            clear hK K hbn HF HN HV
            generalize (W10.alloc (.cells #[.int .i64 5, .string ⟨#[40]⟩, .int .i64 0, .int .i64 0, .string ⟨#[]⟩, .int .i64 0, .int .i64 5, .string ⟨#[43]⟩, .int .i64 0, .int .i64 0, .string ⟨#[]⟩, .int .i64 0] 42)) = W36 at *
            have HF := HFn; clear HFn
            have HN := HNn; clear HNn
            have HV := HVn; clear HVn
            have HA := HAn; clear HAn
            refine sct_both ?_ ?_
            · skip
              refine sct_step _ rfl (fun K hK => ?_)
              go_simp
              have hbn : Below W36.heap.size W36 (W36.alloc (.cells #[.int .i64 5, .string ⟨#[41]⟩, .int .i64 0, .int .i64 0, .string ⟨#[]⟩, .int .i64 0] 42)) := (Below.refl _ W36).alloc (Nat.le_refl _) _
              have HFn : Hid (FrW W3.heap.size W9 (W36.alloc (.cells #[.int .i64 5, .string ⟨#[41]⟩, .int .i64 0, .int .i64 0, .string ⟨#[]⟩, .int .i64 0] 42))) := (unveil HF).below hbn (unveil HN)
              have HNn : Hid (W3.heap.size ≤ (W36.alloc (.cells #[.int .i64 5, .string ⟨#[41]⟩, .int .i64 0, .int .i64 0, .string ⟨#[]⟩, .int .i64 0] 42)).heap.size) := Nat.le_trans (unveil HN) hbn.size
              have HVn := veil (row_below' (unveil HV) hbn)
              have HAn := veil (And.intro (row_below' (unveil HA).1 hbn) (unveil HA).2)
              have HBn : Hid (Src (W36.alloc (.cells #[.int .i64 5, .string ⟨#[41]⟩, .int .i64 0, .int .i64 0, .string ⟨#[]⟩, .int .i64 0] 42)) (.slice (some ⟨W36.heap.size, 0, none⟩) 1 1) 1 (wdCells [clsW])) := src_row (own_new (base := 0) (Bk.new W36 _ _) rfl rfl (Nat.zero_le _) (by decide)) (wd_one _)
              refine hK _ _ (veil (unveil HFn).be) ?_
              clear hK K hbn HF HN HV HA
              generalize (W36.alloc (.cells #[.int .i64 5, .string ⟨#[41]⟩, .int .i64 0, .int .i64 0, .string ⟨#[]⟩, .int .i64 0] 42)) = W37 at *
              have HF := HFn; clear HFn
              have HN := HNn; clear HNn
              have HV := HVn; clear HVn
              have HA := HAn; clear HAn
              have HBB := HBn; clear HBn
              refine sct_both ?_ ?_
              · skip
                refine sct_step _ rfl (fun K hK => ?_)
                refine stepIn_app_Src rfl _ _ 26 rfl W3.heap.size 42 i1 _ 64 Tryz.underlying26 hi1 zw sw bw rfl _ (1 + p1 + 1) _ rfl (unveil HV) _ 1 _ rfl (unveil HBB) (by unfold maxLen; omega) (by omega) (unveil HN) ?_
                intro v67 W38 hown hgrow
                have HFn := veil ((unveil HF).growX (unveil HV) hgrow (unveil HN))
                have HNn : Hid (W3.heap.size ≤ W38.heap.size) := Nat.le_trans (unveil HN) hgrow.size
                have HCn : Hid (Src W38 v67 (1 + p1 + 1 + 1) (wdCells [opnW] ++ wdCells ws ++ wdCells [clsW] ++ wdCells [clsW])) := src_row hown (fun u hu => wd_one ([opnW] ++ ws ++ [clsW] ++ [clsW]) u (by rw [wdCells_app, wdCells_app, wdCells_app]; exact hu))
                have HAn := veil (And.intro (row_other (unveil HA).1 hgrow (Nat.ne_of_gt (unveil HA).2)) trivial)
                simp only [List.getElem_toArray, List.getElem_cons_zero, List.getElem_cons_succ, Act.put, List.setIfInBounds_toArray, List.set_cons_zero, List.set_cons_succ]
                refine hK _ _ (veil (unveil HFn).be) ?_
                clear hK K hown hgrow HF HN HV HBB HA
                have HF := HFn; clear HFn; have HN := HNn; clear HNn
                have HCC := HCn; clear HCn
                have HA := HAn; clear HAn
                refine sct_both ?_ ?_
                · skip
                  refine sct_step _ rfl (fun K hK => ?_)
                  refine stepIn_app_Src rfl _ _ 26 rfl W3.heap.size 42 i1 _ 64 Tryz.underlying26 hi1 zw sw bw rfl _ 2 _ rfl (unveil HA).1 _ (1 + p1 + 1 + 1) _ rfl (unveil HCC) (by unfold maxLen; omega) (by omega) (unveil HN) ?_
                  intro v68 W39 hown hgrow
                  have HFn := veil ((unveil HF).growX (unveil HA).1 hgrow (unveil HN))
                  have HNn : Hid (W3.heap.size ≤ W39.heap.size) := Nat.le_trans (unveil HN) hgrow.size
                  have HDn := veil hown
                  simp only [List.getElem_toArray, List.getElem_cons_zero, List.getElem_cons_succ, Act.put, List.setIfInBounds_toArray, List.set_cons_zero, List.set_cons_succ]
                  refine hK _ _ (veil (unveil HFn).be) ?_
                  clear hK K hown hgrow HF HN HA HCC
                  have HF := HFn; clear HFn; have HN := HNn; clear HNn
                  have HDD := HDn; clear HDn
                  refine sct_both ?_ ?_
                  · skip
                    refine sct_step _ rfl (fun K hK => ?_)
                    go_simp
                    refine ⟨trivial, rfl, (callsIn_wide.2 (unveil HP3 _ W39 W3.heap.size ((unveil HB3).trans (((unveil HF9).be.trans (unveil HF).be).mono (unveil HB3).size)) (unveil HDD))).mono ?_⟩
                    rintro e W40 ⟨q3, c3, rfl, hk3, hbn⟩
                    have HFn := veil ((unveil HF).below hbn (unveil HN))
                    have HNn : Hid (W3.heap.size ≤ W40.heap.size) := Nat.le_trans (unveil HN) hbn.size
                    have HKK := veil hk3
                    refine hK _ _ (veil (unveil HFn).be) ?_
                    clear hK K hk3 hbn HF HN HDD
                    have HF := HFn; clear HFn; have HN := HNn; clear HNn
                    iterate 5 (
                     refine sct_pure _ rfl _ (.inl ⟨rfl, fun W hS => (by go_simp; rfl)⟩) (fun B hB => ?_)
                     simp only [List.getElem_toArray, List.getElem_cons_zero, List.getElem_cons_succ, Act.put, List.setIfInBounds_toArray, List.set_cons_zero, List.set_cons_succ] at hB
                     subst hB)
                    refine sct_step _ rfl (fun K hK => ?_)
                    go_simp
                    have hbn : Below W40.heap.size W40 (W40.alloc (.cells #[.int .i64 0, .int .i64 0, .int .i64 0, .int .i64 0, .string ⟨#[]⟩, .slice none 0 0, .int .i64 0] 24)) := (Below.refl _ W40).alloc (Nat.le_refl _) _
                    have HFn : Hid (FrW W3.heap.size W9 (W40.alloc (.cells #[.int .i64 0, .int .i64 0, .int .i64 0, .int .i64 0, .string ⟨#[]⟩, .slice none 0 0, .int .i64 0] 24))) := (unveil HF).below hbn (unveil HN)
                    have HNn : Hid (W3.heap.size ≤ (W40.alloc (.cells #[.int .i64 0, .int .i64 0, .int .i64 0, .int .i64 0, .string ⟨#[]⟩, .slice none 0 0, .int .i64 0] 24)).heap.size) := Nat.le_trans (unveil HN) hbn.size
                    have HZn : Hid (Bk (W40.alloc (.cells #[.int .i64 0, .int .i64 0, .int .i64 0, .int .i64 0, .string ⟨#[]⟩, .slice none 0 0, .int .i64 0] 24)) W40.heap.size 24 #[.int .i64 0, .int .i64 0, .int .i64 0, .int .i64 0, .string ⟨#[]⟩, .slice none 0 0, .int .i64 0] ∧ W9.heap.size ≤ W40.heap.size) := ⟨Bk.new W40 _ _, (unveil HF).be.size⟩
                    have HKn : Hid (Kids (W40.alloc (.cells #[.int .i64 0, .int .i64 0, .int .i64 0, .int .i64 0, .string ⟨#[]⟩, .slice none 0 0, .int .i64 0] 24)) (fun g => g ≠ W40.heap.size) (.mk x0 x1 x2 x3 x4 x5 x6) q3) := ((unveil HKK).mono (fun g hg _ => by omega)).below hbn
                    refine hK _ _ (veil (unveil HFn).be) ?_
                    clear hK K hbn HF HN HKK
                    generalize (W40.alloc (.cells #[.int .i64 0, .int .i64 0, .int .i64 0, .int .i64 0, .string ⟨#[]⟩, .slice none 0 0, .int .i64 0] 24)) = W41 at *
                    have HF := HFn; clear HFn
                    have HN := HNn; clear HNn
                    have HZ := HZn; clear HZn
                    have HKK := HKn; clear HKn
                    refine sct_step _ rfl (fun K hK => ?_)
                    obtain ⟨⟨z0, z1, z2, z3, z4, z5, z6⟩, zl, ⟨u0, u1, u2, u3, u4, u5, u6⟩⟩ := ex_cells (unveil HZ).1
                    go_simp
                    obtain ⟨r1, r2, r3, r4⟩ := ex_put (unveil HZ).1 (.int .i64 x0) (.int .i64 x1) (.int .i64 x2) (.int .i64 x3) (.string ⟨x4.toArray⟩) (.slice q3 x5.length c3) (.int .i64 x6) _ rfl
                    have HFE := veil ((unveil HF).putBox (unveil HZ).2 (Nat.le_trans (unveil HZ9) (unveil HZ).2) r2 r3)
                    have HEE := veil r1
                    have HKE : Hid (Kids _ (fun _ => True) (.mk x0 x1 x2 x3 x4 x5 x6) q3) := (unveil HKK).keep (fun g cs fz hg he => ⟨r3 g _ hg he, trivial⟩)
                    refine hK _ _ (veil (unveil HFE).be) ?_
                    clear hK K r1 r2 r3 r4 z0 z1 z2 z3 z4 z5 z6 zl u0 u1 u2 u3 u4 u5 u6
                    iterate 2 (
                     refine sct_pure _ rfl _ (.inl ⟨rfl, fun W hS => (by go_simp; rfl)⟩) (fun B hB => ?_)
                     simp only [List.getElem_toArray, List.getElem_cons_zero, List.getElem_cons_succ, Act.put, List.setIfInBounds_toArray, List.set_cons_zero, List.set_cons_succ] at hB
                     subst hB)
                    refine sct_done ?_
                    refine listIn_last rfl (fun K hK => ?_)
                    go_simp
                    refine hK _ _ ?_
                    clear hK K
                    go_wp2_with fail
                    go_meet
                    case rel => exact ⟨_, _, _, rfl, rfl, rfl, rfl, HFE, HEE, HKE⟩
                  · skip
                    refine sct_step _ rfl (fun K hK => ?_)
                    go_simp
                    have hbn : Below W39.heap.size W39 (W39.alloc (.cells #[.int .i64 0, .int .i64 0, .int .i64 0, .int .i64 0, .string ⟨#[]⟩, .slice none 0 0, .int .i64 0] 24)) := (Below.refl _ W39).alloc (Nat.le_refl _) _
                    have HFn : Hid (FrW W3.heap.size W9 (W39.alloc (.cells #[.int .i64 0, .int .i64 0, .int .i64 0, .int .i64 0, .string ⟨#[]⟩, .slice none 0 0, .int .i64 0] 24))) := (unveil HF).below hbn (unveil HN)
                    have HNn : Hid (W3.heap.size ≤ (W39.alloc (.cells #[.int .i64 0, .int .i64 0, .int .i64 0, .int .i64 0, .string ⟨#[]⟩, .slice none 0 0, .int .i64 0] 24)).heap.size) := Nat.le_trans (unveil HN) hbn.size
                    have HDn := veil (row_below' (unveil HDD) hbn)
                    have HZn : Hid (Bk (W39.alloc (.cells #[.int .i64 0, .int .i64 0, .int .i64 0, .int .i64 0, .string ⟨#[]⟩, .slice none 0 0, .int .i64 0] 24)) W39.heap.size 24 #[.int .i64 0, .int .i64 0, .int .i64 0, .int .i64 0, .string ⟨#[]⟩, .slice none 0 0, .int .i64 0] ∧ W9.heap.size ≤ W39.heap.size) := ⟨Bk.new W39 _ _, (unveil HF).be.size⟩
                    refine hK _ _ (veil (unveil HFn).be) ?_
                    clear hK K hbn HF HN HDD
                    generalize (W39.alloc (.cells #[.int .i64 0, .int .i64 0, .int .i64 0, .int .i64 0, .string ⟨#[]⟩, .slice none 0 0, .int .i64 0] 24)) = W42 at *
                    have HF := HFn; clear HFn
                    have HN := HNn; clear HNn
                    have HDD := HDn; clear HDn
                    have HZ := HZn; clear HZn
                    refine sct_step _ rfl (fun K hK => ?_)
                    go_simp
                    refine ⟨trivial, rfl, (callsIn_wide.2 (unveil HP3 _ W42 W3.heap.size ((unveil HB3).trans (((unveil HF9).be.trans (unveil HF).be).mono (unveil HB3).size)) (unveil HDD))).mono ?_⟩
                    rintro e W43 ⟨q3, c3, rfl, hk3, hbn⟩
                    have HFn := veil ((unveil HF).below hbn (unveil HN))
                    have HNn : Hid (W3.heap.size ≤ W43.heap.size) := Nat.le_trans (unveil HN) hbn.size
                    have HZn := veil (And.intro ((unveil HZ).1.below hbn) (unveil HZ).2)
                    have HKK := veil (hk3.mono (K' := fun g => g ≠ W39.heap.size) (fun g _ hg => by have := (unveil HZ).1.lt; omega))
                    refine hK _ _ (veil (unveil HFn).be) ?_
                    clear hK K hk3 hbn HF HN HDD HZ
                    have HF := HFn; clear HFn; have HN := HNn; clear HNn
                    have HZ := HZn; clear HZn
                    iterate 5 (
                     refine sct_pure _ rfl _ (.inl ⟨rfl, fun W hS => (by go_simp; rfl)⟩) (fun B hB => ?_)
                     simp only [List.getElem_toArray, List.getElem_cons_zero, List.getElem_cons_succ, Act.put, List.setIfInBounds_toArray, List.set_cons_zero, List.set_cons_succ] at hB
                     subst hB)
                    refine sct_step _ rfl (fun K hK => ?_)
                    obtain ⟨⟨z0, z1, z2, z3, z4, z5, z6⟩, zl, ⟨u0, u1, u2, u3, u4, u5, u6⟩⟩ := ex_cells (unveil HZ).1
                    go_simp
                    obtain ⟨r1, r2, r3, r4⟩ := ex_put (unveil HZ).1 (.int .i64 x0) (.int .i64 x1) (.int .i64 x2) (.int .i64 x3) (.string ⟨x4.toArray⟩) (.slice q3 x5.length c3) (.int .i64 x6) _ rfl
                    have HFE := veil ((unveil HF).putBox (unveil HZ).2 (Nat.le_trans (unveil HZ9) (unveil HZ).2) r2 r3)
                    have HEE := veil r1
                    have HKE : Hid (Kids _ (fun _ => True) (.mk x0 x1 x2 x3 x4 x5 x6) q3) := (unveil HKK).keep (fun g cs fz hg he => ⟨r3 g _ hg he, trivial⟩)
                    refine hK _ _ (veil (unveil HFE).be) ?_
                    clear hK K r1 r2 r3 r4 z0 z1 z2 z3 z4 z5 z6 zl u0 u1 u2 u3 u4 u5 u6
                    iterate 2 (
                     refine sct_pure _ rfl _ (.inl ⟨rfl, fun W hS => (by go_simp; rfl)⟩) (fun B hB => ?_)
                     simp only [List.getElem_toArray, List.getElem_cons_zero, List.getElem_cons_succ, Act.put, List.setIfInBounds_toArray, List.set_cons_zero, List.set_cons_succ] at hB
                     subst hB)
                    refine sct_done ?_
                    refine listIn_last rfl (fun K hK => ?_)
                    go_simp
                    refine hK _ _ ?_
                    clear hK K
                    go_wp2_with fail
                    go_meet
                    case rel => exact ⟨_, _, _, rfl, rfl, rfl, rfl, HFE, HEE, HKE⟩
                · skip
                  refine sct_step _ rfl (fun K hK => ?_)
                  go_simp
                  have hbn : Below W38.heap.size W38 (W38.alloc (.cells #[.int .i64 0, .int .i64 0, .int .i64 0, .int .i64 0, .string ⟨#[]⟩, .slice none 0 0, .int .i64 0] 24)) := (Below.refl _ W38).alloc (Nat.le_refl _) _
                  have HFn : Hid (FrW W3.heap.size W9 (W38.alloc (.cells #[.int .i64 0, .int .i64 0, .int .i64 0, .int .i64 0, .string ⟨#[]⟩, .slice none 0 0, .int .i64 0] 24))) := (unveil HF).below hbn (unveil HN)
                  have HNn : Hid (W3.heap.size ≤ (W38.alloc (.cells #[.int .i64 0, .int .i64 0, .int .i64 0, .int .i64 0, .string ⟨#[]⟩, .slice none 0 0, .int .i64 0] 24)).heap.size) := Nat.le_trans (unveil HN) hbn.size
                  have HAn := veil (And.intro (row_below' (unveil HA).1 hbn) (unveil HA).2)
                  have HCn := veil ((unveil HCC).below hbn)
                  have HZn : Hid (Bk (W38.alloc (.cells #[.int .i64 0, .int .i64 0, .int .i64 0, .int .i64 0, .string ⟨#[]⟩, .slice none 0 0, .int .i64 0] 24)) W38.heap.size 24 #[.int .i64 0, .int .i64 0, .int .i64 0, .int .i64 0, .string ⟨#[]⟩, .slice none 0 0, .int .i64 0] ∧ W9.heap.size ≤ W38.heap.size) := ⟨Bk.new W38 _ _, (unveil HF).be.size⟩
                  refine hK _ _ (veil (unveil HFn).be) ?_
                  clear hK K hbn HF HN HA HCC
                  generalize (W38.alloc (.cells #[.int .i64 0, .int .i64 0, .int .i64 0, .int .i64 0, .string ⟨#[]⟩, .slice none 0 0, .int .i64 0] 24)) = W44 at *
                  have HF := HFn; clear HFn
                  have HN := HNn; clear HNn
                  have HA := HAn; clear HAn
                  have HCC := HCn; clear HCn
                  have HZ := HZn; clear HZn
                  refine sct_step _ rfl (fun K hK => ?_)
                  refine stepIn_app_Src rfl _ _ 26 rfl W3.heap.size 42 i1 _ 64 Tryz.underlying26 hi1 zw sw bw rfl _ 2 _ rfl (unveil HA).1 _ (1 + p1 + 1 + 1) _ rfl (unveil HCC) (by unfold maxLen; omega) (by omega) (unveil HN) ?_
                  intro v68 W45 hown hgrow
                  have HFn := veil ((unveil HF).growX (unveil HA).1 hgrow (unveil HN))
                  have HNn : Hid (W3.heap.size ≤ W45.heap.size) := Nat.le_trans (unveil HN) hgrow.size
                  have HDn := veil hown
                  have HZn := veil (And.intro (bk_grow (unveil HZ).1 (by decide) hgrow (row_at (unveil HA).1).2.choose_spec) (unveil HZ).2)
                  simp only [List.getElem_toArray, List.getElem_cons_zero, List.getElem_cons_succ, Act.put, List.setIfInBounds_toArray, List.set_cons_zero, List.set_cons_succ]
                  refine hK _ _ (veil (unveil HFn).be) ?_
                  clear hK K hown hgrow HF HN HA HCC HZ
                  have HF := HFn; clear HFn; have HN := HNn; clear HNn
                  have HDD := HDn; clear HDn
                  have HZ := HZn; clear HZn
                  refine sct_step _ rfl (fun K hK => ?_)
                  go_simp
                  refine ⟨trivial, rfl, (callsIn_wide.2 (unveil HP3 _ W45 W3.heap.size ((unveil HB3).trans (((unveil HF9).be.trans (unveil HF).be).mono (unveil HB3).size)) (unveil HDD))).mono ?_⟩
                  rintro e W46 ⟨q3, c3, rfl, hk3, hbn⟩
                  have HFn := veil ((unveil HF).below hbn (unveil HN))
                  have HNn : Hid (W3.heap.size ≤ W46.heap.size) := Nat.le_trans (unveil HN) hbn.size
                  have HZn := veil (And.intro ((unveil HZ).1.below hbn) (unveil HZ).2)
                  have HKK := veil (hk3.mono (K' := fun g => g ≠ W38.heap.size) (fun g _ hg => by have := (unveil HZ).1.lt; omega))
                  refine hK _ _ (veil (unveil HFn).be) ?_
                  clear hK K hk3 hbn HF HN HDD HZ
                  have HF := HFn; clear HFn; have HN := HNn; clear HNn
                  have HZ := HZn; clear HZn
                  iterate 5 (
                   refine sct_pure _ rfl _ (.inl ⟨rfl, fun W hS => (by go_simp; rfl)⟩) (fun B hB => ?_)
                   simp only [List.getElem_toArray, List.getElem_cons_zero, List.getElem_cons_succ, Act.put, List.setIfInBounds_toArray, List.set_cons_zero, List.set_cons_succ] at hB
                   subst hB)
                  refine sct_step _ rfl (fun K hK => ?_)
                  obtain ⟨⟨z0, z1, z2, z3, z4, z5, z6⟩, zl, ⟨u0, u1, u2, u3, u4, u5, u6⟩⟩ := ex_cells (unveil HZ).1
                  go_simp
                  obtain ⟨r1, r2, r3, r4⟩ := ex_put (unveil HZ).1 (.int .i64 x0) (.int .i64 x1) (.int .i64 x2) (.int .i64 x3) (.string ⟨x4.toArray⟩) (.slice q3 x5.length c3) (.int .i64 x6) _ rfl
                  have HFE := veil ((unveil HF).putBox (unveil HZ).2 (Nat.le_trans (unveil HZ9) (unveil HZ).2) r2 r3)
                  have HEE := veil r1
                  have HKE : Hid (Kids _ (fun _ => True) (.mk x0 x1 x2 x3 x4 x5 x6) q3) := (unveil HKK).keep (fun g cs fz hg he => ⟨r3 g _ hg he, trivial⟩)
                  refine hK _ _ (veil (unveil HFE).be) ?_
                  clear hK K r1 r2 r3 r4 z0 z1 z2 z3 z4 z5 z6 zl u0 u1 u2 u3 u4 u5 u6
                  iterate 2 (
                   refine sct_pure _ rfl _ (.inl ⟨rfl, fun W hS => (by go_simp; rfl)⟩) (fun B hB => ?_)
                   simp only [List.getElem_toArray, List.getElem_cons_zero, List.getElem_cons_succ, Act.put, List.setIfInBounds_toArray, List.set_cons_zero, List.set_cons_succ] at hB
                   subst hB)
                  refine sct_done ?_
                  refine listIn_last rfl (fun K hK => ?_)
                  go_simp
                  refine hK _ _ ?_
                  clear hK K
                  go_wp2_with fail
                  go_meet
                  case rel => exact ⟨_, _, _, rfl, rfl, rfl, rfl, HFE, HEE, HKE⟩
              · skip
                refine sct_step _ rfl (fun K hK => ?_)
                go_simp
                have hbn : Below W37.heap.size W37 (W37.alloc (.cells #[.int .i64 0, .int .i64 0, .int .i64 0, .int .i64 0, .string ⟨#[]⟩, .slice none 0 0, .int .i64 0] 24)) := (Below.refl _ W37).alloc (Nat.le_refl _) _
                have HFn : Hid (FrW W3.heap.size W9 (W37.alloc (.cells #[.int .i64 0, .int .i64 0, .int .i64 0, .int .i64 0, .string ⟨#[]⟩, .slice none 0 0, .int .i64 0] 24))) := (unveil HF).below hbn (unveil HN)
                have HNn : Hid (W3.heap.size ≤ (W37.alloc (.cells #[.int .i64 0, .int .i64 0, .int .i64 0, .int .i64 0, .string ⟨#[]⟩, .slice none 0 0, .int .i64 0] 24)).heap.size) := Nat.le_trans (unveil HN) hbn.size
                have HVn := veil (row_below' (unveil HV) hbn)
                have HAn := veil (And.intro (row_below' (unveil HA).1 hbn) (unveil HA).2)
                have HBn := veil ((unveil HBB).below hbn)
                have HZn : Hid (Bk (W37.alloc (.cells #[.int .i64 0, .int .i64 0, .int .i64 0, .int .i64 0, .string ⟨#[]⟩, .slice none 0 0, .int .i64 0] 24)) W37.heap.size 24 #[.int .i64 0, .int .i64 0, .int .i64 0, .int .i64 0, .string ⟨#[]⟩, .slice none 0 0, .int .i64 0] ∧ W9.heap.size ≤ W37.heap.size) := ⟨Bk.new W37 _ _, (unveil HF).be.size⟩
                refine hK _ _ (veil (unveil HFn).be) ?_
                clear hK K hbn HF HN HV HA HBB
                generalize (W37.alloc (.cells #[.int .i64 0, .int .i64 0, .int .i64 0, .int .i64 0, .string ⟨#[]⟩, .slice none 0 0, .int .i64 0] 24)) = W47 at *
                have HF := HFn; clear HFn
                have HN := HNn; clear HNn
                have HV := HVn; clear HVn
                have HA := HAn; clear HAn
                have HBB := HBn; clear HBn
                have HZ := HZn; clear HZn
                refine sct_step _ rfl (fun K hK => ?_)
                refine stepIn_app_Src rfl _ _ 26 rfl W3.heap.size 42 i1 _ 64 Tryz.underlying26 hi1 zw sw bw rfl _ (1 + p1 + 1) _ rfl (unveil HV) _ 1 _ rfl (unveil HBB) (by unfold maxLen; omega) (by omega) (unveil HN) ?_
                intro v67 W48 hown hgrow
                have HFn := veil ((unveil HF).growX (unveil HV) hgrow (unveil HN))
                have HNn : Hid (W3.heap.size ≤ W48.heap.size) := Nat.le_trans (unveil HN) hgrow.size
                have HCn : Hid (Src W48 v67 (1 + p1 + 1 + 1) (wdCells [opnW] ++ wdCells ws ++ wdCells [clsW] ++ wdCells [clsW])) := src_row hown (fun u hu => wd_one ([opnW] ++ ws ++ [clsW] ++ [clsW]) u (by rw [wdCells_app, wdCells_app, wdCells_app]; exact hu))
                have HAn := veil (And.intro (row_other (unveil HA).1 hgrow (Nat.ne_of_gt (unveil HA).2)) trivial)
                have HZn := veil (And.intro (bk_grow (unveil HZ).1 (by decide) hgrow (row_at (unveil HV)).2.choose_spec) (unveil HZ).2)
                simp only [List.getElem_toArray, List.getElem_cons_zero, List.getElem_cons_succ, Act.put, List.setIfInBounds_toArray, List.set_cons_zero, List.set_cons_succ]
                refine hK _ _ (veil (unveil HFn).be) ?_
                clear hK K hown hgrow HF HN HV HBB HA HZ
                have HF := HFn; clear HFn; have HN := HNn; clear HNn
                have HCC := HCn; clear HCn
                have HA := HAn; clear HAn
                have HZ := HZn; clear HZn
                refine sct_step _ rfl (fun K hK => ?_)
                refine stepIn_app_Src rfl _ _ 26 rfl W3.heap.size 42 i1 _ 64 Tryz.underlying26 hi1 zw sw bw rfl _ 2 _ rfl (unveil HA).1 _ (1 + p1 + 1 + 1) _ rfl (unveil HCC) (by unfold maxLen; omega) (by omega) (unveil HN) ?_
                intro v68 W49 hown hgrow
                have HFn := veil ((unveil HF).growX (unveil HA).1 hgrow (unveil HN))
                have HNn : Hid (W3.heap.size ≤ W49.heap.size) := Nat.le_trans (unveil HN) hgrow.size
                have HDn := veil hown
                have HZn := veil (And.intro (bk_grow (unveil HZ).1 (by decide) hgrow (row_at (unveil HA).1).2.choose_spec) (unveil HZ).2)
                simp only [List.getElem_toArray, List.getElem_cons_zero, List.getElem_cons_succ, Act.put, List.setIfInBounds_toArray, List.set_cons_zero, List.set_cons_succ]
                refine hK _ _ (veil (unveil HFn).be) ?_
                clear hK K hown hgrow HF HN HA HCC HZ
                have HF := HFn; clear HFn; have HN := HNn; clear HNn
                have HDD := HDn; clear HDn
                have HZ := HZn; clear HZn
                refine sct_step _ rfl (fun K hK => ?_)
                go_simp
                refine ⟨trivial, rfl, (callsIn_wide.2 (unveil HP3 _ W49 W3.heap.size ((unveil HB3).trans (((unveil HF9).be.trans (unveil HF).be).mono (unveil HB3).size)) (unveil HDD))).mono ?_⟩
                rintro e W50 ⟨q3, c3, rfl, hk3, hbn⟩
                have HFn := veil ((unveil HF).below hbn (unveil HN))
                have HNn : Hid (W3.heap.size ≤ W50.heap.size) := Nat.le_trans (unveil HN) hbn.size
                have HZn := veil (And.intro ((unveil HZ).1.below hbn) (unveil HZ).2)
                have HKK := veil (hk3.mono (K' := fun g => g ≠ W37.heap.size) (fun g _ hg => by have := (unveil HZ).1.lt; omega))
                refine hK _ _ (veil (unveil HFn).be) ?_
                clear hK K hk3 hbn HF HN HDD HZ
                have HF := HFn; clear HFn; have HN := HNn; clear HNn
                have HZ := HZn; clear HZn
                iterate 5 (
                 refine sct_pure _ rfl _ (.inl ⟨rfl, fun W hS => (by go_simp; rfl)⟩) (fun B hB => ?_)
                 simp only [List.getElem_toArray, List.getElem_cons_zero, List.getElem_cons_succ, Act.put, List.setIfInBounds_toArray, List.set_cons_zero, List.set_cons_succ] at hB
                 subst hB)
                refine sct_step _ rfl (fun K hK => ?_)
                obtain ⟨⟨z0, z1, z2, z3, z4, z5, z6⟩, zl, ⟨u0, u1, u2, u3, u4, u5, u6⟩⟩ := ex_cells (unveil HZ).1
                go_simp
                obtain ⟨r1, r2, r3, r4⟩ := ex_put (unveil HZ).1 (.int .i64 x0) (.int .i64 x1) (.int .i64 x2) (.int .i64 x3) (.string ⟨x4.toArray⟩) (.slice q3 x5.length c3) (.int .i64 x6) _ rfl
                have HFE := veil ((unveil HF).putBox (unveil HZ).2 (Nat.le_trans (unveil HZ9) (unveil HZ).2) r2 r3)
                have HEE := veil r1
                have HKE : Hid (Kids _ (fun _ => True) (.mk x0 x1 x2 x3 x4 x5 x6) q3) := (unveil HKK).keep (fun g cs fz hg he => ⟨r3 g _ hg he, trivial⟩)
                refine hK _ _ (veil (unveil HFE).be) ?_
                clear hK K r1 r2 r3 r4 z0 z1 z2 z3 z4 z5 z6 zl u0 u1 u2 u3 u4 u5 u6
                iterate 2 (
                 refine sct_pure _ rfl _ (.inl ⟨rfl, fun W hS => (by go_simp; rfl)⟩) (fun B hB => ?_)
                 simp only [List.getElem_toArray, List.getElem_cons_zero, List.getElem_cons_succ, Act.put, List.setIfInBounds_toArray, List.set_cons_zero, List.set_cons_succ] at hB
                 subst hB)
                refine sct_done ?_
                refine listIn_last rfl (fun K hK => ?_)
                go_simp
                refine hK _ _ ?_
                clear hK K
                go_wp2_with fail
                go_meet
                case rel => exact ⟨_, _, _, rfl, rfl, rfl, rfl, HFE, HEE, HKE⟩
            · skip
              refine sct_step _ rfl (fun K hK => ?_)
              go_simp
              have hbn : Below W36.heap.size W36 (W36.alloc (.cells #[.int .i64 0, .int .i64 0, .int .i64 0, .int .i64 0, .string ⟨#[]⟩, .slice none 0 0, .int .i64 0] 24)) := (Below.refl _ W36).alloc (Nat.le_refl _) _
              have HFn : Hid (FrW W3.heap.size W9 (W36.alloc (.cells #[.int .i64 0, .int .i64 0, .int .i64 0, .int .i64 0, .string ⟨#[]⟩, .slice none 0 0, .int .i64 0] 24))) := (unveil HF).below hbn (unveil HN)
              have HNn : Hid (W3.heap.size ≤ (W36.alloc (.cells #[.int .i64 0, .int .i64 0, .int .i64 0, .int .i64 0, .string ⟨#[]⟩, .slice none 0 0, .int .i64 0] 24)).heap.size) := Nat.le_trans (unveil HN) hbn.size
              have HVn := veil (row_below' (unveil HV) hbn)
              have HAn := veil (And.intro (row_below' (unveil HA).1 hbn) (unveil HA).2)
              have HZn : Hid (Bk (W36.alloc (.cells #[.int .i64 0, .int .i64 0, .int .i64 0, .int .i64 0, .string ⟨#[]⟩, .slice none 0 0, .int .i64 0] 24)) W36.heap.size 24 #[.int .i64 0, .int .i64 0, .int .i64 0, .int .i64 0, .string ⟨#[]⟩, .slice none 0 0, .int .i64 0] ∧ W9.heap.size ≤ W36.heap.size) := ⟨Bk.new W36 _ _, (unveil HF).be.size⟩
              refine hK _ _ (veil (unveil HFn).be) ?_
              clear hK K hbn HF HN HV HA
              generalize (W36.alloc (.cells #[.int .i64 0, .int .i64 0, .int .i64 0, .int .i64 0, .string ⟨#[]⟩, .slice none 0 0, .int .i64 0] 24)) = W51 at *
              have HF := HFn; clear HFn
              have HN := HNn; clear HNn
              have HV := HVn; clear HVn
              have HA := HAn; clear HAn
              have HZ := HZn; clear HZn
              refine sct_step _ rfl (fun K hK => ?_)
              go_simp
              have hbn : Below W51.heap.size W51 (W51.alloc (.cells #[.int .i64 5, .string ⟨#[41]⟩, .int .i64 0, .int .i64 0, .string ⟨#[]⟩, .int .i64 0] 42)) := (Below.refl _ W51).alloc (Nat.le_refl _) _
              have HFn : Hid (FrW W3.heap.size W9 (W51.alloc (.cells #[.int .i64 5, .string ⟨#[41]⟩, .int .i64 0, .int .i64 0, .string ⟨#[]⟩, .int .i64 0] 42))) := (unveil HF).below hbn (unveil HN)
              have HNn : Hid (W3.heap.size ≤ (W51.alloc (.cells #[.int .i64 5, .string ⟨#[41]⟩, .int .i64 0, .int .i64 0, .string ⟨#[]⟩, .int .i64 0] 42)).heap.size) := Nat.le_trans (unveil HN) hbn.size
              have HVn := veil (row_below' (unveil HV) hbn)
              have HAn := veil (And.intro (row_below' (unveil HA).1 hbn) (unveil HA).2)
              have HZn := veil (And.intro ((unveil HZ).1.below hbn) (unveil HZ).2)
              have HBn : Hid (Src (W51.alloc (.cells #[.int .i64 5, .string ⟨#[41]⟩, .int .i64 0, .int .i64 0, .string ⟨#[]⟩, .int .i64 0] 42)) (.slice (some ⟨W51.heap.size, 0, none⟩) 1 1) 1 (wdCells [clsW])) := src_row (own_new (base := 0) (Bk.new W51 _ _) rfl rfl (Nat.zero_le _) (by decide)) (wd_one _)
              refine hK _ _ (veil (unveil HFn).be) ?_
              clear hK K hbn HF HN HV HA HZ
              generalize (W51.alloc (.cells #[.int .i64 5, .string ⟨#[41]⟩, .int .i64 0, .int .i64 0, .string ⟨#[]⟩, .int .i64 0] 42)) = W52 at *
              have HF := HFn; clear HFn
              have HN := HNn; clear HNn
              have HV := HVn; clear HVn
              have HA := HAn; clear HAn
              have HBB := HBn; clear HBn
              have HZ := HZn; clear HZn
              refine sct_step _ rfl (fun K hK => ?_)
              refine stepIn_app_Src rfl _ _ 26 rfl W3.heap.size 42 i1 _ 64 Tryz.underlying26 hi1 zw sw bw rfl _ (1 + p1 + 1) _ rfl (unveil HV) _ 1 _ rfl (unveil HBB) (by unfold maxLen; omega) (by omega) (unveil HN) ?_
              intro v67 W53 hown hgrow
              have HFn := veil ((unveil HF).growX (unveil HV) hgrow (unveil HN))
              have HNn : Hid (W3.heap.size ≤ W53.heap.size) := Nat.le_trans (unveil HN) hgrow.size
              have HCn : Hid (Src W53 v67 (1 + p1 + 1 + 1) (wdCells [opnW] ++ wdCells ws ++ wdCells [clsW] ++ wdCells [clsW])) := src_row hown (fun u hu => wd_one ([opnW] ++ ws ++ [clsW] ++ [clsW]) u (by rw [wdCells_app, wdCells_app, wdCells_app]; exact hu))
              have HAn := veil (And.intro (row_other (unveil HA).1 hgrow (Nat.ne_of_gt (unveil HA).2)) trivial)
              have HZn := veil (And.intro (bk_grow (unveil HZ).1 (by decide) hgrow (row_at (unveil HV)).2.choose_spec) (unveil HZ).2)
              simp only [List.getElem_toArray, List.getElem_cons_zero, List.getElem_cons_succ, Act.put, List.setIfInBounds_toArray, List.set_cons_zero, List.set_cons_succ]
              refine hK _ _ (veil (unveil HFn).be) ?_
              clear hK K hown hgrow HF HN HV HBB HA HZ
              have HF := HFn; clear HFn; have HN := HNn; clear HNn
              have HCC := HCn; clear HCn
              have HA := HAn; clear HAn
              have HZ := HZn; clear HZn
              refine sct_step _ rfl (fun K hK => ?_)
              refine stepIn_app_Src rfl _ _ 26 rfl W3.heap.size 42 i1 _ 64 Tryz.underlying26 hi1 zw sw bw rfl _ 2 _ rfl (unveil HA).1 _ (1 + p1 + 1 + 1) _ rfl (unveil HCC) (by unfold maxLen; omega) (by omega) (unveil HN) ?_
              intro v68 W54 hown hgrow
              have HFn := veil ((unveil HF).growX (unveil HA).1 hgrow (unveil HN))
              have HNn : Hid (W3.heap.size ≤ W54.heap.size) := Nat.le_trans (unveil HN) hgrow.size
              have HDn := veil hown
              have HZn := veil (And.intro (bk_grow (unveil HZ).1 (by decide) hgrow (row_at (unveil HA).1).2.choose_spec) (unveil HZ).2)
              simp only [List.getElem_toArray, List.getElem_cons_zero, List.getElem_cons_succ, Act.put, List.setIfInBounds_toArray, List.set_cons_zero, List.set_cons_succ]
              refine hK _ _ (veil (unveil HFn).be) ?_
              clear hK K hown hgrow HF HN HA HCC HZ
              have HF := HFn; clear HFn; have HN := HNn; clear HNn
              have HDD := HDn; clear HDn
              have HZ := HZn; clear HZn
              refine sct_step _ rfl (fun K hK => ?_)
              go_simp
              refine ⟨trivial, rfl, (callsIn_wide.2 (unveil HP3 _ W54 W3.heap.size ((unveil HB3).trans (((unveil HF9).be.trans (unveil HF).be).mono (unveil HB3).size)) (unveil HDD))).mono ?_⟩
              rintro e W55 ⟨q3, c3, rfl, hk3, hbn⟩
              have HFn := veil ((unveil HF).below hbn (unveil HN))
              have HNn : Hid (W3.heap.size ≤ W55.heap.size) := Nat.le_trans (unveil HN) hbn.size
              have HZn := veil (And.intro ((unveil HZ).1.below hbn) (unveil HZ).2)
              have HKK := veil (hk3.mono (K' := fun g => g ≠ W36.heap.size) (fun g _ hg => by have := (unveil HZ).1.lt; omega))
              refine hK _ _ (veil (unveil HFn).be) ?_
              clear hK K hk3 hbn HF HN HDD HZ
              have HF := HFn; clear HFn; have HN := HNn; clear HNn
              have HZ := HZn; clear HZn
              iterate 5 (
               refine sct_pure _ rfl _ (.inl ⟨rfl, fun W hS => (by go_simp; rfl)⟩) (fun B hB => ?_)
               simp only [List.getElem_toArray, List.getElem_cons_zero, List.getElem_cons_succ, Act.put, List.setIfInBounds_toArray, List.set_cons_zero, List.set_cons_succ] at hB
               subst hB)
              refine sct_step _ rfl (fun K hK => ?_)
              obtain ⟨⟨z0, z1, z2, z3, z4, z5, z6⟩, zl, ⟨u0, u1, u2, u3, u4, u5, u6⟩⟩ := ex_cells (unveil HZ).1
              go_simp
              obtain ⟨r1, r2, r3, r4⟩ := ex_put (unveil HZ).1 (.int .i64 x0) (.int .i64 x1) (.int .i64 x2) (.int .i64 x3) (.string ⟨x4.toArray⟩) (.slice q3 x5.length c3) (.int .i64 x6) _ rfl
              have HFE := veil ((unveil HF).putBox (unveil HZ).2 (Nat.le_trans (unveil HZ9) (unveil HZ).2) r2 r3)
              have HEE := veil r1
              have HKE : Hid (Kids _ (fun _ => True) (.mk x0 x1 x2 x3 x4 x5 x6) q3) := (unveil HKK).keep (fun g cs fz hg he => ⟨r3 g _ hg he, trivial⟩)
              refine hK _ _ (veil (unveil HFE).be) ?_
              clear hK K r1 r2 r3 r4 z0 z1 z2 z3 z4 z5 z6 zl u0 u1 u2 u3 u4 u5 u6
              iterate 2 (
               refine sct_pure _ rfl _ (.inl ⟨rfl, fun W hS => (by go_simp; rfl)⟩) (fun B hB => ?_)
               simp only [List.getElem_toArray, List.getElem_cons_zero, List.getElem_cons_succ, Act.put, List.setIfInBounds_toArray, List.set_cons_zero, List.set_cons_succ] at hB
               subst hB)
              refine sct_done ?_
              refine listIn_last rfl (fun K hK => ?_)
              go_simp
              refine hK _ _ ?_
              clear hK K
              go_wp2_with fail
              go_meet
              case rel => exact ⟨_, _, _, rfl, rfl, rfl, rfl, HFE, HEE, HKE⟩
          · skip
            refine sct_step _ rfl (fun K hK => ?_)
            go_simp
            have hbn : Below W10.heap.size W10 (W10.alloc (.cells #[.int .i64 5, .string ⟨#[41]⟩, .int .i64 0, .int .i64 0, .string ⟨#[]⟩, .int .i64 0] 42)) := (Below.refl _ W10).alloc (Nat.le_refl _) _
            have HFn : Hid (FrW W3.heap.size W9 (W10.alloc (.cells #[.int .i64 5, .string ⟨#[41]⟩, .int .i64 0, .int .i64 0, .string ⟨#[]⟩, .int .i64 0] 42))) := (unveil HF).below hbn (unveil HN)
            have HNn : Hid (W3.heap.size ≤ (W10.alloc (.cells #[.int .i64 5, .string ⟨#[41]⟩, .int .i64 0, .int .i64 0, .string ⟨#[]⟩, .int .i64 0] 42)).heap.size) := Nat.le_trans (unveil HN) hbn.size
            have HVn := veil (row_below' (unveil HV) hbn)
            have HBn : Hid (Src (W10.alloc (.cells #[.int .i64 5, .string ⟨#[41]⟩, .int .i64 0, .int .i64 0, .string ⟨#[]⟩, .int .i64 0] 42)) (.slice (some ⟨W10.heap.size, 0, none⟩) 1 1) 1 (wdCells [clsW])) := src_row (own_new (base := 0) (Bk.new W10 _ _) rfl rfl (Nat.zero_le _) (by decide)) (wd_one _)
            refine hK _ _ (veil (unveil HFn).be) ?_
            clear hK K hbn HF HN HV
            generalize (W10.alloc (.cells #[.int .i64 5, .string ⟨#[41]⟩, .int .i64 0, .int .i64 0, .string ⟨#[]⟩, .int .i64 0] 42)) = W56 at *
            have HF := HFn; clear HFn
            have HN := HNn; clear HNn
            have HV := HVn; clear HVn
            have HBB := HBn; clear HBn
            refine sct_three ?_ ?_ ?_
            · skip
              refine sct_step _ rfl (fun K hK => ?_)
              go_simp
              have hbn : Below W56.heap.size W56 (W56.alloc (.cells #[.int .i64 5, .string ⟨#[40]⟩, .int .i64 0, .int .i64 0, .string ⟨#[]⟩, .int .i64 0, .int .i64 5, .string ⟨#[43]⟩, .int .i64 0, .int .i64 0, .string ⟨#[]⟩, .int .i64 0] 42)) := (Below.refl _ W56).alloc (Nat.le_refl _) _
              have HFn : Hid (FrW W3.heap.size W9 (W56.alloc (.cells #[.int .i64 5, .string ⟨#[40]⟩, .int .i64 0, .int .i64 0, .string ⟨#[]⟩, .int .i64 0, .int .i64 5, .string ⟨#[43]⟩, .int .i64 0, .int .i64 0, .string ⟨#[]⟩, .int .i64 0] 42))) := (unveil HF).below hbn (unveil HN)
              have HNn : Hid (W3.heap.size ≤ (W56.alloc (.cells #[.int .i64 5, .string ⟨#[40]⟩, .int .i64 0, .int .i64 0, .string ⟨#[]⟩, .int .i64 0, .int .i64 5, .string ⟨#[43]⟩, .int .i64 0, .int .i64 0, .string ⟨#[]⟩, .int .i64 0] 42)).heap.size) := Nat.le_trans (unveil HN) hbn.size
              have HVn := veil (row_below' (unveil HV) hbn)
              have HBn := veil ((unveil HBB).below hbn)
              have HAn : Hid ((W56.alloc (.cells #[.int .i64 5, .string ⟨#[40]⟩, .int .i64 0, .int .i64 0, .string ⟨#[]⟩, .int .i64 0, .int .i64 5, .string ⟨#[43]⟩, .int .i64 0, .int .i64 0, .string ⟨#[]⟩, .int .i64 0] 42)).ownsRow W3.heap.size 42 6 (.slice (some ⟨W56.heap.size, 0, none⟩) 2 2) 2 (wdCells [opnW, plsW]) ∧ g7 < W56.heap.size) := ⟨own_new (Bk.new W56 _ _) rfl rfl (unveil HN) (by decide), ((unveil HV).lt g7 rfl).2⟩
              refine hK _ _ (veil (unveil HFn).be) ?_
              clear hK K hbn HF HN HV HBB
              generalize (W56.alloc (.cells #[.int .i64 5, .string ⟨#[40]⟩, .int .i64 0, .int .i64 0, .string ⟨#[]⟩, .int .i64 0, .int .i64 5, .string ⟨#[43]⟩, .int .i64 0, .int .i64 0, .string ⟨#[]⟩, .int .i64 0] 42)) = W57 at *
              have HF := HFn; clear HFn
              have HN := HNn; clear HNn
              have HV := HVn; clear HVn
              have HA := HAn; clear HAn
              have HBB := HBn; clear HBn
              refine sct_both ?_ ?_
              · skip
                refine sct_step _ rfl (fun K hK => ?_)
                refine stepIn_app_Src rfl _ _ 26 rfl W3.heap.size 42 i1 _ 64 Tryz.underlying26 hi1 zw sw bw rfl _ (1 + p1 + 1) _ rfl (unveil HV) _ 1 _ rfl (unveil HBB) (by unfold maxLen; omega) (by omega) (unveil HN) ?_
                intro v67 W58 hown hgrow
                have HFn := veil ((unveil HF).growX (unveil HV) hgrow (unveil HN))
                have HNn : Hid (W3.heap.size ≤ W58.heap.size) := Nat.le_trans (unveil HN) hgrow.size
                have HCn : Hid (Src W58 v67 (1 + p1 + 1 + 1) (wdCells [opnW] ++ wdCells ws ++ wdCells [clsW] ++ wdCells [clsW])) := src_row hown (fun u hu => wd_one ([opnW] ++ ws ++ [clsW] ++ [clsW]) u (by rw [wdCells_app, wdCells_app, wdCells_app]; exact hu))
                have HAn := veil (And.intro (row_other (unveil HA).1 hgrow (Nat.ne_of_gt (unveil HA).2)) trivial)
                simp only [List.getElem_toArray, List.getElem_cons_zero, List.getElem_cons_succ, Act.put, List.setIfInBounds_toArray, List.set_cons_zero, List.set_cons_succ]
                refine hK _ _ (veil (unveil HFn).be) ?_
                clear hK K hown hgrow HF HN HV HBB HA
                have HF := HFn; clear HFn; have HN := HNn; clear HNn
                have HCC := HCn; clear HCn
                have HA := HAn; clear HAn
                refine sct_both ?_ ?_
                · skip
                  refine sct_step _ rfl (fun K hK => ?_)
                  refine stepIn_app_Src rfl _ _ 26 rfl W3.heap.size 42 i1 _ 64 Tryz.underlying26 hi1 zw sw bw rfl _ 2 _ rfl (unveil HA).1 _ (1 + p1 + 1 + 1) _ rfl (unveil HCC) (by unfold maxLen; omega) (by omega) (unveil HN) ?_
                  intro v68 W59 hown hgrow
                  have HFn := veil ((unveil HF).growX (unveil HA).1 hgrow (unveil HN))
                  have HNn : Hid (W3.heap.size ≤ W59.heap.size) := Nat.le_trans (unveil HN) hgrow.size
                  have HDn := veil hown
                  simp only [List.getElem_toArray, List.getElem_cons_zero, List.getElem_cons_succ, Act.put, List.setIfInBounds_toArray, List.set_cons_zero, List.set_cons_succ]
                  refine hK _ _ (veil (unveil HFn).be) ?_
                  clear hK K hown hgrow HF HN HA HCC
                  have HF := HFn; clear HFn; have HN := HNn; clear HNn
                  have HDD := HDn; clear HDn
                  refine sct_both ?_ ?_
                  · skip
                    refine sct_step _ rfl (fun K hK => ?_)
                    go_simp
                    refine ⟨trivial, rfl, (callsIn_wide.2 (unveil HP3 _ W59 W3.heap.size ((unveil HB3).trans (((unveil HF9).be.trans (unveil HF).be).mono (unveil HB3).size)) (unveil HDD))).mono ?_⟩
                    rintro e W60 ⟨q3, c3, rfl, hk3, hbn⟩
                    have HFn := veil ((unveil HF).below hbn (unveil HN))
                    have HNn : Hid (W3.heap.size ≤ W60.heap.size) := Nat.le_trans (unveil HN) hbn.size
                    have HKK := veil hk3
                    refine hK _ _ (veil (unveil HFn).be) ?_
                    clear hK K hk3 hbn HF HN HDD
                    have HF := HFn; clear HFn; have HN := HNn; clear HNn
                    iterate 5 (
                     refine sct_pure _ rfl _ (.inl ⟨rfl, fun W hS => (by go_simp; rfl)⟩) (fun B hB => ?_)
                     simp only [List.getElem_toArray, List.getElem_cons_zero, List.getElem_cons_succ, Act.put, List.setIfInBounds_toArray, List.set_cons_zero, List.set_cons_succ] at hB
                     subst hB)
                    refine sct_step _ rfl (fun K hK => ?_)
                    go_simp
                    have hbn : Below W60.heap.size W60 (W60.alloc (.cells #[.int .i64 0, .int .i64 0, .int .i64 0, .int .i64 0, .string ⟨#[]⟩, .slice none 0 0, .int .i64 0] 24)) := (Below.refl _ W60).alloc (Nat.le_refl _) _
                    have HFn : Hid (FrW W3.heap.size W9 (W60.alloc (.cells #[.int .i64 0, .int .i64 0, .int .i64 0, .int .i64 0, .string ⟨#[]⟩, .slice none 0 0, .int .i64 0] 24))) := (unveil HF).below hbn (unveil HN)
                    have HNn : Hid (W3.heap.size ≤ (W60.alloc (.cells #[.int .i64 0, .int .i64 0, .int .i64 0, .int .i64 0, .string ⟨#[]⟩, .slice none 0 0, .int .i64 0] 24)).heap.size) := Nat.le_trans (unveil HN) hbn.size
                    have HZn : Hid (Bk (W60.alloc (.cells #[.int .i64 0, .int .i64 0, .int .i64 0, .int .i64 0, .string ⟨#[]⟩, .slice none 0 0, .int .i64 0] 24)) W60.heap.size 24 #[.int .i64 0, .int .i64 0, .int .i64 0, .int .i64 0, .string ⟨#[]⟩, .slice none 0 0, .int .i64 0] ∧ W9.heap.size ≤ W60.heap.size) := ⟨Bk.new W60 _ _, (unveil HF).be.size⟩
                    have HKn : Hid (Kids (W60.alloc (.cells #[.int .i64 0, .int .i64 0, .int .i64 0, .int .i64 0, .string ⟨#[]⟩, .slice none 0 0, .int .i64 0] 24)) (fun g => g ≠ W60.heap.size) (.mk x0 x1 x2 x3 x4 x5 x6) q3) := ((unveil HKK).mono (fun g hg _ => by omega)).below hbn
                    refine hK _ _ (veil (unveil HFn).be) ?_
                    clear hK K hbn HF HN HKK
                    generalize (W60.alloc (.cells #[.int .i64 0, .int .i64 0, .int .i64 0, .int .i64 0, .string ⟨#[]⟩, .slice none 0 0, .int .i64 0] 24)) = W61 at *
                    have HF := HFn; clear HFn
                    have HN := HNn; clear HNn
                    have HZ := HZn; clear HZn
                    have HKK := HKn; clear HKn
                    refine sct_step _ rfl (fun K hK => ?_)
                    obtain ⟨⟨z0, z1, z2, z3, z4, z5, z6⟩, zl, ⟨u0, u1, u2, u3, u4, u5, u6⟩⟩ := ex_cells (unveil HZ).1
                    go_simp
                    obtain ⟨r1, r2, r3, r4⟩ := ex_put (unveil HZ).1 (.int .i64 x0) (.int .i64 x1) (.int .i64 x2) (.int .i64 x3) (.string ⟨x4.toArray⟩) (.slice q3 x5.length c3) (.int .i64 x6) _ rfl
                    have HFE := veil ((unveil HF).putBox (unveil HZ).2 (Nat.le_trans (unveil HZ9) (unveil HZ).2) r2 r3)
                    have HEE := veil r1
                    have HKE : Hid (Kids _ (fun _ => True) (.mk x0 x1 x2 x3 x4 x5 x6) q3) := (unveil HKK).keep (fun g cs fz hg he => ⟨r3 g _ hg he, trivial⟩)
                    refine hK _ _ (veil (unveil HFE).be) ?_
                    clear hK K r1 r2 r3 r4 z0 z1 z2 z3 z4 z5 z6 zl u0 u1 u2 u3 u4 u5 u6
                    iterate 2 (
                     refine sct_pure _ rfl _ (.inl ⟨rfl, fun W hS => (by go_simp; rfl)⟩) (fun B hB => ?_)
                     simp only [List.getElem_toArray, List.getElem_cons_zero, List.getElem_cons_succ, Act.put, List.setIfInBounds_toArray, List.set_cons_zero, List.set_cons_succ] at hB
                     subst hB)
                    refine sct_done ?_
                    refine listIn_last rfl (fun K hK => ?_)
                    go_simp
                    refine hK _ _ ?_
                    clear hK K
                    go_wp2_with fail
                    go_meet
                    case rel => exact ⟨_, _, _, rfl, rfl, rfl, rfl, HFE, HEE, HKE⟩
                  · skip
                    refine sct_step _ rfl (fun K hK => ?_)
                    go_simp
                    have hbn : Below W59.heap.size W59 (W59.alloc (.cells #[.int .i64 0, .int .i64 0, .int .i64 0, .int .i64 0, .string ⟨#[]⟩, .slice none 0 0, .int .i64 0] 24)) := (Below.refl _ W59).alloc (Nat.le_refl _) _
                    have HFn : Hid (FrW W3.heap.size W9 (W59.alloc (.cells #[.int .i64 0, .int .i64 0, .int .i64 0, .int .i64 0, .string ⟨#[]⟩, .slice none 0 0, .int .i64 0] 24))) := (unveil HF).below hbn (unveil HN)
                    have HNn : Hid (W3.heap.size ≤ (W59.alloc (.cells #[.int .i64 0, .int .i64 0, .int .i64 0, .int .i64 0, .string ⟨#[]⟩, .slice none 0 0, .int .i64 0] 24)).heap.size) := Nat.le_trans (unveil HN) hbn.size
                    have HDn := veil (row_below' (unveil HDD) hbn)
                    have HZn : Hid (Bk (W59.alloc (.cells #[.int .i64 0, .int .i64 0, .int .i64 0, .int .i64 0, .string ⟨#[]⟩, .slice none 0 0, .int .i64 0] 24)) W59.heap.size 24 #[.int .i64 0, .int .i64 0, .int .i64 0, .int .i64 0, .string ⟨#[]⟩, .slice none 0 0, .int .i64 0] ∧ W9.heap.size ≤ W59.heap.size) := ⟨Bk.new W59 _ _, (unveil HF).be.size⟩
                    refine hK _ _ (veil (unveil HFn).be) ?_
                    clear hK K hbn HF HN HDD
                    generalize (W59.alloc (.cells #[.int .i64 0, .int .i64 0, .int .i64 0, .int .i64 0, .string ⟨#[]⟩, .slice none 0 0, .int .i64 0] 24)) = W62 at *
                    have HF := HFn; clear HFn
                    have HN := HNn; clear HNn
                    have HDD := HDn; clear HDn
                    have HZ := HZn; clear HZn
                    refine sct_step _ rfl (fun K hK => ?_)
                    go_simp
                    refine ⟨trivial, rfl, (callsIn_wide.2 (unveil HP3 _ W62 W3.heap.size ((unveil HB3).trans (((unveil HF9).be.trans (unveil HF).be).mono (unveil HB3).size)) (unveil HDD))).mono ?_⟩
                    rintro e W63 ⟨q3, c3, rfl, hk3, hbn⟩
                    have HFn := veil ((unveil HF).below hbn (unveil HN))
                    have HNn : Hid (W3.heap.size ≤ W63.heap.size) := Nat.le_trans (unveil HN) hbn.size
                    have HZn := veil (And.intro ((unveil HZ).1.below hbn) (unveil HZ).2)
                    have HKK := veil (hk3.mono (K' := fun g => g ≠ W59.heap.size) (fun g _ hg => by have := (unveil HZ).1.lt; omega))
                    refine hK _ _ (veil (unveil HFn).be) ?_
                    clear hK K hk3 hbn HF HN HDD HZ
                    have HF := HFn; clear HFn; have HN := HNn; clear HNn
                    have HZ := HZn; clear HZn
                    iterate 5 (
                     refine sct_pure _ rfl _ (.inl ⟨rfl, fun W hS => (by go_simp; rfl)⟩) (fun B hB => ?_)
                     simp only [List.getElem_toArray, List.getElem_cons_zero, List.getElem_cons_succ, Act.put, List.setIfInBounds_toArray, List.set_cons_zero, List.set_cons_succ] at hB
                     subst hB)
                    refine sct_step _ rfl (fun K hK => ?_)
                    obtain ⟨⟨z0, z1, z2, z3, z4, z5, z6⟩, zl, ⟨u0, u1, u2, u3, u4, u5, u6⟩⟩ := ex_cells (unveil HZ).1
                    go_simp
                    obtain ⟨r1, r2, r3, r4⟩ := ex_put (unveil HZ).1 (.int .i64 x0) (.int .i64 x1) (.int .i64 x2) (.int .i64 x3) (.string ⟨x4.toArray⟩) (.slice q3 x5.length c3) (.int .i64 x6) _ rfl
                    have HFE := veil ((unveil HF).putBox (unveil HZ).2 (Nat.le_trans (unveil HZ9) (unveil HZ).2) r2 r3)
                    have HEE := veil r1
                    have HKE : Hid (Kids _ (fun _ => True) (.mk x0 x1 x2 x3 x4 x5 x6) q3) := (unveil HKK).keep (fun g cs fz hg he => ⟨r3 g _ hg he, trivial⟩)
                    refine hK _ _ (veil (unveil HFE).be) ?_
                    clear hK K r1 r2 r3 r4 z0 z1 z2 z3 z4 z5 z6 zl u0 u1 u2 u3 u4 u5 u6
                    iterate 2 (
                     refine sct_pure _ rfl _ (.inl ⟨rfl, fun W hS => (by go_simp; rfl)⟩) (fun B hB => ?_)
                     simp only [List.getElem_toArray, List.getElem_cons_zero, List.getElem_cons_succ, Act.put, List.setIfInBounds_toArray, List.set_cons_zero, List.set_cons_succ] at hB
                     subst hB)
                    refine sct_done ?_
                    refine listIn_last rfl (fun K hK => ?_)
                    go_simp
                    refine hK _ _ ?_
                    clear hK K
                    go_wp2_with fail
                    go_meet
                    case rel => exact ⟨_, _, _, rfl, rfl, rfl, rfl, HFE, HEE, HKE⟩
                · skip
                  refine sct_step _ rfl (fun K hK => ?_)
                  go_simp
                  have hbn : Below W58.heap.size W58 (W58.alloc (.cells #[.int .i64 0, .int .i64 0, .int .i64 0, .int .i64 0, .string ⟨#[]⟩, .slice none 0 0, .int .i64 0] 24)) := (Below.refl _ W58).alloc (Nat.le_refl _) _
                  have HFn : Hid (FrW W3.heap.size W9 (W58.alloc (.cells #[.int .i64 0, .int .i64 0, .int .i64 0, .int .i64 0, .string ⟨#[]⟩, .slice none 0 0, .int .i64 0] 24))) := (unveil HF).below hbn (unveil HN)
                  have HNn : Hid (W3.heap.size ≤ (W58.alloc (.cells #[.int .i64 0, .int .i64 0, .int .i64 0, .int .i64 0, .string ⟨#[]⟩, .slice none 0 0, .int .i64 0] 24)).heap.size) := Nat.le_trans (unveil HN) hbn.size
                  have HAn := veil (And.intro (row_below' (unveil HA).1 hbn) (unveil HA).2)
                  have HCn := veil ((unveil HCC).below hbn)
                  have HZn : Hid (Bk (W58.alloc (.cells #[.int .i64 0, .int .i64 0, .int .i64 0, .int .i64 0, .string ⟨#[]⟩, .slice none 0 0, .int .i64 0] 24)) W58.heap.size 24 #[.int .i64 0, .int .i64 0, .int .i64 0, .int .i64 0, .string ⟨#[]⟩, .slice none 0 0, .int .i64 0] ∧ W9.heap.size ≤ W58.heap.size) := ⟨Bk.new W58 _ _, (unveil HF).be.size⟩
                  refine hK _ _ (veil (unveil HFn).be) ?_
                  clear hK K hbn HF HN HA HCC
                  generalize (W58.alloc (.cells #[.int .i64 0, .int .i64 0, .int .i64 0, .int .i64 0, .string ⟨#[]⟩, .slice none 0 0, .int .i64 0] 24)) = W64 at *
                  have HF := HFn; clear HFn
                  have HN := HNn; clear HNn
                  have HA := HAn; clear HAn
                  have HCC := HCn; clear HCn
                  have HZ := HZn; clear HZn
                  refine sct_step _ rfl (fun K hK => ?_)
                  refine stepIn_app_Src rfl _ _ 26 rfl W3.heap.size 42 i1 _ 64 Tryz.underlying26 hi1 zw sw bw rfl _ 2 _ rfl (unveil HA).1 _ (1 + p1 + 1 + 1) _ rfl (unveil HCC) (by unfold maxLen; omega) (by omega) (unveil HN) ?_
                  intro v68 W65 hown hgrow
                  have HFn := veil ((unveil HF).growX (unveil HA).1 hgrow (unveil HN))
                  have HNn : Hid (W3.heap.size ≤ W65.heap.size) := Nat.le_trans (unveil HN) hgrow.size
                  have HDn := veil hown
                  have HZn := veil (And.intro (bk_grow (unveil HZ).1 (by decide) hgrow (row_at (unveil HA).1).2.choose_spec) (unveil HZ).2)
                  simp only [List.getElem_toArray, List.getElem_cons_zero, List.getElem_cons_succ, Act.put, List.setIfInBounds_toArray, List.set_cons_zero, List.set_cons_succ]
                  refine hK _ _ (veil (unveil HFn).be) ?_
                  clear hK K hown hgrow HF HN HA HCC HZ
                  have HF := HFn; clear HFn; have HN := HNn; clear HNn
                  have HDD := HDn; clear HDn
                  have HZ := HZn; clear HZn
                  refine sct_step _ rfl (fun K hK => ?_)
                  go_simp
                  refine ⟨trivial, rfl, (callsIn_wide.2 (unveil HP3 _ W65 W3.heap.size ((unveil HB3).trans (((unveil HF9).be.trans (unveil HF).be).mono (unveil HB3).size)) (unveil HDD))).mono ?_⟩
                  rintro e W66 ⟨q3, c3, rfl, hk3, hbn⟩
                  have HFn := veil ((unveil HF).below hbn (unveil HN))
                  have HNn : Hid (W3.heap.size ≤ W66.heap.size) := Nat.le_trans (unveil HN) hbn.size
                  have HZn := veil (And.intro ((unveil HZ).1.below hbn) (unveil HZ).2)
                  have HKK := veil (hk3.mono (K' := fun g => g ≠ W58.heap.size) (fun g _ hg => by have := (unveil HZ).1.lt; omega))
                  refine hK _ _ (veil (unveil HFn).be) ?_
                  clear hK K hk3 hbn HF HN HDD HZ
                  have HF := HFn; clear HFn; have HN := HNn; clear HNn
                  have HZ := HZn; clear HZn
                  iterate 5 (
                   refine sct_pure _ rfl _ (.inl ⟨rfl, fun W hS => (by go_simp; rfl)⟩) (fun B hB => ?_)
                   simp only [List.getElem_toArray, List.getElem_cons_zero, List.getElem_cons_succ, Act.put, List.setIfInBounds_toArray, List.set_cons_zero, List.set_cons_succ] at hB
                   subst hB)
                  refine sct_step _ rfl (fun K hK => ?_)
                  obtain ⟨⟨z0, z1, z2, z3, z4, z5, z6⟩, zl, ⟨u0, u1, u2, u3, u4, u5, u6⟩⟩ := ex_cells (unveil HZ).1
                  go_simp
                  obtain ⟨r1, r2, r3, r4⟩ := ex_put (unveil HZ).1 (.int .i64 x0) (.int .i64 x1) (.int .i64 x2) (.int .i64 x3) (.string ⟨x4.toArray⟩) (.slice q3 x5.length c3) (.int .i64 x6) _ rfl
                  have HFE := veil ((unveil HF).putBox (unveil HZ).2 (Nat.le_trans (unveil HZ9) (unveil HZ).2) r2 r3)
                  have HEE := veil r1
                  have HKE : Hid (Kids _ (fun _ => True) (.mk x0 x1 x2 x3 x4 x5 x6) q3) := (unveil HKK).keep (fun g cs fz hg he => ⟨r3 g _ hg he, trivial⟩)
                  refine hK _ _ (veil (unveil HFE).be) ?_
                  clear hK K r1 r2 r3 r4 z0 z1 z2 z3 z4 z5 z6 zl u0 u1 u2 u3 u4 u5 u6
                  iterate 2 (
                   refine sct_pure _ rfl _ (.inl ⟨rfl, fun W hS => (by go_simp; rfl)⟩) (fun B hB => ?_)
                   simp only [List.getElem_toArray, List.getElem_cons_zero, List.getElem_cons_succ, Act.put, List.setIfInBounds_toArray, List.set_cons_zero, List.set_cons_succ] at hB
                   subst hB)
                  refine sct_done ?_
                  refine listIn_last rfl (fun K hK => ?_)
                  go_simp
                  refine hK _ _ ?_
                  clear hK K
                  go_wp2_with fail
                  go_meet
                  case rel => exact ⟨_, _, _, rfl, rfl, rfl, rfl, HFE, HEE, HKE⟩
              · skip
                refine sct_step _ rfl (fun K hK => ?_)
                go_simp
                have hbn : Below W57.heap.size W57 (W57.alloc (.cells #[.int .i64 0, .int .i64 0, .int .i64 0, .int .i64 0, .string ⟨#[]⟩, .slice none 0 0, .int .i64 0] 24)) := (Below.refl _ W57).alloc (Nat.le_refl _) _
                have HFn : Hid (FrW W3.heap.size W9 (W57.alloc (.cells #[.int .i64 0, .int .i64 0, .int .i64 0, .int .i64 0, .string ⟨#[]⟩, .slice none 0 0, .int .i64 0] 24))) := (unveil HF).below hbn (unveil HN)
                have HNn : Hid (W3.heap.size ≤ (W57.alloc (.cells #[.int .i64 0, .int .i64 0, .int .i64 0, .int .i64 0, .string ⟨#[]⟩, .slice none 0 0, .int .i64 0] 24)).heap.size) := Nat.le_trans (unveil HN) hbn.size
                have HVn := veil (row_below' (unveil HV) hbn)
                have HAn := veil (And.intro (row_below' (unveil HA).1 hbn) (unveil HA).2)
                have HBn := veil ((unveil HBB).below hbn)
                have HZn : Hid (Bk (W57.alloc (.cells #[.int .i64 0, .int .i64 0, .int .i64 0, .int .i64 0, .string ⟨#[]⟩, .slice none 0 0, .int .i64 0] 24)) W57.heap.size 24 #[.int .i64 0, .int .i64 0, .int .i64 0, .int .i64 0, .string ⟨#[]⟩, .slice none 0 0, .int .i64 0] ∧ W9.heap.size ≤ W57.heap.size) := ⟨Bk.new W57 _ _, (unveil HF).be.size⟩
                refine hK _ _ (veil (unveil HFn).be) ?_
                clear hK K hbn HF HN HV HA HBB
                generalize (W57.alloc (.cells #[.int .i64 0, .int .i64 0, .int .i64 0, .int .i64 0, .string ⟨#[]⟩, .slice none 0 0, .int .i64 0] 24)) = W67 at *
                have HF := HFn; clear HFn
                have HN := HNn; clear HNn
                have HV := HVn; clear HVn
                have HA := HAn; clear HAn
                have HBB := HBn; clear HBn
                have HZ := HZn; clear HZn
                refine sct_step _ rfl (fun K hK => ?_)
                refine stepIn_app_Src rfl _ _ 26 rfl W3.heap.size 42 i1 _ 64 Tryz.underlying26 hi1 zw sw bw rfl _ (1 + p1 + 1) _ rfl (unveil HV) _ 1 _ rfl (unveil HBB) (by unfold maxLen; omega) (by omega) (unveil HN) ?_
                intro v67 W68 hown hgrow
                have HFn := veil ((unveil HF).growX (unveil HV) hgrow (unveil HN))
                have HNn : Hid (W3.heap.size ≤ W68.heap.size) := Nat.le_trans (unveil HN) hgrow.size
                have HCn : Hid (Src W68 v67 (1 + p1 + 1 + 1) (wdCells [opnW] ++ wdCells ws ++ wdCells [clsW] ++ wdCells [clsW])) := src_row hown (fun u hu => wd_one ([opnW] ++ ws ++ [clsW] ++ [clsW]) u (by rw [wdCells_app, wdCells_app, wdCells_app]; exact hu))
                have HAn := veil (And.intro (row_other (unveil HA).1 hgrow (Nat.ne_of_gt (unveil HA).2)) trivial)
                have HZn := veil (And.intro (bk_grow (unveil HZ).1 (by decide) hgrow (row_at (unveil HV)).2.choose_spec) (unveil HZ).2)
                simp only [List.getElem_toArray, List.getElem_cons_zero, List.getElem_cons_succ, Act.put, List.setIfInBounds_toArray, List.set_cons_zero, List.set_cons_succ]
                refine hK _ _ (veil (unveil HFn).be) ?_
                clear hK K hown hgrow HF HN HV HBB HA HZ
                have HF := HFn; clear HFn; have HN := HNn; clear HNn
                have HCC := HCn; clear HCn
                have HA := HAn; clear HAn
                have HZ := HZn; clear HZn
                refine sct_step _ rfl (fun K hK => ?_)
                refine stepIn_app_Src rfl _ _ 26 rfl W3.heap.size 42 i1 _ 64 Tryz.underlying26 hi1 zw sw bw rfl _ 2 _ rfl (unveil HA).1 _ (1 + p1 + 1 + 1) _ rfl (unveil HCC) (by unfold maxLen; omega) (by omega) (unveil HN) ?_
                intro v68 W69 hown hgrow
                have HFn := veil ((unveil HF).growX (unveil HA).1 hgrow (unveil HN))
                have HNn : Hid (W3.heap.size ≤ W69.heap.size) := Nat.le_trans (unveil HN) hgrow.size
                have HDn := veil hown
                have HZn := veil (And.intro (bk_grow (unveil HZ).1 (by decide) hgrow (row_at (unveil HA).1).2.choose_spec) (unveil HZ).2)
                simp only [List.getElem_toArray, List.getElem_cons_zero, List.getElem_cons_succ, Act.put, List.setIfInBounds_toArray, List.set_cons_zero, List.set_cons_succ]
                refine hK _ _ (veil (unveil HFn).be) ?_
                clear hK K hown hgrow HF HN HA HCC HZ
                have HF := HFn; clear HFn; have HN := HNn; clear HNn
                have HDD := HDn; clear HDn
                have HZ := HZn; clear HZn
                refine sct_step _ rfl (fun K hK => ?_)
                go_simp
                refine ⟨trivial, rfl, (callsIn_wide.2 (unveil HP3 _ W69 W3.heap.size ((unveil HB3).trans (((unveil HF9).be.trans (unveil HF).be).mono (unveil HB3).size)) (unveil HDD))).mono ?_⟩
                rintro e W70 ⟨q3, c3, rfl, hk3, hbn⟩
                have HFn := veil ((unveil HF).below hbn (unveil HN))
                have HNn : Hid (W3.heap.size ≤ W70.heap.size) := Nat.le_trans (unveil HN) hbn.size
                have HZn := veil (And.intro ((unveil HZ).1.below hbn) (unveil HZ).2)
                have HKK := veil (hk3.mono (K' := fun g => g ≠ W57.heap.size) (fun g _ hg => by have := (unveil HZ).1.lt; omega))
                refine hK _ _ (veil (unveil HFn).be) ?_
                clear hK K hk3 hbn HF HN HDD HZ
                have HF := HFn; clear HFn; have HN := HNn; clear HNn
                have HZ := HZn; clear HZn
                iterate 5 (
                 refine sct_pure _ rfl _ (.inl ⟨rfl, fun W hS => (by go_simp; rfl)⟩) (fun B hB => ?_)
                 simp only [List.getElem_toArray, List.getElem_cons_zero, List.getElem_cons_succ, Act.put, List.setIfInBounds_toArray, List.set_cons_zero, List.set_cons_succ] at hB
                 subst hB)
                refine sct_step _ rfl (fun K hK => ?_)
                obtain ⟨⟨z0, z1, z2, z3, z4, z5, z6⟩, zl, ⟨u0, u1, u2, u3, u4, u5, u6⟩⟩ := ex_cells (unveil HZ).1
                go_simp
                obtain ⟨r1, r2, r3, r4⟩ := ex_put (unveil HZ).1 (.int .i64 x0) (.int .i64 x1) (.int .i64 x2) (.int .i64 x3) (.string ⟨x4.toArray⟩) (.slice q3 x5.length c3) (.int .i64 x6) _ rfl
                have HFE := veil ((unveil HF).putBox (unveil HZ).2 (Nat.le_trans (unveil HZ9) (unveil HZ).2) r2 r3)
                have HEE := veil r1
                have HKE : Hid (Kids _ (fun _ => True) (.mk x0 x1 x2 x3 x4 x5 x6) q3) := (unveil HKK).keep (fun g cs fz hg he => ⟨r3 g _ hg he, trivial⟩)
                refine hK _ _ (veil (unveil HFE).be) ?_
                clear hK K r1 r2 r3 r4 z0 z1 z2 z3 z4 z5 z6 zl u0 u1 u2 u3 u4 u5 u6
                iterate 2 (
                 refine sct_pure _ rfl _ (.inl ⟨rfl, fun W hS => (by go_simp; rfl)⟩) (fun B hB => ?_)
                 simp only [List.getElem_toArray, List.getElem_cons_zero, List.getElem_cons_succ, Act.put, List.setIfInBounds_toArray, List.set_cons_zero, List.set_cons_succ] at hB
                 subst hB)
                refine sct_done ?_
                refine listIn_last rfl (fun K hK => ?_)
                go_simp
                refine hK _ _ ?_
                clear hK K
                go_wp2_with fail
                go_meet
                case rel => exact ⟨_, _, _, rfl, rfl, rfl, rfl, HFE, HEE, HKE⟩
            · skip
              refine sct_step _ rfl (fun K hK => ?_)
              refine stepIn_app_Src rfl _ _ 26 rfl W3.heap.size 42 i1 _ 64 Tryz.underlying26 hi1 zw sw bw rfl _ (1 + p1 + 1) _ rfl (unveil HV) _ 1 _ rfl (unveil HBB) (by unfold maxLen; omega) (by omega) (unveil HN) ?_
              intro v67 W71 hown hgrow
              have HFn := veil ((unveil HF).growX (unveil HV) hgrow (unveil HN))
              have HNn : Hid (W3.heap.size ≤ W71.heap.size) := Nat.le_trans (unveil HN) hgrow.size
              have HCn : Hid (Src W71 v67 (1 + p1 + 1 + 1) (wdCells [opnW] ++ wdCells ws ++ wdCells [clsW] ++ wdCells [clsW])) := src_row hown (fun u hu => wd_one ([opnW] ++ ws ++ [clsW] ++ [clsW]) u (by rw [wdCells_app, wdCells_app, wdCells_app]; exact hu))
              simp only [List.getElem_toArray, List.getElem_cons_zero, List.getElem_cons_succ, Act.put, List.setIfInBounds_toArray, List.set_cons_zero, List.set_cons_succ]
              refine hK _ _ (veil (unveil HFn).be) ?_
              clear hK K hown hgrow HF HN HV HBB
              have HF := HFn; clear HFn; have HN := HNn; clear HNn
              have HCC := HCn; clear HCn
              refine sct_both ?_ ?_
              · skip
                refine sct_step _ rfl (fun K hK => ?_)
                go_simp
                have hbn : Below W71.heap.size W71 (W71.alloc (.cells #[.int .i64 5, .string ⟨#[40]⟩, .int .i64 0, .int .i64 0, .string ⟨#[]⟩, .int .i64 0, .int .i64 5, .string ⟨#[43]⟩, .int .i64 0, .int .i64 0, .string ⟨#[]⟩, .int .i64 0] 42)) := (Below.refl _ W71).alloc (Nat.le_refl _) _
                have HFn : Hid (FrW W3.heap.size W9 (W71.alloc (.cells #[.int .i64 5, .string ⟨#[40]⟩, .int .i64 0, .int .i64 0, .string ⟨#[]⟩, .int .i64 0, .int .i64 5, .string ⟨#[43]⟩, .int .i64 0, .int .i64 0, .string ⟨#[]⟩, .int .i64 0] 42))) := (unveil HF).below hbn (unveil HN)
                have HNn : Hid (W3.heap.size ≤ (W71.alloc (.cells #[.int .i64 5, .string ⟨#[40]⟩, .int .i64 0, .int .i64 0, .string ⟨#[]⟩, .int .i64 0, .int .i64 5, .string ⟨#[43]⟩, .int .i64 0, .int .i64 0, .string ⟨#[]⟩, .int .i64 0] 42)).heap.size) := Nat.le_trans (unveil HN) hbn.size
                have HCn := veil ((unveil HCC).below hbn)
                have HAn : Hid ((W71.alloc (.cells #[.int .i64 5, .string ⟨#[40]⟩, .int .i64 0, .int .i64 0, .string ⟨#[]⟩, .int .i64 0, .int .i64 5, .string ⟨#[43]⟩, .int .i64 0, .int .i64 0, .string ⟨#[]⟩, .int .i64 0] 42)).ownsRow W3.heap.size 42 6 (.slice (some ⟨W71.heap.size, 0, none⟩) 2 2) 2 (wdCells [opnW, plsW]) ∧ True) := ⟨own_new (Bk.new W71 _ _) rfl rfl (unveil HN) (by decide), trivial⟩
                refine hK _ _ (veil (unveil HFn).be) ?_
                clear hK K hbn HF HN HCC
                generalize (W71.alloc (.cells #[.int .i64 5, .string ⟨#[40]⟩, .int .i64 0, .int .i64 0, .string ⟨#[]⟩, .int .i64 0, .int .i64 5, .string ⟨#[43]⟩, .int .i64 0, .int .i64 0, .string ⟨#[]⟩, .int .i64 0] 42)) = W72 at *
                have HF := HFn; clear HFn
                have HN := HNn; clear HNn
                have HA := HAn; clear HAn
                have HCC := HCn; clear HCn
                refine sct_both ?_ ?_
                · skip
                  refine sct_step _ rfl (fun K hK => ?_)
                  refine stepIn_app_Src rfl _ _ 26 rfl W3.heap.size 42 i1 _ 64 Tryz.underlying26 hi1 zw sw bw rfl _ 2 _ rfl (unveil HA).1 _ (1 + p1 + 1 + 1) _ rfl (unveil HCC) (by unfold maxLen; omega) (by omega) (unveil HN) ?_
                  intro v68 W73 hown hgrow
                  have HFn := veil ((unveil HF).growX (unveil HA).1 hgrow (unveil HN))
                  have HNn : Hid (W3.heap.size ≤ W73.heap.size) := Nat.le_trans (unveil HN) hgrow.size
                  have HDn := veil hown
                  simp only [List.getElem_toArray, List.getElem_cons_zero, List.getElem_cons_succ, Act.put, List.setIfInBounds_toArray, List.set_cons_zero, List.set_cons_succ]
                  refine hK _ _ (veil (unveil HFn).be) ?_
                  clear hK K hown hgrow HF HN HA HCC
                  have HF := HFn; clear HFn; have HN := HNn; clear HNn
                  have HDD := HDn; clear HDn
                  refine sct_both ?_ ?_
                  · skip
                    refine sct_step _ rfl (fun K hK => ?_)
                    go_simp
                    refine ⟨trivial, rfl, (callsIn_wide.2 (unveil HP3 _ W73 W3.heap.size ((unveil HB3).trans (((unveil HF9).be.trans (unveil HF).be).mono (unveil HB3).size)) (unveil HDD))).mono ?_⟩
                    rintro e W74 ⟨q3, c3, rfl, hk3, hbn⟩
                    have HFn := veil ((unveil HF).below hbn (unveil HN))
                    have HNn : Hid (W3.heap.size ≤ W74.heap.size) := Nat.le_trans (unveil HN) hbn.size
                    have HKK := veil hk3
                    refine hK _ _ (veil (unveil HFn).be) ?_
                    clear hK K hk3 hbn HF HN HDD
                    have HF := HFn; clear HFn; have HN := HNn; clear HNn
                    iterate 5 (
                     refine sct_pure _ rfl _ (.inl ⟨rfl, fun W hS => (by go_simp; rfl)⟩) (fun B hB => ?_)
                     simp only [List.getElem_toArray, List.getElem_cons_zero, List.getElem_cons_succ, Act.put, List.setIfInBounds_toArray, List.set_cons_zero, List.set_cons_succ] at hB
                     subst hB)
                    refine sct_step _ rfl (fun K hK => ?_)
                    go_simp
                    have hbn : Below W74.heap.size W74 (W74.alloc (.cells #[.int .i64 0, .int .i64 0, .int .i64 0, .int .i64 0, .string ⟨#[]⟩, .slice none 0 0, .int .i64 0] 24)) := (Below.refl _ W74).alloc (Nat.le_refl _) _
                    have HFn : Hid (FrW W3.heap.size W9 (W74.alloc (.cells #[.int .i64 0, .int .i64 0, .int .i64 0, .int .i64 0, .string ⟨#[]⟩, .slice none 0 0, .int .i64 0] 24))) := (unveil HF).below hbn (unveil HN)
                    have HNn : Hid (W3.heap.size ≤ (W74.alloc (.cells #[.int .i64 0, .int .i64 0, .int .i64 0, .int .i64 0, .string ⟨#[]⟩, .slice none 0 0, .int .i64 0] 24)).heap.size) := Nat.le_trans (unveil HN) hbn.size
                    have HZn : Hid (Bk (W74.alloc (.cells #[.int .i64 0, .int .i64 0, .int .i64 0, .int .i64 0, .string ⟨#[]⟩, .slice none 0 0, .int .i64 0] 24)) W74.heap.size 24 #[.int .i64 0, .int .i64 0, .int .i64 0, .int .i64 0, .string ⟨#[]⟩, .slice none 0 0, .int .i64 0] ∧ W9.heap.size ≤ W74.heap.size) := ⟨Bk.new W74 _ _, (unveil HF).be.size⟩
                    have HKn : Hid (Kids (W74.alloc (.cells #[.int .i64 0, .int .i64 0, .int .i64 0, .int .i64 0, .string ⟨#[]⟩, .slice none 0 0, .int .i64 0] 24)) (fun g => g ≠ W74.heap.size) (.mk x0 x1 x2 x3 x4 x5 x6) q3) := ((unveil HKK).mono (fun g hg _ => by omega)).below hbn
                    refine hK _ _ (veil (unveil HFn).be) ?_
                    clear hK K hbn HF HN HKK
                    generalize (W74.alloc (.cells #[.int .i64 0, .int .i64 0, .int .i64 0, .int .i64 0, .string ⟨#[]⟩, .slice none 0 0, .int .i64 0] 24)) = W75 at *
                    have HF := HFn; clear HFn
                    have HN := HNn; clear HNn
                    have HZ := HZn; clear HZn
                    have HKK := HKn; clear HKn
                    refine sct_step _ rfl (fun K hK => ?_)
                    obtain ⟨⟨z0, z1, z2, z3, z4, z5, z6⟩, zl, ⟨u0, u1, u2, u3, u4, u5, u6⟩⟩ := ex_cells (unveil HZ).1
                    go_simp
                    obtain ⟨r1, r2, r3, r4⟩ := ex_put (unveil HZ).1 (.int .i64 x0) (.int .i64 x1) (.int .i64 x2) (.int .i64 x3) (.string ⟨x4.toArray⟩) (.slice q3 x5.length c3) (.int .i64 x6) _ rfl
                    have HFE := veil ((unveil HF).putBox (unveil HZ).2 (Nat.le_trans (unveil HZ9) (unveil HZ).2) r2 r3)
                    have HEE := veil r1
                    have HKE : Hid (Kids _ (fun _ => True) (.mk x0 x1 x2 x3 x4 x5 x6) q3) := (unveil HKK).keep (fun g cs fz hg he => ⟨r3 g _ hg he, trivial⟩)
                    refine hK _ _ (veil (unveil HFE).be) ?_
                    clear hK K r1 r2 r3 r4 z0 z1 z2 z3 z4 z5 z6 zl u0 u1 u2 u3 u4 u5 u6
                    iterate 2 (
                     refine sct_pure _ rfl _ (.inl ⟨rfl, fun W hS => (by go_simp; rfl)⟩) (fun B hB => ?_)
                     simp only [List.getElem_toArray, List.getElem_cons_zero, List.getElem_cons_succ, Act.put, List.setIfInBounds_toArray, List.set_cons_zero, List.set_cons_succ] at hB
                     subst hB)
                    refine sct_done ?_
                    refine listIn_last rfl (fun K hK => ?_)
                    go_simp
                    refine hK _ _ ?_
                    clear hK K
                    go_wp2_with fail
                    go_meet
                    case rel => exact ⟨_, _, _, rfl, rfl, rfl, rfl, HFE, HEE, HKE⟩
                  · skip
                    refine sct_step _ rfl (fun K hK => ?_)
                    go_simp
                    have hbn : Below W73.heap.size W73 (W73.alloc (.cells #[.int .i64 0, .int .i64 0, .int .i64 0, .int .i64 0, .string ⟨#[]⟩, .slice none 0 0, .int .i64 0] 24)) := (Below.refl _ W73).alloc (Nat.le_refl _) _
                    have HFn : Hid (FrW W3.heap.size W9 (W73.alloc (.cells #[.int .i64 0, .int .i64 0, .int .i64 0, .int .i64 0, .string ⟨#[]⟩, .slice none 0 0, .int .i64 0] 24))) := (unveil HF).below hbn (unveil HN)
                    have HNn : Hid (W3.heap.size ≤ (W73.alloc (.cells #[.int .i64 0, .int .i64 0, .int .i64 0, .int .i64 0, .string ⟨#[]⟩, .slice none 0 0, .int .i64 0] 24)).heap.size) := Nat.le_trans (unveil HN) hbn.size
                    have HDn := veil (row_below' (unveil HDD) hbn)
                    have HZn : Hid (Bk (W73.alloc (.cells #[.int .i64 0, .int .i64 0, .int .i64 0, .int .i64 0, .string ⟨#[]⟩, .slice none 0 0, .int .i64 0] 24)) W73.heap.size 24 #[.int .i64 0, .int .i64 0, .int .i64 0, .int .i64 0, .string ⟨#[]⟩, .slice none 0 0, .int .i64 0] ∧ W9.heap.size ≤ W73.heap.size) := ⟨Bk.new W73 _ _, (unveil HF).be.size⟩
                    refine hK _ _ (veil (unveil HFn).be) ?_
                    clear hK K hbn HF HN HDD
                    generalize (W73.alloc (.cells #[.int .i64 0, .int .i64 0, .int .i64 0, .int .i64 0, .string ⟨#[]⟩, .slice none 0 0, .int .i64 0] 24)) = W76 at *
                    have HF := HFn; clear HFn
                    have HN := HNn; clear HNn
                    have HDD := HDn; clear HDn
                    have HZ := HZn; clear HZn
                    refine sct_step _ rfl (fun K hK => ?_)
                    go_simp
                    refine ⟨trivial, rfl, (callsIn_wide.2 (unveil HP3 _ W76 W3.heap.size ((unveil HB3).trans (((unveil HF9).be.trans (unveil HF).be).mono (unveil HB3).size)) (unveil HDD))).mono ?_⟩
                    rintro e W77 ⟨q3, c3, rfl, hk3, hbn⟩
                    have HFn := veil ((unveil HF).below hbn (unveil HN))
                    have HNn : Hid (W3.heap.size ≤ W77.heap.size) := Nat.le_trans (unveil HN) hbn.size
                    have HZn := veil (And.intro ((unveil HZ).1.below hbn) (unveil HZ).2)
                    have HKK := veil (hk3.mono (K' := fun g => g ≠ W73.heap.size) (fun g _ hg => by have := (unveil HZ).1.lt; omega))
                    refine hK _ _ (veil (unveil HFn).be) ?_
                    clear hK K hk3 hbn HF HN HDD HZ
                    have HF := HFn; clear HFn; have HN := HNn; clear HNn
                    have HZ := HZn; clear HZn
                    iterate 5 (
                     refine sct_pure _ rfl _ (.inl ⟨rfl, fun W hS => (by go_simp; rfl)⟩) (fun B hB => ?_)
                     simp only [List.getElem_toArray, List.getElem_cons_zero, List.getElem_cons_succ, Act.put, List.setIfInBounds_toArray, List.set_cons_zero, List.set_cons_succ] at hB
                     subst hB)
                    refine sct_step _ rfl (fun K hK => ?_)
                    obtain ⟨⟨z0, z1, z2, z3, z4, z5, z6⟩, zl, ⟨u0, u1, u2, u3, u4, u5, u6⟩⟩ := ex_cells (unveil HZ).1
                    go_simp
                    obtain ⟨r1, r2, r3, r4⟩ := ex_put (unveil HZ).1 (.int .i64 x0) (.int .i64 x1) (.int .i64 x2) (.int .i64 x3) (.string ⟨x4.toArray⟩) (.slice q3 x5.length c3) (.int .i64 x6) _ rfl
                    have HFE := veil ((unveil HF).putBox (unveil HZ).2 (Nat.le_trans (unveil HZ9) (unveil HZ).2) r2 r3)
                    have HEE := veil r1
                    have HKE : Hid (Kids _ (fun _ => True) (.mk x0 x1 x2 x3 x4 x5 x6) q3) := (unveil HKK).keep (fun g cs fz hg he => ⟨r3 g _ hg he, trivial⟩)
                    refine hK _ _ (veil (unveil HFE).be) ?_
                    clear hK K r1 r2 r3 r4 z0 z1 z2 z3 z4 z5 z6 zl u0 u1 u2 u3 u4 u5 u6
                    iterate 2 (
                     refine sct_pure _ rfl _ (.inl ⟨rfl, fun W hS => (by go_simp; rfl)⟩) (fun B hB => ?_)
                     simp only [List.getElem_toArray, List.getElem_cons_zero, List.getElem_cons_succ, Act.put, List.setIfInBounds_toArray, List.set_cons_zero, List.set_cons_succ] at hB
                     subst hB)
                    refine sct_done ?_
                    refine listIn_last rfl (fun K hK => ?_)
                    go_simp
                    refine hK _ _ ?_
                    clear hK K
                    go_wp2_with fail
                    go_meet
                    case rel => exact ⟨_, _, _, rfl, rfl, rfl, rfl, HFE, HEE, HKE⟩
                · skip
                  refine sct_step _ rfl (fun K hK => ?_)
                  go_simp
                  have hbn : Below W72.heap.size W72 (W72.alloc (.cells #[.int .i64 0, .int .i64 0, .int .i64 0, .int .i64 0, .string ⟨#[]⟩, .slice none 0 0, .int .i64 0] 24)) := (Below.refl _ W72).alloc (Nat.le_refl _) _
                  have HFn : Hid (FrW W3.heap.size W9 (W72.alloc (.cells #[.int .i64 0, .int .i64 0, .int .i64 0, .int .i64 0, .string ⟨#[]⟩, .slice none 0 0, .int .i64 0] 24))) := (unveil HF).below hbn (unveil HN)
                  have HNn : Hid (W3.heap.size ≤ (W72.alloc (.cells #[.int .i64 0, .int .i64 0, .int .i64 0, .int .i64 0, .string ⟨#[]⟩, .slice none 0 0, .int .i64 0] 24)).heap.size) := Nat.le_trans (unveil HN) hbn.size
                  have HAn := veil (And.intro (row_below' (unveil HA).1 hbn) (unveil HA).2)
                  have HCn := veil ((unveil HCC).below hbn)
                  have HZn : Hid (Bk (W72.alloc (.cells #[.int .i64 0, .int .i64 0, .int .i64 0, .int .i64 0, .string ⟨#[]⟩, .slice none 0 0, .int .i64 0] 24)) W72.heap.size 24 #[.int .i64 0, .int .i64 0, .int .i64 0, .int .i64 0, .string ⟨#[]⟩, .slice none 0 0, .int .i64 0] ∧ W9.heap.size ≤ W72.heap.size) := ⟨Bk.new W72 _ _, (unveil HF).be.size⟩
                  refine hK _ _ (veil (unveil HFn).be) ?_
                  clear hK K hbn HF HN HA HCC
                  generalize (W72.alloc (.cells #[.int .i64 0, .int .i64 0, .int .i64 0, .int .i64 0, .string ⟨#[]⟩, .slice none 0 0, .int .i64 0] 24)) = W78 at *
                  have HF := HFn; clear HFn
                  have HN := HNn; clear HNn
                  have HA := HAn; clear HAn
                  have HCC := HCn; clear HCn
                  have HZ := HZn; clear HZn
                  refine sct_step _ rfl (fun K hK => ?_)
                  refine stepIn_app_Src rfl _ _ 26 rfl W3.heap.size 42 i1 _ 64 Tryz.underlying26 hi1 zw sw bw rfl _ 2 _ rfl (unveil HA).1 _ (1 + p1 + 1 + 1) _ rfl (unveil HCC) (by unfold maxLen; omega) (by omega) (unveil HN) ?_
                  intro v68 W79 hown hgrow
                  have HFn := veil ((unveil HF).growX (unveil HA).1 hgrow (unveil HN))
                  have HNn : Hid (W3.heap.size ≤ W79.heap.size) := Nat.le_trans (unveil HN) hgrow.size
                  have HDn := veil hown
                  have HZn := veil (And.intro (bk_grow (unveil HZ).1 (by decide) hgrow (row_at (unveil HA).1).2.choose_spec) (unveil HZ).2)
                  simp only [List.getElem_toArray, List.getElem_cons_zero, List.getElem_cons_succ, Act.put, List.setIfInBounds_toArray, List.set_cons_zero, List.set_cons_succ]
                  refine hK _ _ (veil (unveil HFn).be) ?_
                  clear hK K hown hgrow HF HN HA HCC HZ
                  have HF := HFn; clear HFn; have HN := HNn; clear HNn
                  have HDD := HDn; clear HDn
                  have HZ := HZn; clear HZn
                  refine sct_step _ rfl (fun K hK => ?_)
                  go_simp
                  refine ⟨trivial, rfl, (callsIn_wide.2 (unveil HP3 _ W79 W3.heap.size ((unveil HB3).trans (((unveil HF9).be.trans (unveil HF).be).mono (unveil HB3).size)) (unveil HDD))).mono ?_⟩
                  rintro e W80 ⟨q3, c3, rfl, hk3, hbn⟩
                  have HFn := veil ((unveil HF).below hbn (unveil HN))
                  have HNn : Hid (W3.heap.size ≤ W80.heap.size) := Nat.le_trans (unveil HN) hbn.size
                  have HZn := veil (And.intro ((unveil HZ).1.below hbn) (unveil HZ).2)
                  have HKK := veil (hk3.mono (K' := fun g => g ≠ W72.heap.size) (fun g _ hg => by have := (unveil HZ).1.lt; omega))
                  refine hK _ _ (veil (unveil HFn).be) ?_
                  clear hK K hk3 hbn HF HN HDD HZ
                  have HF := HFn; clear HFn; have HN := HNn; clear HNn
                  have HZ := HZn; clear HZn
                  iterate 5 (
                   refine sct_pure _ rfl _ (.inl ⟨rfl, fun W hS => (by go_simp; rfl)⟩) (fun B hB => ?_)
                   simp only [List.getElem_toArray, List.getElem_cons_zero, List.getElem_cons_succ, Act.put, List.setIfInBounds_toArray, List.set_cons_zero, List.set_cons_succ] at hB
                   subst hB)
                  refine sct_step _ rfl (fun K hK => ?_)
                  obtain ⟨⟨z0, z1, z2, z3, z4, z5, z6⟩, zl, ⟨u0, u1, u2, u3, u4, u5, u6⟩⟩ := ex_cells (unveil HZ).1
                  go_simp
                  obtain ⟨r1, r2, r3, r4⟩ := ex_put (unveil HZ).1 (.int .i64 x0) (.int .i64 x1) (.int .i64 x2) (.int .i64 x3) (.string ⟨x4.toArray⟩) (.slice q3 x5.length c3) (.int .i64 x6) _ rfl
                  have HFE := veil ((unveil HF).putBox (unveil HZ).2 (Nat.le_trans (unveil HZ9) (unveil HZ).2) r2 r3)
                  have HEE := veil r1
                  have HKE : Hid (Kids _ (fun _ => True) (.mk x0 x1 x2 x3 x4 x5 x6) q3) := (unveil HKK).keep (fun g cs fz hg he => ⟨r3 g _ hg he, trivial⟩)
                  refine hK _ _ (veil (unveil HFE).be) ?_
                  clear hK K r1 r2 r3 r4 z0 z1 z2 z3 z4 z5 z6 zl u0 u1 u2 u3 u4 u5 u6
                  iterate 2 (
                   refine sct_pure _ rfl _ (.inl ⟨rfl, fun W hS => (by go_simp; rfl)⟩) (fun B hB => ?_)
                   simp only [List.getElem_toArray, List.getElem_cons_zero, List.getElem_cons_succ, Act.put, List.setIfInBounds_toArray, List.set_cons_zero, List.set_cons_succ] at hB
                   subst hB)
                  refine sct_done ?_
                  refine listIn_last rfl (fun K hK => ?_)
                  go_simp
                  refine hK _ _ ?_
                  clear hK K
                  go_wp2_with fail
                  go_meet
                  case rel => exact ⟨_, _, _, rfl, rfl, rfl, rfl, HFE, HEE, HKE⟩
              · skip
                refine sct_step _ rfl (fun K hK => ?_)
                go_simp
                have hbn : Below W71.heap.size W71 (W71.alloc (.cells #[.int .i64 0, .int .i64 0, .int .i64 0, .int .i64 0, .string ⟨#[]⟩, .slice none 0 0, .int .i64 0] 24)) := (Below.refl _ W71).alloc (Nat.le_refl _) _
                have HFn : Hid (FrW W3.heap.size W9 (W71.alloc (.cells #[.int .i64 0, .int .i64 0, .int .i64 0, .int .i64 0, .string ⟨#[]⟩, .slice none 0 0, .int .i64 0] 24))) := (unveil HF).below hbn (unveil HN)
                have HNn : Hid (W3.heap.size ≤ (W71.alloc (.cells #[.int .i64 0, .int .i64 0, .int .i64 0, .int .i64 0, .string ⟨#[]⟩, .slice none 0 0, .int .i64 0] 24)).heap.size) := Nat.le_trans (unveil HN) hbn.size
                have HCn := veil ((unveil HCC).below hbn)
                have HZn : Hid (Bk (W71.alloc (.cells #[.int .i64 0, .int .i64 0, .int .i64 0, .int .i64 0, .string ⟨#[]⟩, .slice none 0 0, .int .i64 0] 24)) W71.heap.size 24 #[.int .i64 0, .int .i64 0, .int .i64 0, .int .i64 0, .string ⟨#[]⟩, .slice none 0 0, .int .i64 0] ∧ W9.heap.size ≤ W71.heap.size) := ⟨Bk.new W71 _ _, (unveil HF).be.size⟩
                refine hK _ _ (veil (unveil HFn).be) ?_
                clear hK K hbn HF HN HCC
                generalize (W71.alloc (.cells #[.int .i64 0, .int .i64 0, .int .i64 0, .int .i64 0, .string ⟨#[]⟩, .slice none 0 0, .int .i64 0] 24)) = W81 at *
                have HF := HFn; clear HFn
                have HN := HNn; clear HNn
                have HCC := HCn; clear HCn
                have HZ := HZn; clear HZn
                refine sct_step _ rfl (fun K hK => ?_)
                go_simp
                have hbn : Below W81.heap.size W81 (W81.alloc (.cells #[.int .i64 5, .string ⟨#[40]⟩, .int .i64 0, .int .i64 0, .string ⟨#[]⟩, .int .i64 0, .int .i64 5, .string ⟨#[43]⟩, .int .i64 0, .int .i64 0, .string ⟨#[]⟩, .int .i64 0] 42)) := (Below.refl _ W81).alloc (Nat.le_refl _) _
                have HFn : Hid (FrW W3.heap.size W9 (W81.alloc (.cells #[.int .i64 5, .string ⟨#[40]⟩, .int .i64 0, .int .i64 0, .string ⟨#[]⟩, .int .i64 0, .int .i64 5, .string ⟨#[43]⟩, .int .i64 0, .int .i64 0, .string ⟨#[]⟩, .int .i64 0] 42))) := (unveil HF).below hbn (unveil HN)
                have HNn : Hid (W3.heap.size ≤ (W81.alloc (.cells #[.int .i64 5, .string ⟨#[40]⟩, .int .i64 0, .int .i64 0, .string ⟨#[]⟩, .int .i64 0, .int .i64 5, .string ⟨#[43]⟩, .int .i64 0, .int .i64 0, .string ⟨#[]⟩, .int .i64 0] 42)).heap.size) := Nat.le_trans (unveil HN) hbn.size
                have HCn := veil ((unveil HCC).below hbn)
                have HZn := veil (And.intro ((unveil HZ).1.below hbn) (unveil HZ).2)
                have HAn : Hid ((W81.alloc (.cells #[.int .i64 5, .string ⟨#[40]⟩, .int .i64 0, .int .i64 0, .string ⟨#[]⟩, .int .i64 0, .int .i64 5, .string ⟨#[43]⟩, .int .i64 0, .int .i64 0, .string ⟨#[]⟩, .int .i64 0] 42)).ownsRow W3.heap.size 42 6 (.slice (some ⟨W81.heap.size, 0, none⟩) 2 2) 2 (wdCells [opnW, plsW]) ∧ True) := ⟨own_new (Bk.new W81 _ _) rfl rfl (unveil HN) (by decide), trivial⟩
                refine hK _ _ (veil (unveil HFn).be) ?_
                clear hK K hbn HF HN HCC HZ
                generalize (W81.alloc (.cells #[.int .i64 5, .string ⟨#[40]⟩, .int .i64 0, .int .i64 0, .string ⟨#[]⟩, .int .i64 0, .int .i64 5, .string ⟨#[43]⟩, .int .i64 0, .int .i64 0, .string ⟨#[]⟩, .int .i64 0] 42)) = W82 at *
                have HF := HFn; clear HFn
                have HN := HNn; clear HNn
                have HA := HAn; clear HAn
                have HCC := HCn; clear HCn
                have HZ := HZn; clear HZn
                refine sct_step _ rfl (fun K hK => ?_)
                refine stepIn_app_Src rfl _ _ 26 rfl W3.heap.size 42 i1 _ 64 Tryz.underlying26 hi1 zw sw bw rfl _ 2 _ rfl (unveil HA).1 _ (1 + p1 + 1 + 1) _ rfl (unveil HCC) (by unfold maxLen; omega) (by omega) (unveil HN) ?_
                intro v68 W83 hown hgrow
                have HFn := veil ((unveil HF).growX (unveil HA).1 hgrow (unveil HN))
                have HNn : Hid (W3.heap.size ≤ W83.heap.size) := Nat.le_trans (unveil HN) hgrow.size
                have HDn := veil hown
                have HZn := veil (And.intro (bk_grow (unveil HZ).1 (by decide) hgrow (row_at (unveil HA).1).2.choose_spec) (unveil HZ).2)
                simp only [List.getElem_toArray, List.getElem_cons_zero, List.getElem_cons_succ, Act.put, List.setIfInBounds_toArray, List.set_cons_zero, List.set_cons_succ]
                refine hK _ _ (veil (unveil HFn).be) ?_
                clear hK K hown hgrow HF HN HA HCC HZ
                have HF := HFn; clear HFn; have HN := HNn; clear HNn
                have HDD := HDn; clear HDn
                have HZ := HZn; clear HZn
                refine sct_step _ rfl (fun K hK => ?_)
                go_simp
                refine ⟨trivial, rfl, (callsIn_wide.2 (unveil HP3 _ W83 W3.heap.size ((unveil HB3).trans (((unveil HF9).be.trans (unveil HF).be).mono (unveil HB3).size)) (unveil HDD))).mono ?_⟩
                rintro e W84 ⟨q3, c3, rfl, hk3, hbn⟩
                have HFn := veil ((unveil HF).below hbn (unveil HN))
                have HNn : Hid (W3.heap.size ≤ W84.heap.size) := Nat.le_trans (unveil HN) hbn.size
                have HZn := veil (And.intro ((unveil HZ).1.below hbn) (unveil HZ).2)
                have HKK := veil (hk3.mono (K' := fun g => g ≠ W71.heap.size) (fun g _ hg => by have := (unveil HZ).1.lt; omega))
                refine hK _ _ (veil (unveil HFn).be) ?_
                clear hK K hk3 hbn HF HN HDD HZ
                have HF := HFn; clear HFn; have HN := HNn; clear HNn
                have HZ := HZn; clear HZn
                iterate 5 (
                 refine sct_pure _ rfl _ (.inl ⟨rfl, fun W hS => (by go_simp; rfl)⟩) (fun B hB => ?_)
                 simp only [List.getElem_toArray, List.getElem_cons_zero, List.getElem_cons_succ, Act.put, List.setIfInBounds_toArray, List.set_cons_zero, List.set_cons_succ] at hB
                 subst hB)
                refine sct_step _ rfl (fun K hK => ?_)
                obtain ⟨⟨z0, z1, z2, z3, z4, z5, z6⟩, zl, ⟨u0, u1, u2, u3, u4, u5, u6⟩⟩ := ex_cells (unveil HZ).1
                go_simp
                obtain ⟨r1, r2, r3, r4⟩ := ex_put (unveil HZ).1 (.int .i64 x0) (.int .i64 x1) (.int .i64 x2) (.int .i64 x3) (.string ⟨x4.toArray⟩) (.slice q3 x5.length c3) (.int .i64 x6) _ rfl
                have HFE := veil ((unveil HF).putBox (unveil HZ).2 (Nat.le_trans (unveil HZ9) (unveil HZ).2) r2 r3)
                have HEE := veil r1
                have HKE : Hid (Kids _ (fun _ => True) (.mk x0 x1 x2 x3 x4 x5 x6) q3) := (unveil HKK).keep (fun g cs fz hg he => ⟨r3 g _ hg he, trivial⟩)
                refine hK _ _ (veil (unveil HFE).be) ?_
                clear hK K r1 r2 r3 r4 z0 z1 z2 z3 z4 z5 z6 zl u0 u1 u2 u3 u4 u5 u6
                iterate 2 (
                 refine sct_pure _ rfl _ (.inl ⟨rfl, fun W hS => (by go_simp; rfl)⟩) (fun B hB => ?_)
                 simp only [List.getElem_toArray, List.getElem_cons_zero, List.getElem_cons_succ, Act.put, List.setIfInBounds_toArray, List.set_cons_zero, List.set_cons_succ] at hB
                 subst hB)
                refine sct_done ?_
                refine listIn_last rfl (fun K hK => ?_)
                go_simp
                refine hK _ _ ?_
                clear hK K
                go_wp2_with fail
                go_meet
                case rel => exact ⟨_, _, _, rfl, rfl, rfl, rfl, HFE, HEE, HKE⟩
            · skip
              refine sct_step _ rfl (fun K hK => ?_)
              go_simp
              have hbn : Below W56.heap.size W56 (W56.alloc (.cells #[.int .i64 0, .int .i64 0, .int .i64 0, .int .i64 0, .string ⟨#[]⟩, .slice none 0 0, .int .i64 0] 24)) := (Below.refl _ W56).alloc (Nat.le_refl _) _
              have HFn : Hid (FrW W3.heap.size W9 (W56.alloc (.cells #[.int .i64 0, .int .i64 0, .int .i64 0, .int .i64 0, .string ⟨#[]⟩, .slice none 0 0, .int .i64 0] 24))) := (unveil HF).below hbn (unveil HN)
              have HNn : Hid (W3.heap.size ≤ (W56.alloc (.cells #[.int .i64 0, .int .i64 0, .int .i64 0, .int .i64 0, .string ⟨#[]⟩, .slice none 0 0, .int .i64 0] 24)).heap.size) := Nat.le_trans (unveil HN) hbn.size
              have HVn := veil (row_below' (unveil HV) hbn)
              have HBn := veil ((unveil HBB).below hbn)
              have HZn : Hid (Bk (W56.alloc (.cells #[.int .i64 0, .int .i64 0, .int .i64 0, .int .i64 0, .string ⟨#[]⟩, .slice none 0 0, .int .i64 0] 24)) W56.heap.size 24 #[.int .i64 0, .int .i64 0, .int .i64 0, .int .i64 0, .string ⟨#[]⟩, .slice none 0 0, .int .i64 0] ∧ W9.heap.size ≤ W56.heap.size) := ⟨Bk.new W56 _ _, (unveil HF).be.size⟩
              refine hK _ _ (veil (unveil HFn).be) ?_
              clear hK K hbn HF HN HV HBB
              generalize (W56.alloc (.cells #[.int .i64 0, .int .i64 0, .int .i64 0, .int .i64 0, .string ⟨#[]⟩, .slice none 0 0, .int .i64 0] 24)) = W85 at *
              have HF := HFn; clear HFn
              have HN := HNn; clear HNn
              have HV := HVn; clear HVn
              have HBB := HBn; clear HBn
              have HZ := HZn; clear HZn
              refine sct_both ?_ ?_
              · skip
                refine sct_step _ rfl (fun K hK => ?_)
                go_simp
                have hbn : Below W85.heap.size W85 (W85.alloc (.cells #[.int .i64 5, .string ⟨#[40]⟩, .int .i64 0, .int .i64 0, .string ⟨#[]⟩, .int .i64 0, .int .i64 5, .string ⟨#[43]⟩, .int .i64 0, .int .i64 0, .string ⟨#[]⟩, .int .i64 0] 42)) := (Below.refl _ W85).alloc (Nat.le_refl _) _
                have HFn : Hid (FrW W3.heap.size W9 (W85.alloc (.cells #[.int .i64 5, .string ⟨#[40]⟩, .int .i64 0, .int .i64 0, .string ⟨#[]⟩, .int .i64 0, .int .i64 5, .string ⟨#[43]⟩, .int .i64 0, .int .i64 0, .string ⟨#[]⟩, .int .i64 0] 42))) := (unveil HF).below hbn (unveil HN)
                have HNn : Hid (W3.heap.size ≤ (W85.alloc (.cells #[.int .i64 5, .string ⟨#[40]⟩, .int .i64 0, .int .i64 0, .string ⟨#[]⟩, .int .i64 0, .int .i64 5, .string ⟨#[43]⟩, .int .i64 0, .int .i64 0, .string ⟨#[]⟩, .int .i64 0] 42)).heap.size) := Nat.le_trans (unveil HN) hbn.size
                have HVn := veil (row_below' (unveil HV) hbn)
                have HBn := veil ((unveil HBB).below hbn)
                have HZn := veil (And.intro ((unveil HZ).1.below hbn) (unveil HZ).2)
                have HAn : Hid ((W85.alloc (.cells #[.int .i64 5, .string ⟨#[40]⟩, .int .i64 0, .int .i64 0, .string ⟨#[]⟩, .int .i64 0, .int .i64 5, .string ⟨#[43]⟩, .int .i64 0, .int .i64 0, .string ⟨#[]⟩, .int .i64 0] 42)).ownsRow W3.heap.size 42 6 (.slice (some ⟨W85.heap.size, 0, none⟩) 2 2) 2 (wdCells [opnW, plsW]) ∧ g7 < W85.heap.size) := ⟨own_new (Bk.new W85 _ _) rfl rfl (unveil HN) (by decide), ((unveil HV).lt g7 rfl).2⟩
                refine hK _ _ (veil (unveil HFn).be) ?_
                clear hK K hbn HF HN HV HBB HZ
                generalize (W85.alloc (.cells #[.int .i64 5, .string ⟨#[40]⟩, .int .i64 0, .int .i64 0, .string ⟨#[]⟩, .int .i64 0, .int .i64 5, .string ⟨#[43]⟩, .int .i64 0, .int .i64 0, .string ⟨#[]⟩, .int .i64 0] 42)) = W86 at *
                have HF := HFn; clear HFn
                have HN := HNn; clear HNn
                have HV := HVn; clear HVn
                have HA := HAn; clear HAn
                have HBB := HBn; clear HBn
                have HZ := HZn; clear HZn
                refine sct_step _ rfl (fun K hK => ?_)
                refine stepIn_app_Src rfl _ _ 26 rfl W3.heap.size 42 i1 _ 64 Tryz.underlying26 hi1 zw sw bw rfl _ (1 + p1 + 1) _ rfl (unveil HV) _ 1 _ rfl (unveil HBB) (by unfold maxLen; omega) (by omega) (unveil HN) ?_
                intro v67 W87 hown hgrow
                have HFn := veil ((unveil HF).growX (unveil HV) hgrow (unveil HN))
                have HNn : Hid (W3.heap.size ≤ W87.heap.size) := Nat.le_trans (unveil HN) hgrow.size
                have HCn : Hid (Src W87 v67 (1 + p1 + 1 + 1) (wdCells [opnW] ++ wdCells ws ++ wdCells [clsW] ++ wdCells [clsW])) := src_row hown (fun u hu => wd_one ([opnW] ++ ws ++ [clsW] ++ [clsW]) u (by rw [wdCells_app, wdCells_app, wdCells_app]; exact hu))
                have HAn := veil (And.intro (row_other (unveil HA).1 hgrow (Nat.ne_of_gt (unveil HA).2)) trivial)
                have HZn := veil (And.intro (bk_grow (unveil HZ).1 (by decide) hgrow (row_at (unveil HV)).2.choose_spec) (unveil HZ).2)
                simp only [List.getElem_toArray, List.getElem_cons_zero, List.getElem_cons_succ, Act.put, List.setIfInBounds_toArray, List.set_cons_zero, List.set_cons_succ]
                refine hK _ _ (veil (unveil HFn).be) ?_
                clear hK K hown hgrow HF HN HV HBB HA HZ
                have HF := HFn; clear HFn; have HN := HNn; clear HNn
                have HCC := HCn; clear HCn
                have HA := HAn; clear HAn
                have HZ := HZn; clear HZn
                refine sct_step _ rfl (fun K hK => ?_)
                refine stepIn_app_Src rfl _ _ 26 rfl W3.heap.size 42 i1 _ 64 Tryz.underlying26 hi1 zw sw bw rfl _ 2 _ rfl (unveil HA).1 _ (1 + p1 + 1 + 1) _ rfl (unveil HCC) (by unfold maxLen; omega) (by omega) (unveil HN) ?_
                intro v68 W88 hown hgrow
                have HFn := veil ((unveil HF).growX (unveil HA).1 hgrow (unveil HN))
                have HNn : Hid (W3.heap.size ≤ W88.heap.size) := Nat.le_trans (unveil HN) hgrow.size
                have HDn := veil hown
                have HZn := veil (And.intro (bk_grow (unveil HZ).1 (by decide) hgrow (row_at (unveil HA).1).2.choose_spec) (unveil HZ).2)
                simp only [List.getElem_toArray, List.getElem_cons_zero, List.getElem_cons_succ, Act.put, List.setIfInBounds_toArray, List.set_cons_zero, List.set_cons_succ]
                refine hK _ _ (veil (unveil HFn).be) ?_
                clear hK K hown hgrow HF HN HA HCC HZ
                have HF := HFn; clear HFn; have HN := HNn; clear HNn
                have HDD := HDn; clear HDn
                have HZ := HZn; clear HZn
                refine sct_step _ rfl (fun K hK => ?_)
                go_simp
                refine ⟨trivial, rfl, (callsIn_wide.2 (unveil HP3 _ W88 W3.heap.size ((unveil HB3).trans (((unveil HF9).be.trans (unveil HF).be).mono (unveil HB3).size)) (unveil HDD))).mono ?_⟩
                rintro e W89 ⟨q3, c3, rfl, hk3, hbn⟩
                have HFn := veil ((unveil HF).below hbn (unveil HN))
                have HNn : Hid (W3.heap.size ≤ W89.heap.size) := Nat.le_trans (unveil HN) hbn.size
                have HZn := veil (And.intro ((unveil HZ).1.below hbn) (unveil HZ).2)
                have HKK := veil (hk3.mono (K' := fun g => g ≠ W56.heap.size) (fun g _ hg => by have := (unveil HZ).1.lt; omega))
                refine hK _ _ (veil (unveil HFn).be) ?_
                clear hK K hk3 hbn HF HN HDD HZ
                have HF := HFn; clear HFn; have HN := HNn; clear HNn
                have HZ := HZn; clear HZn
                iterate 5 (
                 refine sct_pure _ rfl _ (.inl ⟨rfl, fun W hS => (by go_simp; rfl)⟩) (fun B hB => ?_)
                 simp only [List.getElem_toArray, List.getElem_cons_zero, List.getElem_cons_succ, Act.put, List.setIfInBounds_toArray, List.set_cons_zero, List.set_cons_succ] at hB
                 subst hB)
                refine sct_step _ rfl (fun K hK => ?_)
                obtain ⟨⟨z0, z1, z2, z3, z4, z5, z6⟩, zl, ⟨u0, u1, u2, u3, u4, u5, u6⟩⟩ := ex_cells (unveil HZ).1
                go_simp
                obtain ⟨r1, r2, r3, r4⟩ := ex_put (unveil HZ).1 (.int .i64 x0) (.int .i64 x1) (.int .i64 x2) (.int .i64 x3) (.string ⟨x4.toArray⟩) (.slice q3 x5.length c3) (.int .i64 x6) _ rfl
                have HFE := veil ((unveil HF).putBox (unveil HZ).2 (Nat.le_trans (unveil HZ9) (unveil HZ).2) r2 r3)
                have HEE := veil r1
                have HKE : Hid (Kids _ (fun _ => True) (.mk x0 x1 x2 x3 x4 x5 x6) q3) := (unveil HKK).keep (fun g cs fz hg he => ⟨r3 g _ hg he, trivial⟩)
                refine hK _ _ (veil (unveil HFE).be) ?_
                clear hK K r1 r2 r3 r4 z0 z1 z2 z3 z4 z5 z6 zl u0 u1 u2 u3 u4 u5 u6
                iterate 2 (
                 refine sct_pure _ rfl _ (.inl ⟨rfl, fun W hS => (by go_simp; rfl)⟩) (fun B hB => ?_)
                 simp only [List.getElem_toArray, List.getElem_cons_zero, List.getElem_cons_succ, Act.put, List.setIfInBounds_toArray, List.set_cons_zero, List.set_cons_succ] at hB
                 subst hB)
                refine sct_done ?_
                refine listIn_last rfl (fun K hK => ?_)
                go_simp
                refine hK _ _ ?_
                clear hK K
                go_wp2_with fail
                go_meet
                case rel => exact ⟨_, _, _, rfl, rfl, rfl, rfl, HFE, HEE, HKE⟩
              · skip
                refine sct_step _ rfl (fun K hK => ?_)
                refine stepIn_app_Src rfl _ _ 26 rfl W3.heap.size 42 i1 _ 64 Tryz.underlying26 hi1 zw sw bw rfl _ (1 + p1 + 1) _ rfl (unveil HV) _ 1 _ rfl (unveil HBB) (by unfold maxLen; omega) (by omega) (unveil HN) ?_
                intro v67 W90 hown hgrow
                have HFn := veil ((unveil HF).growX (unveil HV) hgrow (unveil HN))
                have HNn : Hid (W3.heap.size ≤ W90.heap.size) := Nat.le_trans (unveil HN) hgrow.size
                have HCn : Hid (Src W90 v67 (1 + p1 + 1 + 1) (wdCells [opnW] ++ wdCells ws ++ wdCells [clsW] ++ wdCells [clsW])) := src_row hown (fun u hu => wd_one ([opnW] ++ ws ++ [clsW] ++ [clsW]) u (by rw [wdCells_app, wdCells_app, wdCells_app]; exact hu))
                have HZn := veil (And.intro (bk_grow (unveil HZ).1 (by decide) hgrow (row_at (unveil HV)).2.choose_spec) (unveil HZ).2)
                simp only [List.getElem_toArray, List.getElem_cons_zero, List.getElem_cons_succ, Act.put, List.setIfInBounds_toArray, List.set_cons_zero, List.set_cons_succ]
                refine hK _ _ (veil (unveil HFn).be) ?_
                clear hK K hown hgrow HF HN HV HBB HZ
                have HF := HFn; clear HFn; have HN := HNn; clear HNn
                have HCC := HCn; clear HCn
                have HZ := HZn; clear HZn
                refine sct_step _ rfl (fun K hK => ?_)
                go_simp
                have hbn : Below W90.heap.size W90 (W90.alloc (.cells #[.int .i64 5, .string ⟨#[40]⟩, .int .i64 0, .int .i64 0, .string ⟨#[]⟩, .int .i64 0, .int .i64 5, .string ⟨#[43]⟩, .int .i64 0, .int .i64 0, .string ⟨#[]⟩, .int .i64 0] 42)) := (Below.refl _ W90).alloc (Nat.le_refl _) _
                have HFn : Hid (FrW W3.heap.size W9 (W90.alloc (.cells #[.int .i64 5, .string ⟨#[40]⟩, .int .i64 0, .int .i64 0, .string ⟨#[]⟩, .int .i64 0, .int .i64 5, .string ⟨#[43]⟩, .int .i64 0, .int .i64 0, .string ⟨#[]⟩, .int .i64 0] 42))) := (unveil HF).below hbn (unveil HN)
                have HNn : Hid (W3.heap.size ≤ (W90.alloc (.cells #[.int .i64 5, .string ⟨#[40]⟩, .int .i64 0, .int .i64 0, .string ⟨#[]⟩, .int .i64 0, .int .i64 5, .string ⟨#[43]⟩, .int .i64 0, .int .i64 0, .string ⟨#[]⟩, .int .i64 0] 42)).heap.size) := Nat.le_trans (unveil HN) hbn.size
                have HCn := veil ((unveil HCC).below hbn)
                have HZn := veil (And.intro ((unveil HZ).1.below hbn) (unveil HZ).2)
                have HAn : Hid ((W90.alloc (.cells #[.int .i64 5, .string ⟨#[40]⟩, .int .i64 0, .int .i64 0, .string ⟨#[]⟩, .int .i64 0, .int .i64 5, .string ⟨#[43]⟩, .int .i64 0, .int .i64 0, .string ⟨#[]⟩, .int .i64 0] 42)).ownsRow W3.heap.size 42 6 (.slice (some ⟨W90.heap.size, 0, none⟩) 2 2) 2 (wdCells [opnW, plsW]) ∧ True) := ⟨own_new (Bk.new W90 _ _) rfl rfl (unveil HN) (by decide), trivial⟩
                refine hK _ _ (veil (unveil HFn).be) ?_
                clear hK K hbn HF HN HCC HZ
                generalize (W90.alloc (.cells #[.int .i64 5, .string ⟨#[40]⟩, .int .i64 0, .int .i64 0, .string ⟨#[]⟩, .int .i64 0, .int .i64 5, .string ⟨#[43]⟩, .int .i64 0, .int .i64 0, .string ⟨#[]⟩, .int .i64 0] 42)) = W91 at *
                have HF := HFn; clear HFn
                have HN := HNn; clear HNn
                have HA := HAn; clear HAn
                have HCC := HCn; clear HCn
                have HZ := HZn; clear HZn
                refine sct_step _ rfl (fun K hK => ?_)
                refine stepIn_app_Src rfl _ _ 26 rfl W3.heap.size 42 i1 _ 64 Tryz.underlying26 hi1 zw sw bw rfl _ 2 _ rfl (unveil HA).1 _ (1 + p1 + 1 + 1) _ rfl (unveil HCC) (by unfold maxLen; omega) (by omega) (unveil HN) ?_
                intro v68 W92 hown hgrow
                have HFn := veil ((unveil HF).growX (unveil HA).1 hgrow (unveil HN))
                have HNn : Hid (W3.heap.size ≤ W92.heap.size) := Nat.le_trans (unveil HN) hgrow.size
                have HDn := veil hown
                have HZn := veil (And.intro (bk_grow (unveil HZ).1 (by decide) hgrow (row_at (unveil HA).1).2.choose_spec) (unveil HZ).2)
                simp only [List.getElem_toArray, List.getElem_cons_zero, List.getElem_cons_succ, Act.put, List.setIfInBounds_toArray, List.set_cons_zero, List.set_cons_succ]
                refine hK _ _ (veil (unveil HFn).be) ?_
                clear hK K hown hgrow HF HN HA HCC HZ
                have HF := HFn; clear HFn; have HN := HNn; clear HNn
                have HDD := HDn; clear HDn
                have HZ := HZn; clear HZn
                refine sct_step _ rfl (fun K hK => ?_)
                go_simp
                refine ⟨trivial, rfl, (callsIn_wide.2 (unveil HP3 _ W92 W3.heap.size ((unveil HB3).trans (((unveil HF9).be.trans (unveil HF).be).mono (unveil HB3).size)) (unveil HDD))).mono ?_⟩
                rintro e W93 ⟨q3, c3, rfl, hk3, hbn⟩
                have HFn := veil ((unveil HF).below hbn (unveil HN))
                have HNn : Hid (W3.heap.size ≤ W93.heap.size) := Nat.le_trans (unveil HN) hbn.size
                have HZn := veil (And.intro ((unveil HZ).1.below hbn) (unveil HZ).2)
                have HKK := veil (hk3.mono (K' := fun g => g ≠ W56.heap.size) (fun g _ hg => by have := (unveil HZ).1.lt; omega))
                refine hK _ _ (veil (unveil HFn).be) ?_
                clear hK K hk3 hbn HF HN HDD HZ
                have HF := HFn; clear HFn; have HN := HNn; clear HNn
                have HZ := HZn; clear HZn
                iterate 5 (
                 refine sct_pure _ rfl _ (.inl ⟨rfl, fun W hS => (by go_simp; rfl)⟩) (fun B hB => ?_)
                 simp only [List.getElem_toArray, List.getElem_cons_zero, List.getElem_cons_succ, Act.put, List.setIfInBounds_toArray, List.set_cons_zero, List.set_cons_succ] at hB
                 subst hB)
                refine sct_step _ rfl (fun K hK => ?_)
                obtain ⟨⟨z0, z1, z2, z3, z4, z5, z6⟩, zl, ⟨u0, u1, u2, u3, u4, u5, u6⟩⟩ := ex_cells (unveil HZ).1
                go_simp
                obtain ⟨r1, r2, r3, r4⟩ := ex_put (unveil HZ).1 (.int .i64 x0) (.int .i64 x1) (.int .i64 x2) (.int .i64 x3) (.string ⟨x4.toArray⟩) (.slice q3 x5.length c3) (.int .i64 x6) _ rfl
                have HFE := veil ((unveil HF).putBox (unveil HZ).2 (Nat.le_trans (unveil HZ9) (unveil HZ).2) r2 r3)
                have HEE := veil r1
                have HKE : Hid (Kids _ (fun _ => True) (.mk x0 x1 x2 x3 x4 x5 x6) q3) := (unveil HKK).keep (fun g cs fz hg he => ⟨r3 g _ hg he, trivial⟩)
                refine hK _ _ (veil (unveil HFE).be) ?_
                clear hK K r1 r2 r3 r4 z0 z1 z2 z3 z4 z5 z6 zl u0 u1 u2 u3 u4 u5 u6
                iterate 2 (
                 refine sct_pure _ rfl _ (.inl ⟨rfl, fun W hS => (by go_simp; rfl)⟩) (fun B hB => ?_)
                 simp only [List.getElem_toArray, List.getElem_cons_zero, List.getElem_cons_succ, Act.put, List.setIfInBounds_toArray, List.set_cons_zero, List.set_cons_succ] at hB
                 subst hB)
                refine sct_done ?_
                refine listIn_last rfl (fun K hK => ?_)
                go_simp
                refine hK _ _ ?_
                clear hK K
                go_wp2_with fail
                go_meet
                case rel => exact ⟨_, _, _, rfl, rfl, rfl, rfl, HFE, HEE, HKE⟩
          · skip
            refine sct_step _ rfl (fun K hK => ?_)
            go_simp
            have hbn : Below W10.heap.size W10 (W10.alloc (.cells #[.int .i64 0, .int .i64 0, .int .i64 0, .int .i64 0, .string ⟨#[]⟩, .slice none 0 0, .int .i64 0] 24)) := (Below.refl _ W10).alloc (Nat.le_refl _) _
            have HFn : Hid (FrW W3.heap.size W9 (W10.alloc (.cells #[.int .i64 0, .int .i64 0, .int .i64 0, .int .i64 0, .string ⟨#[]⟩, .slice none 0 0, .int .i64 0] 24))) := (unveil HF).below hbn (unveil HN)
            have HNn : Hid (W3.heap.size ≤ (W10.alloc (.cells #[.int .i64 0, .int .i64 0, .int .i64 0, .int .i64 0, .string ⟨#[]⟩, .slice none 0 0, .int .i64 0] 24)).heap.size) := Nat.le_trans (unveil HN) hbn.size
            have HVn := veil (row_below' (unveil HV) hbn)
            have HZn : Hid (Bk (W10.alloc (.cells #[.int .i64 0, .int .i64 0, .int .i64 0, .int .i64 0, .string ⟨#[]⟩, .slice none 0 0, .int .i64 0] 24)) W10.heap.size 24 #[.int .i64 0, .int .i64 0, .int .i64 0, .int .i64 0, .string ⟨#[]⟩, .slice none 0 0, .int .i64 0] ∧ W9.heap.size ≤ W10.heap.size) := ⟨Bk.new W10 _ _, (unveil HF).be.size⟩
            refine hK _ _ (veil (unveil HFn).be) ?_
            clear hK K hbn HF HN HV
            generalize (W10.alloc (.cells #[.int .i64 0, .int .i64 0, .int .i64 0, .int .i64 0, .string ⟨#[]⟩, .slice none 0 0, .int .i64 0] 24)) = W94 at *
            have HF := HFn; clear HFn
            have HN := HNn; clear HNn
            have HV := HVn; clear HVn
            have HZ := HZn; clear HZn
            refine sct_both ?_ ?_
            · skip
              refine sct_step _ rfl (fun K hK => ?_)
              go_simp
              have hbn : Below W94.heap.size W94 (W94.alloc (.cells #[.int .i64 5, .string ⟨#[40]⟩, .int .i64 0, .int .i64 0, .string ⟨#[]⟩, .int .i64 0, .int .i64 5, .string ⟨#[43]⟩, .int .i64 0, .int .i64 0, .string ⟨#[]⟩, .int .i64 0] 42)) := (Below.refl _ W94).alloc (Nat.le_refl _) _
              have HFn : Hid (FrW W3.heap.size W9 (W94.alloc (.cells #[.int .i64 5, .string ⟨#[40]⟩, .int .i64 0, .int .i64 0, .string ⟨#[]⟩, .int .i64 0, .int .i64 5, .string ⟨#[43]⟩, .int .i64 0, .int .i64 0, .string ⟨#[]⟩, .int .i64 0] 42))) := (unveil HF).below hbn (unveil HN)
              have HNn : Hid (W3.heap.size ≤ (W94.alloc (.cells #[.int .i64 5, .string ⟨#[40]⟩, .int .i64 0, .int .i64 0, .string ⟨#[]⟩, .int .i64 0, .int .i64 5, .string ⟨#[43]⟩, .int .i64 0, .int .i64 0, .string ⟨#[]⟩, .int .i64 0] 42)).heap.size) := Nat.le_trans (unveil HN) hbn.size
              have HVn := veil (row_below' (unveil HV) hbn)
              have HZn := veil (And.intro ((unveil HZ).1.below hbn) (unveil HZ).2)
              have HAn : Hid ((W94.alloc (.cells #[.int .i64 5, .string ⟨#[40]⟩, .int .i64 0, .int .i64 0, .string ⟨#[]⟩, .int .i64 0, .int .i64 5, .string ⟨#[43]⟩, .int .i64 0, .int .i64 0, .string ⟨#[]⟩, .int .i64 0] 42)).ownsRow W3.heap.size 42 6 (.slice (some ⟨W94.heap.size, 0, none⟩) 2 2) 2 (wdCells [opnW, plsW]) ∧ g7 < W94.heap.size) := ⟨own_new (Bk.new W94 _ _) rfl rfl (unveil HN) (by decide), ((unveil HV).lt g7 rfl).2⟩
              refine hK _ _ (veil (unveil HFn).be) ?_
              clear hK K hbn HF HN HV HZ
              generalize (W94.alloc (.cells #[.int .i64 5, .string ⟨#[40]⟩, .int .i64 0, .int .i64 0, .string ⟨#[]⟩, .int .i64 0, .int .i64 5, .string ⟨#[43]⟩, .int .i64 0, .int .i64 0, .string ⟨#[]⟩, .int .i64 0] 42)) = W95 at *
              have HF := HFn; clear HFn
              have HN := HNn; clear HNn
              have HV := HVn; clear HVn
              have HA := HAn; clear HAn
              have HZ := HZn; clear HZn
              refine sct_step _ rfl (fun K hK => ?_)
              go_simp
              have hbn : Below W95.heap.size W95 (W95.alloc (.cells #[.int .i64 5, .string ⟨#[41]⟩, .int .i64 0, .int .i64 0, .string ⟨#[]⟩, .int .i64 0] 42)) := (Below.refl _ W95).alloc (Nat.le_refl _) _
              have HFn : Hid (FrW W3.heap.size W9 (W95.alloc (.cells #[.int .i64 5, .string ⟨#[41]⟩, .int .i64 0, .int .i64 0, .string ⟨#[]⟩, .int .i64 0] 42))) := (unveil HF).below hbn (unveil HN)
              have HNn : Hid (W3.heap.size ≤ (W95.alloc (.cells #[.int .i64 5, .string ⟨#[41]⟩, .int .i64 0, .int .i64 0, .string ⟨#[]⟩, .int .i64 0] 42)).heap.size) := Nat.le_trans (unveil HN) hbn.size
              have HVn := veil (row_below' (unveil HV) hbn)
              have HAn := veil (And.intro (row_below' (unveil HA).1 hbn) (unveil HA).2)
              have HZn := veil (And.intro ((unveil HZ).1.below hbn) (unveil HZ).2)
              have HBn : Hid (Src (W95.alloc (.cells #[.int .i64 5, .string ⟨#[41]⟩, .int .i64 0, .int .i64 0, .string ⟨#[]⟩, .int .i64 0] 42)) (.slice (some ⟨W95.heap.size, 0, none⟩) 1 1) 1 (wdCells [clsW])) := src_row (own_new (base := 0) (Bk.new W95 _ _) rfl rfl (Nat.zero_le _) (by decide)) (wd_one _)
              refine hK _ _ (veil (unveil HFn).be) ?_
              clear hK K hbn HF HN HV HA HZ
              generalize (W95.alloc (.cells #[.int .i64 5, .string ⟨#[41]⟩, .int .i64 0, .int .i64 0, .string ⟨#[]⟩, .int .i64 0] 42)) = W96 at *
              have HF := HFn; clear HFn
              have HN := HNn; clear HNn
              have HV := HVn; clear HVn
              have HA := HAn; clear HAn
              have HBB := HBn; clear HBn
              have HZ := HZn; clear HZn
              refine sct_step _ rfl (fun K hK => ?_)
              refine stepIn_app_Src rfl _ _ 26 rfl W3.heap.size 42 i1 _ 64 Tryz.underlying26 hi1 zw sw bw rfl _ (1 + p1 + 1) _ rfl (unveil HV) _ 1 _ rfl (unveil HBB) (by unfold maxLen; omega) (by omega) (unveil HN) ?_
              intro v67 W97 hown hgrow
              have HFn := veil ((unveil HF).growX (unveil HV) hgrow (unveil HN))
              have HNn : Hid (W3.heap.size ≤ W97.heap.size) := Nat.le_trans (unveil HN) hgrow.size
              have HCn : Hid (Src W97 v67 (1 + p1 + 1 + 1) (wdCells [opnW] ++ wdCells ws ++ wdCells [clsW] ++ wdCells [clsW])) := src_row hown (fun u hu => wd_one ([opnW] ++ ws ++ [clsW] ++ [clsW]) u (by rw [wdCells_app, wdCells_app, wdCells_app]; exact hu))
              have HAn := veil (And.intro (row_other (unveil HA).1 hgrow (Nat.ne_of_gt (unveil HA).2)) trivial)
              have HZn := veil (And.intro (bk_grow (unveil HZ).1 (by decide) hgrow (row_at (unveil HV)).2.choose_spec) (unveil HZ).2)
              simp only [List.getElem_toArray, List.getElem_cons_zero, List.getElem_cons_succ, Act.put, List.setIfInBounds_toArray, List.set_cons_zero, List.set_cons_succ]
              refine hK _ _ (veil (unveil HFn).be) ?_
              clear hK K hown hgrow HF HN HV HBB HA HZ
              have HF := HFn; clear HFn; have HN := HNn; clear HNn
              have HCC := HCn; clear HCn
              have HA := HAn; clear HAn
              have HZ := HZn; clear HZn
              refine sct_step _ rfl (fun K hK => ?_)
              refine stepIn_app_Src rfl _ _ 26 rfl W3.heap.size 42 i1 _ 64 Tryz.underlying26 hi1 zw sw bw rfl _ 2 _ rfl (unveil HA).1 _ (1 + p1 + 1 + 1) _ rfl (unveil HCC) (by unfold maxLen; omega) (by omega) (unveil HN) ?_
              intro v68 W98 hown hgrow
              have HFn := veil ((unveil HF).growX (unveil HA).1 hgrow (unveil HN))
              have HNn : Hid (W3.heap.size ≤ W98.heap.size) := Nat.le_trans (unveil HN) hgrow.size
              have HDn := veil hown
              have HZn := veil (And.intro (bk_grow (unveil HZ).1 (by decide) hgrow (row_at (unveil HA).1).2.choose_spec) (unveil HZ).2)
              simp only [List.getElem_toArray, List.getElem_cons_zero, List.getElem_cons_succ, Act.put, List.setIfInBounds_toArray, List.set_cons_zero, List.set_cons_succ]
              refine hK _ _ (veil (unveil HFn).be) ?_
              clear hK K hown hgrow HF HN HA HCC HZ
              have HF := HFn; clear HFn; have HN := HNn; clear HNn
              have HDD := HDn; clear HDn
              have HZ := HZn; clear HZn
              refine sct_step _ rfl (fun K hK => ?_)
              go_simp
              refine ⟨trivial, rfl, (callsIn_wide.2 (unveil HP3 _ W98 W3.heap.size ((unveil HB3).trans (((unveil HF9).be.trans (unveil HF).be).mono (unveil HB3).size)) (unveil HDD))).mono ?_⟩
              rintro e W99 ⟨q3, c3, rfl, hk3, hbn⟩
              have HFn := veil ((unveil HF).below hbn (unveil HN))
              have HNn : Hid (W3.heap.size ≤ W99.heap.size) := Nat.le_trans (unveil HN) hbn.size
              have HZn := veil (And.intro ((unveil HZ).1.below hbn) (unveil HZ).2)
              have HKK := veil (hk3.mono (K' := fun g => g ≠ W10.heap.size) (fun g _ hg => by have := (unveil HZ).1.lt; omega))
              refine hK _ _ (veil (unveil HFn).be) ?_
              clear hK K hk3 hbn HF HN HDD HZ
              have HF := HFn; clear HFn; have HN := HNn; clear HNn
              have HZ := HZn; clear HZn
              iterate 5 (
               refine sct_pure _ rfl _ (.inl ⟨rfl, fun W hS => (by go_simp; rfl)⟩) (fun B hB => ?_)
               simp only [List.getElem_toArray, List.getElem_cons_zero, List.getElem_cons_succ, Act.put, List.setIfInBounds_toArray, List.set_cons_zero, List.set_cons_succ] at hB
               subst hB)
              refine sct_step _ rfl (fun K hK => ?_)
              obtain ⟨⟨z0, z1, z2, z3, z4, z5, z6⟩, zl, ⟨u0, u1, u2, u3, u4, u5, u6⟩⟩ := ex_cells (unveil HZ).1
              go_simp
              obtain ⟨r1, r2, r3, r4⟩ := ex_put (unveil HZ).1 (.int .i64 x0) (.int .i64 x1) (.int .i64 x2) (.int .i64 x3) (.string ⟨x4.toArray⟩) (.slice q3 x5.length c3) (.int .i64 x6) _ rfl
              have HFE := veil ((unveil HF).putBox (unveil HZ).2 (Nat.le_trans (unveil HZ9) (unveil HZ).2) r2 r3)
              have HEE := veil r1
              have HKE : Hid (Kids _ (fun _ => True) (.mk x0 x1 x2 x3 x4 x5 x6) q3) := (unveil HKK).keep (fun g cs fz hg he => ⟨r3 g _ hg he, trivial⟩)
              refine hK _ _ (veil (unveil HFE).be) ?_
              clear hK K r1 r2 r3 r4 z0 z1 z2 z3 z4 z5 z6 zl u0 u1 u2 u3 u4 u5 u6
              iterate 2 (
               refine sct_pure _ rfl _ (.inl ⟨rfl, fun W hS => (by go_simp; rfl)⟩) (fun B hB => ?_)
               simp only [List.getElem_toArray, List.getElem_cons_zero, List.getElem_cons_succ, Act.put, List.setIfInBounds_toArray, List.set_cons_zero, List.set_cons_succ] at hB
               subst hB)
              refine sct_done ?_
              refine listIn_last rfl (fun K hK => ?_)
              go_simp
              refine hK _ _ ?_
              clear hK K
              go_wp2_with fail
              go_meet
              case rel => exact ⟨_, _, _, rfl, rfl, rfl, rfl, HFE, HEE, HKE⟩
            · skip
              refine sct_step _ rfl (fun K hK => ?_)
              go_simp
              have hbn : Below W94.heap.size W94 (W94.alloc (.cells #[.int .i64 5, .string ⟨#[41]⟩, .int .i64 0, .int .i64 0, .string ⟨#[]⟩, .int .i64 0] 42)) := (Below.refl _ W94).alloc (Nat.le_refl _) _
              have HFn : Hid (FrW W3.heap.size W9 (W94.alloc (.cells #[.int .i64 5, .string ⟨#[41]⟩, .int .i64 0, .int .i64 0, .string ⟨#[]⟩, .int .i64 0] 42))) := (unveil HF).below hbn (unveil HN)
              have HNn : Hid (W3.heap.size ≤ (W94.alloc (.cells #[.int .i64 5, .string ⟨#[41]⟩, .int .i64 0, .int .i64 0, .string ⟨#[]⟩, .int .i64 0] 42)).heap.size) := Nat.le_trans (unveil HN) hbn.size
              have HVn := veil (row_below' (unveil HV) hbn)
              have HZn := veil (And.intro ((unveil HZ).1.below hbn) (unveil HZ).2)
              have HBn : Hid (Src (W94.alloc (.cells #[.int .i64 5, .string ⟨#[41]⟩, .int .i64 0, .int .i64 0, .string ⟨#[]⟩, .int .i64 0] 42)) (.slice (some ⟨W94.heap.size, 0, none⟩) 1 1) 1 (wdCells [clsW])) := src_row (own_new (base := 0) (Bk.new W94 _ _) rfl rfl (Nat.zero_le _) (by decide)) (wd_one _)
              refine hK _ _ (veil (unveil HFn).be) ?_
              clear hK K hbn HF HN HV HZ
              generalize (W94.alloc (.cells #[.int .i64 5, .string ⟨#[41]⟩, .int .i64 0, .int .i64 0, .string ⟨#[]⟩, .int .i64 0] 42)) = W100 at *
              have HF := HFn; clear HFn
              have HN := HNn; clear HNn
              have HV := HVn; clear HVn
              have HBB := HBn; clear HBn
              have HZ := HZn; clear HZn
              refine sct_both ?_ ?_
              · skip
                refine sct_step _ rfl (fun K hK => ?_)
                go_simp
                have hbn : Below W100.heap.size W100 (W100.alloc (.cells #[.int .i64 5, .string ⟨#[40]⟩, .int .i64 0, .int .i64 0, .string ⟨#[]⟩, .int .i64 0, .int .i64 5, .string ⟨#[43]⟩, .int .i64 0, .int .i64 0, .string ⟨#[]⟩, .int .i64 0] 42)) := (Below.refl _ W100).alloc (Nat.le_refl _) _
                have HFn : Hid (FrW W3.heap.size W9 (W100.alloc (.cells #[.int .i64 5, .string ⟨#[40]⟩, .int .i64 0, .int .i64 0, .string ⟨#[]⟩, .int .i64 0, .int .i64 5, .string ⟨#[43]⟩, .int .i64 0, .int .i64 0, .string ⟨#[]⟩, .int .i64 0] 42))) := (unveil HF).below hbn (unveil HN)
                have HNn : Hid (W3.heap.size ≤ (W100.alloc (.cells #[.int .i64 5, .string ⟨#[40]⟩, .int .i64 0, .int .i64 0, .string ⟨#[]⟩, .int .i64 0, .int .i64 5, .string ⟨#[43]⟩, .int .i64 0, .int .i64 0, .string ⟨#[]⟩, .int .i64 0] 42)).heap.size) := Nat.le_trans (unveil HN) hbn.size
                have HVn := veil (row_below' (unveil HV) hbn)
                have HBn := veil ((unveil HBB).below hbn)
                have HZn := veil (And.intro ((unveil HZ).1.below hbn) (unveil HZ).2)
                have HAn : Hid ((W100.alloc (.cells #[.int .i64 5, .string ⟨#[40]⟩, .int .i64 0, .int .i64 0, .string ⟨#[]⟩, .int .i64 0, .int .i64 5, .string ⟨#[43]⟩, .int .i64 0, .int .i64 0, .string ⟨#[]⟩, .int .i64 0] 42)).ownsRow W3.heap.size 42 6 (.slice (some ⟨W100.heap.size, 0, none⟩) 2 2) 2 (wdCells [opnW, plsW]) ∧ g7 < W100.heap.size) := ⟨own_new (Bk.new W100 _ _) rfl rfl (unveil HN) (by decide), ((unveil HV).lt g7 rfl).2⟩
                refine hK _ _ (veil (unveil HFn).be) ?_
                clear hK K hbn HF HN HV HBB HZ
                generalize (W100.alloc (.cells #[.int .i64 5, .string ⟨#[40]⟩, .int .i64 0, .int .i64 0, .string ⟨#[]⟩, .int .i64 0, .int .i64 5, .string ⟨#[43]⟩, .int .i64 0, .int .i64 0, .string ⟨#[]⟩, .int .i64 0] 42)) = W101 at *
                have HF := HFn; clear HFn
                have HN := HNn; clear HNn
                have HV := HVn; clear HVn
                have HA := HAn; clear HAn
                have HBB := HBn; clear HBn
                have HZ := HZn; clear HZn
                refine sct_step _ rfl (fun K hK => ?_)
                refine stepIn_app_Src rfl _ _ 26 rfl W3.heap.size 42 i1 _ 64 Tryz.underlying26 hi1 zw sw bw rfl _ (1 + p1 + 1) _ rfl (unveil HV) _ 1 _ rfl (unveil HBB) (by unfold maxLen; omega) (by omega) (unveil HN) ?_
                intro v67 W102 hown hgrow
                have HFn := veil ((unveil HF).growX (unveil HV) hgrow (unveil HN))
                have HNn : Hid (W3.heap.size ≤ W102.heap.size) := Nat.le_trans (unveil HN) hgrow.size
                have HCn : Hid (Src W102 v67 (1 + p1 + 1 + 1) (wdCells [opnW] ++ wdCells ws ++ wdCells [clsW] ++ wdCells [clsW])) := src_row hown (fun u hu => wd_one ([opnW] ++ ws ++ [clsW] ++ [clsW]) u (by rw [wdCells_app, wdCells_app, wdCells_app]; exact hu))
                have HAn := veil (And.intro (row_other (unveil HA).1 hgrow (Nat.ne_of_gt (unveil HA).2)) trivial)
                have HZn := veil (And.intro (bk_grow (unveil HZ).1 (by decide) hgrow (row_at (unveil HV)).2.choose_spec) (unveil HZ).2)
                simp only [List.getElem_toArray, List.getElem_cons_zero, List.getElem_cons_succ, Act.put, List.setIfInBounds_toArray, List.set_cons_zero, List.set_cons_succ]
                refine hK _ _ (veil (unveil HFn).be) ?_
                clear hK K hown hgrow HF HN HV HBB HA HZ
                have HF := HFn; clear HFn; have HN := HNn; clear HNn
                have HCC := HCn; clear HCn
                have HA := HAn; clear HAn
                have HZ := HZn; clear HZn
                refine sct_step _ rfl (fun K hK => ?_)
                refine stepIn_app_Src rfl _ _ 26 rfl W3.heap.size 42 i1 _ 64 Tryz.underlying26 hi1 zw sw bw rfl _ 2 _ rfl (unveil HA).1 _ (1 + p1 + 1 + 1) _ rfl (unveil HCC) (by unfold maxLen; omega) (by omega) (unveil HN) ?_
                intro v68 W103 hown hgrow
                have HFn := veil ((unveil HF).growX (unveil HA).1 hgrow (unveil HN))
                have HNn : Hid (W3.heap.size ≤ W103.heap.size) := Nat.le_trans (unveil HN) hgrow.size
                have HDn := veil hown
                have HZn := veil (And.intro (bk_grow (unveil HZ).1 (by decide) hgrow (row_at (unveil HA).1).2.choose_spec) (unveil HZ).2)
                simp only [List.getElem_toArray, List.getElem_cons_zero, List.getElem_cons_succ, Act.put, List.setIfInBounds_toArray, List.set_cons_zero, List.set_cons_succ]
                refine hK _ _ (veil (unveil HFn).be) ?_
                clear hK K hown hgrow HF HN HA HCC HZ
                have HF := HFn; clear HFn; have HN := HNn; clear HNn
                have HDD := HDn; clear HDn
                have HZ := HZn; clear HZn
                refine sct_step _ rfl (fun K hK => ?_)
                go_simp
                refine ⟨trivial, rfl, (callsIn_wide.2 (unveil HP3 _ W103 W3.heap.size ((unveil HB3).trans (((unveil HF9).be.trans (unveil HF).be).mono (unveil HB3).size)) (unveil HDD))).mono ?_⟩
                rintro e W104 ⟨q3, c3, rfl, hk3, hbn⟩
                have HFn := veil ((unveil HF).below hbn (unveil HN))
                have HNn : Hid (W3.heap.size ≤ W104.heap.size) := Nat.le_trans (unveil HN) hbn.size
                have HZn := veil (And.intro ((unveil HZ).1.below hbn) (unveil HZ).2)
                have HKK := veil (hk3.mono (K' := fun g => g ≠ W10.heap.size) (fun g _ hg => by have := (unveil HZ).1.lt; omega))
                refine hK _ _ (veil (unveil HFn).be) ?_
                clear hK K hk3 hbn HF HN HDD HZ
                have HF := HFn; clear HFn; have HN := HNn; clear HNn
                have HZ := HZn; clear HZn
                iterate 5 (
                 refine sct_pure _ rfl _ (.inl ⟨rfl, fun W hS => (by go_simp; rfl)⟩) (fun B hB => ?_)
                 simp only [List.getElem_toArray, List.getElem_cons_zero, List.getElem_cons_succ, Act.put, List.setIfInBounds_toArray, List.set_cons_zero, List.set_cons_succ] at hB
                 subst hB)
                refine sct_step _ rfl (fun K hK => ?_)
                obtain ⟨⟨z0, z1, z2, z3, z4, z5, z6⟩, zl, ⟨u0, u1, u2, u3, u4, u5, u6⟩⟩ := ex_cells (unveil HZ).1
                go_simp
                obtain ⟨r1, r2, r3, r4⟩ := ex_put (unveil HZ).1 (.int .i64 x0) (.int .i64 x1) (.int .i64 x2) (.int .i64 x3) (.string ⟨x4.toArray⟩) (.slice q3 x5.length c3) (.int .i64 x6) _ rfl
                have HFE := veil ((unveil HF).putBox (unveil HZ).2 (Nat.le_trans (unveil HZ9) (unveil HZ).2) r2 r3)
                have HEE := veil r1
                have HKE : Hid (Kids _ (fun _ => True) (.mk x0 x1 x2 x3 x4 x5 x6) q3) := (unveil HKK).keep (fun g cs fz hg he => ⟨r3 g _ hg he, trivial⟩)
                refine hK _ _ (veil (unveil HFE).be) ?_
                clear hK K r1 r2 r3 r4 z0 z1 z2 z3 z4 z5 z6 zl u0 u1 u2 u3 u4 u5 u6
                iterate 2 (
                 refine sct_pure _ rfl _ (.inl ⟨rfl, fun W hS => (by go_simp; rfl)⟩) (fun B hB => ?_)
                 simp only [List.getElem_toArray, List.getElem_cons_zero, List.getElem_cons_succ, Act.put, List.setIfInBounds_toArray, List.set_cons_zero, List.set_cons_succ] at hB
                 subst hB)
                refine sct_done ?_
                refine listIn_last rfl (fun K hK => ?_)
                go_simp
                refine hK _ _ ?_
                clear hK K
                go_wp2_with fail
                go_meet
                case rel => exact ⟨_, _, _, rfl, rfl, rfl, rfl, HFE, HEE, HKE⟩
              · skip
                refine sct_step _ rfl (fun K hK => ?_)
                refine stepIn_app_Src rfl _ _ 26 rfl W3.heap.size 42 i1 _ 64 Tryz.underlying26 hi1 zw sw bw rfl _ (1 + p1 + 1) _ rfl (unveil HV) _ 1 _ rfl (unveil HBB) (by unfold maxLen; omega) (by omega) (unveil HN) ?_
                intro v67 W105 hown hgrow
                have HFn := veil ((unveil HF).growX (unveil HV) hgrow (unveil HN))
                have HNn : Hid (W3.heap.size ≤ W105.heap.size) := Nat.le_trans (unveil HN) hgrow.size
                have HCn : Hid (Src W105 v67 (1 + p1 + 1 + 1) (wdCells [opnW] ++ wdCells ws ++ wdCells [clsW] ++ wdCells [clsW])) := src_row hown (fun u hu => wd_one ([opnW] ++ ws ++ [clsW] ++ [clsW]) u (by rw [wdCells_app, wdCells_app, wdCells_app]; exact hu))
                have HZn := veil (And.intro (bk_grow (unveil HZ).1 (by decide) hgrow (row_at (unveil HV)).2.choose_spec) (unveil HZ).2)
                simp only [List.getElem_toArray, List.getElem_cons_zero, List.getElem_cons_succ, Act.put, List.setIfInBounds_toArray, List.set_cons_zero, List.set_cons_succ]
                refine hK _ _ (veil (unveil HFn).be) ?_
                clear hK K hown hgrow HF HN HV HBB HZ
                have HF := HFn; clear HFn; have HN := HNn; clear HNn
                have HCC := HCn; clear HCn
                have HZ := HZn; clear HZn
                refine sct_step _ rfl (fun K hK => ?_)
                go_simp
                have hbn : Below W105.heap.size W105 (W105.alloc (.cells #[.int .i64 5, .string ⟨#[40]⟩, .int .i64 0, .int .i64 0, .string ⟨#[]⟩, .int .i64 0, .int .i64 5, .string ⟨#[43]⟩, .int .i64 0, .int .i64 0, .string ⟨#[]⟩, .int .i64 0] 42)) := (Below.refl _ W105).alloc (Nat.le_refl _) _
                have HFn : Hid (FrW W3.heap.size W9 (W105.alloc (.cells #[.int .i64 5, .string ⟨#[40]⟩, .int .i64 0, .int .i64 0, .string ⟨#[]⟩, .int .i64 0, .int .i64 5, .string ⟨#[43]⟩, .int .i64 0, .int .i64 0, .string ⟨#[]⟩, .int .i64 0] 42))) := (unveil HF).below hbn (unveil HN)
                have HNn : Hid (W3.heap.size ≤ (W105.alloc (.cells #[.int .i64 5, .string ⟨#[40]⟩, .int .i64 0, .int .i64 0, .string ⟨#[]⟩, .int .i64 0, .int .i64 5, .string ⟨#[43]⟩, .int .i64 0, .int .i64 0, .string ⟨#[]⟩, .int .i64 0] 42)).heap.size) := Nat.le_trans (unveil HN) hbn.size
                have HCn := veil ((unveil HCC).below hbn)
                have HZn := veil (And.intro ((unveil HZ).1.below hbn) (unveil HZ).2)
                have HAn : Hid ((W105.alloc (.cells #[.int .i64 5, .string ⟨#[40]⟩, .int .i64 0, .int .i64 0, .string ⟨#[]⟩, .int .i64 0, .int .i64 5, .string ⟨#[43]⟩, .int .i64 0, .int .i64 0, .string ⟨#[]⟩, .int .i64 0] 42)).ownsRow W3.heap.size 42 6 (.slice (some ⟨W105.heap.size, 0, none⟩) 2 2) 2 (wdCells [opnW, plsW]) ∧ True) := ⟨own_new (Bk.new W105 _ _) rfl rfl (unveil HN) (by decide), trivial⟩
                refine hK _ _ (veil (unveil HFn).be) ?_
                clear hK K hbn HF HN HCC HZ
                generalize (W105.alloc (.cells #[.int .i64 5, .string ⟨#[40]⟩, .int .i64 0, .int .i64 0, .string ⟨#[]⟩, .int .i64 0, .int .i64 5, .string ⟨#[43]⟩, .int .i64 0, .int .i64 0, .string ⟨#[]⟩, .int .i64 0] 42)) = W106 at *
                have HF := HFn; clear HFn
                have HN := HNn; clear HNn
                have HA := HAn; clear HAn
                have HCC := HCn; clear HCn
                have HZ := HZn; clear HZn
                refine sct_step _ rfl (fun K hK => ?_)
                refine stepIn_app_Src rfl _ _ 26 rfl W3.heap.size 42 i1 _ 64 Tryz.underlying26 hi1 zw sw bw rfl _ 2 _ rfl (unveil HA).1 _ (1 + p1 + 1 + 1) _ rfl (unveil HCC) (by unfold maxLen; omega) (by omega) (unveil HN) ?_
                intro v68 W107 hown hgrow
                have HFn := veil ((unveil HF).growX (unveil HA).1 hgrow (unveil HN))
                have HNn : Hid (W3.heap.size ≤ W107.heap.size) := Nat.le_trans (unveil HN) hgrow.size
                have HDn := veil hown
                have HZn := veil (And.intro (bk_grow (unveil HZ).1 (by decide) hgrow (row_at (unveil HA).1).2.choose_spec) (unveil HZ).2)
                simp only [List.getElem_toArray, List.getElem_cons_zero, List.getElem_cons_succ, Act.put, List.setIfInBounds_toArray, List.set_cons_zero, List.set_cons_succ]
                refine hK _ _ (veil (unveil HFn).be) ?_
                clear hK K hown hgrow HF HN HA HCC HZ
                have HF := HFn; clear HFn; have HN := HNn; clear HNn
                have HDD := HDn; clear HDn
                have HZ := HZn; clear HZn
                refine sct_step _ rfl (fun K hK => ?_)
                go_simp
                refine ⟨trivial, rfl, (callsIn_wide.2 (unveil HP3 _ W107 W3.heap.size ((unveil HB3).trans (((unveil HF9).be.trans (unveil HF).be).mono (unveil HB3).size)) (unveil HDD))).mono ?_⟩
                rintro e W108 ⟨q3, c3, rfl, hk3, hbn⟩
                have HFn := veil ((unveil HF).below hbn (unveil HN))
                have HNn : Hid (W3.heap.size ≤ W108.heap.size) := Nat.le_trans (unveil HN) hbn.size
                have HZn := veil (And.intro ((unveil HZ).1.below hbn) (unveil HZ).2)
                have HKK := veil (hk3.mono (K' := fun g => g ≠ W10.heap.size) (fun g _ hg => by have := (unveil HZ).1.lt; omega))
                refine hK _ _ (veil (unveil HFn).be) ?_
                clear hK K hk3 hbn HF HN HDD HZ
                have HF := HFn; clear HFn; have HN := HNn; clear HNn
                have HZ := HZn; clear HZn
                iterate 5 (
                 refine sct_pure _ rfl _ (.inl ⟨rfl, fun W hS => (by go_simp; rfl)⟩) (fun B hB => ?_)
                 simp only [List.getElem_toArray, List.getElem_cons_zero, List.getElem_cons_succ, Act.put, List.setIfInBounds_toArray, List.set_cons_zero, List.set_cons_succ] at hB
                 subst hB)
                refine sct_step _ rfl (fun K hK => ?_)
                obtain ⟨⟨z0, z1, z2, z3, z4, z5, z6⟩, zl, ⟨u0, u1, u2, u3, u4, u5, u6⟩⟩ := ex_cells (unveil HZ).1
                go_simp
                obtain ⟨r1, r2, r3, r4⟩ := ex_put (unveil HZ).1 (.int .i64 x0) (.int .i64 x1) (.int .i64 x2) (.int .i64 x3) (.string ⟨x4.toArray⟩) (.slice q3 x5.length c3) (.int .i64 x6) _ rfl
                have HFE := veil ((unveil HF).putBox (unveil HZ).2 (Nat.le_trans (unveil HZ9) (unveil HZ).2) r2 r3)
                have HEE := veil r1
                have HKE : Hid (Kids _ (fun _ => True) (.mk x0 x1 x2 x3 x4 x5 x6) q3) := (unveil HKK).keep (fun g cs fz hg he => ⟨r3 g _ hg he, trivial⟩)
                refine hK _ _ (veil (unveil HFE).be) ?_
                clear hK K r1 r2 r3 r4 z0 z1 z2 z3 z4 z5 z6 zl u0 u1 u2 u3 u4 u5 u6
                iterate 2 (
                 refine sct_pure _ rfl _ (.inl ⟨rfl, fun W hS => (by go_simp; rfl)⟩) (fun B hB => ?_)
                 simp only [List.getElem_toArray, List.getElem_cons_zero, List.getElem_cons_succ, Act.put, List.setIfInBounds_toArray, List.set_cons_zero, List.set_cons_succ] at hB
                 subst hB)
                refine sct_done ?_
                refine listIn_last rfl (fun K hK => ?_)
                go_simp
                refine hK _ _ ?_
                clear hK K
                go_wp2_with fail
                go_meet
                case rel => exact ⟨_, _, _, rfl, rfl, rfl, rfl, HFE, HEE, HKE⟩
        · skip
          refine sct_step _ rfl (fun K hK => ?_)
          go_simp
          have hbn : Below W10.heap.size W10 (W10.alloc (.cells #[.int .i64 0, .int .i64 0, .int .i64 0, .int .i64 0, .string ⟨#[]⟩, .slice none 0 0, .int .i64 0] 24)) := (Below.refl _ W10).alloc (Nat.le_refl _) _
          have HFn : Hid (FrW W3.heap.size W9 (W10.alloc (.cells #[.int .i64 0, .int .i64 0, .int .i64 0, .int .i64 0, .string ⟨#[]⟩, .slice none 0 0, .int .i64 0] 24))) := (unveil HF).below hbn (unveil HN)
          have HNn : Hid (W3.heap.size ≤ (W10.alloc (.cells #[.int .i64 0, .int .i64 0, .int .i64 0, .int .i64 0, .string ⟨#[]⟩, .slice none 0 0, .int .i64 0] 24)).heap.size) := Nat.le_trans (unveil HN) hbn.size
          have HVn := veil (row_below' (unveil HV) hbn)
          have HZn : Hid (Bk (W10.alloc (.cells #[.int .i64 0, .int .i64 0, .int .i64 0, .int .i64 0, .string ⟨#[]⟩, .slice none 0 0, .int .i64 0] 24)) W10.heap.size 24 #[.int .i64 0, .int .i64 0, .int .i64 0, .int .i64 0, .string ⟨#[]⟩, .slice none 0 0, .int .i64 0] ∧ W9.heap.size ≤ W10.heap.size) := ⟨Bk.new W10 _ _, (unveil HF).be.size⟩
          refine hK _ _ (veil (unveil HFn).be) ?_
          clear hK K hbn HF HN HV
          generalize (W10.alloc (.cells #[.int .i64 0, .int .i64 0, .int .i64 0, .int .i64 0, .string ⟨#[]⟩, .slice none 0 0, .int .i64 0] 24)) = W109 at *
          have HF := HFn; clear HFn
          have HN := HNn; clear HNn
          have HV := HVn; clear HVn
          have HZ := HZn; clear HZn
          refine sct_both ?_ ?_
          · skip
            refine sct_step _ rfl (fun K hK => ?_)
            go_simp
            have hbn : Below W109.heap.size W109 (W109.alloc (.cells #[.int .i64 5, .string ⟨#[40]⟩, .int .i64 0, .int .i64 0, .string ⟨#[]⟩, .int .i64 0, .int .i64 5, .string ⟨#[43]⟩, .int .i64 0, .int .i64 0, .string ⟨#[]⟩, .int .i64 0] 42)) := (Below.refl _ W109).alloc (Nat.le_refl _) _
            have HFn : Hid (FrW W3.heap.size W9 (W109.alloc (.cells #[.int .i64 5, .string ⟨#[40]⟩, .int .i64 0, .int .i64 0, .string ⟨#[]⟩, .int .i64 0, .int .i64 5, .string ⟨#[43]⟩, .int .i64 0, .int .i64 0, .string ⟨#[]⟩, .int .i64 0] 42))) := (unveil HF).below hbn (unveil HN)
            have HNn : Hid (W3.heap.size ≤ (W109.alloc (.cells #[.int .i64 5, .string ⟨#[40]⟩, .int .i64 0, .int .i64 0, .string ⟨#[]⟩, .int .i64 0, .int .i64 5, .string ⟨#[43]⟩, .int .i64 0, .int .i64 0, .string ⟨#[]⟩, .int .i64 0] 42)).heap.size) := Nat.le_trans (unveil HN) hbn.size
            have HVn := veil (row_below' (unveil HV) hbn)
            have HZn := veil (And.intro ((unveil HZ).1.below hbn) (unveil HZ).2)
            have HAn : Hid ((W109.alloc (.cells #[.int .i64 5, .string ⟨#[40]⟩, .int .i64 0, .int .i64 0, .string ⟨#[]⟩, .int .i64 0, .int .i64 5, .string ⟨#[43]⟩, .int .i64 0, .int .i64 0, .string ⟨#[]⟩, .int .i64 0] 42)).ownsRow W3.heap.size 42 6 (.slice (some ⟨W109.heap.size, 0, none⟩) 2 2) 2 (wdCells [opnW, plsW]) ∧ g7 < W109.heap.size) := ⟨own_new (Bk.new W109 _ _) rfl rfl (unveil HN) (by decide), ((unveil HV).lt g7 rfl).2⟩
            refine hK _ _ (veil (unveil HFn).be) ?_
            clear hK K hbn HF HN HV HZ
            generalize (W109.alloc (.cells #[.int .i64 5, .string ⟨#[40]⟩, .int .i64 0, .int .i64 0, .string ⟨#[]⟩, .int .i64 0, .int .i64 5, .string ⟨#[43]⟩, .int .i64 0, .int .i64 0, .string ⟨#[]⟩, .int .i64 0] 42)) = W110 at *
            have HF := HFn; clear HFn
            have HN := HNn; clear HNn
            have HV := HVn; clear HVn
            have HA := HAn; clear HAn
            have HZ := HZn; clear HZn
            refine sct_step _ rfl (fun K hK => ?_)
            obtain ⟨l0, l1, l2, l3, l4, l5, ll⟩ := last_cells (unveil HV)
            simp only [clsW] at l0 l1 l2 l3 l4 l5
            go_simp
            refine hK _ _ (veil (unveil HF).be) ?_
            clear hK K l0 l1 l2 l3 l4 l5 ll
            refine sct_step _ rfl (fun K hK => ?_)
            go_simp
            have hbn : Below W110.heap.size W110 (W110.alloc (.cells #[.int .i64 5, .string ⟨#[41]⟩, .int .i64 0, .int .i64 0, .string ⟨#[]⟩, .int .i64 0] 42)) := (Below.refl _ W110).alloc (Nat.le_refl _) _
            have HFn : Hid (FrW W3.heap.size W9 (W110.alloc (.cells #[.int .i64 5, .string ⟨#[41]⟩, .int .i64 0, .int .i64 0, .string ⟨#[]⟩, .int .i64 0] 42))) := (unveil HF).below hbn (unveil HN)
            have HNn : Hid (W3.heap.size ≤ (W110.alloc (.cells #[.int .i64 5, .string ⟨#[41]⟩, .int .i64 0, .int .i64 0, .string ⟨#[]⟩, .int .i64 0] 42)).heap.size) := Nat.le_trans (unveil HN) hbn.size
            have HVn := veil (row_below' (unveil HV) hbn)
            have HAn := veil (And.intro (row_below' (unveil HA).1 hbn) (unveil HA).2)
            have HZn := veil (And.intro ((unveil HZ).1.below hbn) (unveil HZ).2)
            have HBn : Hid (Src (W110.alloc (.cells #[.int .i64 5, .string ⟨#[41]⟩, .int .i64 0, .int .i64 0, .string ⟨#[]⟩, .int .i64 0] 42)) (.slice (some ⟨W110.heap.size, 0, none⟩) 1 1) 1 (wdCells [clsW])) := src_row (own_new (base := 0) (Bk.new W110 _ _) rfl rfl (Nat.zero_le _) (by decide)) (wd_one _)
            refine hK _ _ (veil (unveil HFn).be) ?_
            clear hK K hbn HF HN HV HA HZ
            generalize (W110.alloc (.cells #[.int .i64 5, .string ⟨#[41]⟩, .int .i64 0, .int .i64 0, .string ⟨#[]⟩, .int .i64 0] 42)) = W111 at *
            have HF := HFn; clear HFn
            have HN := HNn; clear HNn
            have HV := HVn; clear HVn
            have HA := HAn; clear HAn
            have HBB := HBn; clear HBn
            have HZ := HZn; clear HZn
            refine sct_step _ rfl (fun K hK => ?_)
            refine stepIn_app_Src rfl _ _ 26 rfl W3.heap.size 42 i1 _ 64 Tryz.underlying26 hi1 zw sw bw rfl _ (1 + p1 + 1) _ rfl (unveil HV) _ 1 _ rfl (unveil HBB) (by unfold maxLen; omega) (by omega) (unveil HN) ?_
            intro v67 W112 hown hgrow
            have HFn := veil ((unveil HF).growX (unveil HV) hgrow (unveil HN))
            have HNn : Hid (W3.heap.size ≤ W112.heap.size) := Nat.le_trans (unveil HN) hgrow.size
            have HCn : Hid (Src W112 v67 (1 + p1 + 1 + 1) (wdCells [opnW] ++ wdCells ws ++ wdCells [clsW] ++ wdCells [clsW])) := src_row hown (fun u hu => wd_one ([opnW] ++ ws ++ [clsW] ++ [clsW]) u (by rw [wdCells_app, wdCells_app, wdCells_app]; exact hu))
            have HAn := veil (And.intro (row_other (unveil HA).1 hgrow (Nat.ne_of_gt (unveil HA).2)) trivial)
            have HZn := veil (And.intro (bk_grow (unveil HZ).1 (by decide) hgrow (row_at (unveil HV)).2.choose_spec) (unveil HZ).2)
            simp only [List.getElem_toArray, List.getElem_cons_zero, List.getElem_cons_succ, Act.put, List.setIfInBounds_toArray, List.set_cons_zero, List.set_cons_succ]
            refine hK _ _ (veil (unveil HFn).be) ?_
            clear hK K hown hgrow HF HN HV HBB HA HZ
            have HF := HFn; clear HFn; have HN := HNn; clear HNn
            have HCC := HCn; clear HCn
            have HA := HAn; clear HAn
            have HZ := HZn; clear HZn
            refine sct_step _ rfl (fun K hK => ?_)
            refine stepIn_app_Src rfl _ _ 26 rfl W3.heap.size 42 i1 _ 64 Tryz.underlying26 hi1 zw sw bw rfl _ 2 _ rfl (unveil HA).1 _ (1 + p1 + 1 + 1) _ rfl (unveil HCC) (by unfold maxLen; omega) (by omega) (unveil HN) ?_
            intro v68 W113 hown hgrow
            have HFn := veil ((unveil HF).growX (unveil HA).1 hgrow (unveil HN))
            have HNn : Hid (W3.heap.size ≤ W113.heap.size) := Nat.le_trans (unveil HN) hgrow.size
            have HDn := veil hown
            have HZn := veil (And.intro (bk_grow (unveil HZ).1 (by decide) hgrow (row_at (unveil HA).1).2.choose_spec) (unveil HZ).2)
            simp only [List.getElem_toArray, List.getElem_cons_zero, List.getElem_cons_succ, Act.put, List.setIfInBounds_toArray, List.set_cons_zero, List.set_cons_succ]
            refine hK _ _ (veil (unveil HFn).be) ?_
            clear hK K hown hgrow HF HN HA HCC HZ
            have HF := HFn; clear HFn; have HN := HNn; clear HNn
            have HDD := HDn; clear HDn
            have HZ := HZn; clear HZn
            refine sct_step _ rfl (fun K hK => ?_)
            go_simp
            refine ⟨trivial, rfl, (callsIn_wide.2 (unveil HP3 _ W113 W3.heap.size ((unveil HB3).trans (((unveil HF9).be.trans (unveil HF).be).mono (unveil HB3).size)) (unveil HDD))).mono ?_⟩
            rintro e W114 ⟨q3, c3, rfl, hk3, hbn⟩
            have HFn := veil ((unveil HF).below hbn (unveil HN))
            have HNn : Hid (W3.heap.size ≤ W114.heap.size) := Nat.le_trans (unveil HN) hbn.size
            have HZn := veil (And.intro ((unveil HZ).1.below hbn) (unveil HZ).2)
            have HKK := veil (hk3.mono (K' := fun g => g ≠ W10.heap.size) (fun g _ hg => by have := (unveil HZ).1.lt; omega))
            refine hK _ _ (veil (unveil HFn).be) ?_
            clear hK K hk3 hbn HF HN HDD HZ
            have HF := HFn; clear HFn; have HN := HNn; clear HNn
            have HZ := HZn; clear HZn
            iterate 5 (
             refine sct_pure _ rfl _ (.inl ⟨rfl, fun W hS => (by go_simp; rfl)⟩) (fun B hB => ?_)
             simp only [List.getElem_toArray, List.getElem_cons_zero, List.getElem_cons_succ, Act.put, List.setIfInBounds_toArray, List.set_cons_zero, List.set_cons_succ] at hB
             subst hB)
            refine sct_step _ rfl (fun K hK => ?_)
            obtain ⟨⟨z0, z1, z2, z3, z4, z5, z6⟩, zl, ⟨u0, u1, u2, u3, u4, u5, u6⟩⟩ := ex_cells (unveil HZ).1
            go_simp
            obtain ⟨r1, r2, r3, r4⟩ := ex_put (unveil HZ).1 (.int .i64 x0) (.int .i64 x1) (.int .i64 x2) (.int .i64 x3) (.string ⟨x4.toArray⟩) (.slice q3 x5.length c3) (.int .i64 x6) _ rfl
            have HFE := veil ((unveil HF).putBox (unveil HZ).2 (Nat.le_trans (unveil HZ9) (unveil HZ).2) r2 r3)
            have HEE := veil r1
            have HKE : Hid (Kids _ (fun _ => True) (.mk x0 x1 x2 x3 x4 x5 x6) q3) := (unveil HKK).keep (fun g cs fz hg he => ⟨r3 g _ hg he, trivial⟩)
            refine hK _ _ (veil (unveil HFE).be) ?_
            clear hK K r1 r2 r3 r4 z0 z1 z2 z3 z4 z5 z6 zl u0 u1 u2 u3 u4 u5 u6
            iterate 2 (
             refine sct_pure _ rfl _ (.inl ⟨rfl, fun W hS => (by go_simp; rfl)⟩) (fun B hB => ?_)
             simp only [List.getElem_toArray, List.getElem_cons_zero, List.getElem_cons_succ, Act.put, List.setIfInBounds_toArray, List.set_cons_zero, List.set_cons_succ] at hB
             subst hB)
            refine sct_done ?_
            refine listIn_last rfl (fun K hK => ?_)
            go_simp
            refine hK _ _ ?_
            clear hK K
            go_wp2_with fail
            go_meet
            case rel => exact ⟨_, _, _, rfl, rfl, rfl, rfl, HFE, HEE, HKE⟩
          · skip
            refine sct_step _ rfl (fun K hK => ?_)
            obtain ⟨l0, l1, l2, l3, l4, l5, ll⟩ := last_cells (unveil HV)
            simp only [clsW] at l0 l1 l2 l3 l4 l5
            go_simp
            refine hK _ _ (veil (unveil HF).be) ?_
            clear hK K l0 l1 l2 l3 l4 l5 ll
            refine sct_both ?_ ?_
            · skip
              refine sct_step _ rfl (fun K hK => ?_)
              go_simp
              have hbn : Below W109.heap.size W109 (W109.alloc (.cells #[.int .i64 5, .string ⟨#[40]⟩, .int .i64 0, .int .i64 0, .string ⟨#[]⟩, .int .i64 0, .int .i64 5, .string ⟨#[43]⟩, .int .i64 0, .int .i64 0, .string ⟨#[]⟩, .int .i64 0] 42)) := (Below.refl _ W109).alloc (Nat.le_refl _) _
              have HFn : Hid (FrW W3.heap.size W9 (W109.alloc (.cells #[.int .i64 5, .string ⟨#[40]⟩, .int .i64 0, .int .i64 0, .string ⟨#[]⟩, .int .i64 0, .int .i64 5, .string ⟨#[43]⟩, .int .i64 0, .int .i64 0, .string ⟨#[]⟩, .int .i64 0] 42))) := (unveil HF).below hbn (unveil HN)
              have HNn : Hid (W3.heap.size ≤ (W109.alloc (.cells #[.int .i64 5, .string ⟨#[40]⟩, .int .i64 0, .int .i64 0, .string ⟨#[]⟩, .int .i64 0, .int .i64 5, .string ⟨#[43]⟩, .int .i64 0, .int .i64 0, .string ⟨#[]⟩, .int .i64 0] 42)).heap.size) := Nat.le_trans (unveil HN) hbn.size
              have HVn := veil (row_below' (unveil HV) hbn)
              have HZn := veil (And.intro ((unveil HZ).1.below hbn) (unveil HZ).2)
              have HAn : Hid ((W109.alloc (.cells #[.int .i64 5, .string ⟨#[40]⟩, .int .i64 0, .int .i64 0, .string ⟨#[]⟩, .int .i64 0, .int .i64 5, .string ⟨#[43]⟩, .int .i64 0, .int .i64 0, .string ⟨#[]⟩, .int .i64 0] 42)).ownsRow W3.heap.size 42 6 (.slice (some ⟨W109.heap.size, 0, none⟩) 2 2) 2 (wdCells [opnW, plsW]) ∧ g7 < W109.heap.size) := ⟨own_new (Bk.new W109 _ _) rfl rfl (unveil HN) (by decide), ((unveil HV).lt g7 rfl).2⟩
              refine hK _ _ (veil (unveil HFn).be) ?_
              clear hK K hbn HF HN HV HZ
              generalize (W109.alloc (.cells #[.int .i64 5, .string ⟨#[40]⟩, .int .i64 0, .int .i64 0, .string ⟨#[]⟩, .int .i64 0, .int .i64 5, .string ⟨#[43]⟩, .int .i64 0, .int .i64 0, .string ⟨#[]⟩, .int .i64 0] 42)) = W115 at *
              have HF := HFn; clear HFn
              have HN := HNn; clear HNn
              have HV := HVn; clear HVn
              have HA := HAn; clear HAn
              have HZ := HZn; clear HZn
              refine sct_step _ rfl (fun K hK => ?_)
              go_simp
              have hbn : Below W115.heap.size W115 (W115.alloc (.cells #[.int .i64 5, .string ⟨#[41]⟩, .int .i64 0, .int .i64 0, .string ⟨#[]⟩, .int .i64 0] 42)) := (Below.refl _ W115).alloc (Nat.le_refl _) _
              have HFn : Hid (FrW W3.heap.size W9 (W115.alloc (.cells #[.int .i64 5, .string ⟨#[41]⟩, .int .i64 0, .int .i64 0, .string ⟨#[]⟩, .int .i64 0] 42))) := (unveil HF).below hbn (unveil HN)
              have HNn : Hid (W3.heap.size ≤ (W115.alloc (.cells #[.int .i64 5, .string ⟨#[41]⟩, .int .i64 0, .int .i64 0, .string ⟨#[]⟩, .int .i64 0] 42)).heap.size) := Nat.le_trans (unveil HN) hbn.size
              have HVn := veil (row_below' (unveil HV) hbn)
              have HAn := veil (And.intro (row_below' (unveil HA).1 hbn) (unveil HA).2)
              have HZn := veil (And.intro ((unveil HZ).1.below hbn) (unveil HZ).2)
              have HBn : Hid (Src (W115.alloc (.cells #[.int .i64 5, .string ⟨#[41]⟩, .int .i64 0, .int .i64 0, .string ⟨#[]⟩, .int .i64 0] 42)) (.slice (some ⟨W115.heap.size, 0, none⟩) 1 1) 1 (wdCells [clsW])) := src_row (own_new (base := 0) (Bk.new W115 _ _) rfl rfl (Nat.zero_le _) (by decide)) (wd_one _)
              refine hK _ _ (veil (unveil HFn).be) ?_
              clear hK K hbn HF HN HV HA HZ
              generalize (W115.alloc (.cells #[.int .i64 5, .string ⟨#[41]⟩, .int .i64 0, .int .i64 0, .string ⟨#[]⟩, .int .i64 0] 42)) = W116 at *
              have HF := HFn; clear HFn
              have HN := HNn; clear HNn
              have HV := HVn; clear HVn
              have HA := HAn; clear HAn
              have HBB := HBn; clear HBn
              have HZ := HZn; clear HZn
              refine sct_step _ rfl (fun K hK => ?_)
              refine stepIn_app_Src rfl _ _ 26 rfl W3.heap.size 42 i1 _ 64 Tryz.underlying26 hi1 zw sw bw rfl _ (1 + p1 + 1) _ rfl (unveil HV) _ 1 _ rfl (unveil HBB) (by unfold maxLen; omega) (by omega) (unveil HN) ?_
              intro v67 W117 hown hgrow
              have HFn := veil ((unveil HF).growX (unveil HV) hgrow (unveil HN))
              have HNn : Hid (W3.heap.size ≤ W117.heap.size) := Nat.le_trans (unveil HN) hgrow.size
              have HCn : Hid (Src W117 v67 (1 + p1 + 1 + 1) (wdCells [opnW] ++ wdCells ws ++ wdCells [clsW] ++ wdCells [clsW])) := src_row hown (fun u hu => wd_one ([opnW] ++ ws ++ [clsW] ++ [clsW]) u (by rw [wdCells_app, wdCells_app, wdCells_app]; exact hu))
              have HAn := veil (And.intro (row_other (unveil HA).1 hgrow (Nat.ne_of_gt (unveil HA).2)) trivial)
              have HZn := veil (And.intro (bk_grow (unveil HZ).1 (by decide) hgrow (row_at (unveil HV)).2.choose_spec) (unveil HZ).2)
              simp only [List.getElem_toArray, List.getElem_cons_zero, List.getElem_cons_succ, Act.put, List.setIfInBounds_toArray, List.set_cons_zero, List.set_cons_succ]
              refine hK _ _ (veil (unveil HFn).be) ?_
              clear hK K hown hgrow HF HN HV HBB HA HZ
              have HF := HFn; clear HFn; have HN := HNn; clear HNn
              have HCC := HCn; clear HCn
              have HA := HAn; clear HAn
              have HZ := HZn; clear HZn
              refine sct_step _ rfl (fun K hK => ?_)
              refine stepIn_app_Src rfl _ _ 26 rfl W3.heap.size 42 i1 _ 64 Tryz.underlying26 hi1 zw sw bw rfl _ 2 _ rfl (unveil HA).1 _ (1 + p1 + 1 + 1) _ rfl (unveil HCC) (by unfold maxLen; omega) (by omega) (unveil HN) ?_
              intro v68 W118 hown hgrow
              have HFn := veil ((unveil HF).growX (unveil HA).1 hgrow (unveil HN))
              have HNn : Hid (W3.heap.size ≤ W118.heap.size) := Nat.le_trans (unveil HN) hgrow.size
              have HDn := veil hown
              have HZn := veil (And.intro (bk_grow (unveil HZ).1 (by decide) hgrow (row_at (unveil HA).1).2.choose_spec) (unveil HZ).2)
              simp only [List.getElem_toArray, List.getElem_cons_zero, List.getElem_cons_succ, Act.put, List.setIfInBounds_toArray, List.set_cons_zero, List.set_cons_succ]
              refine hK _ _ (veil (unveil HFn).be) ?_
              clear hK K hown hgrow HF HN HA HCC HZ
              have HF := HFn; clear HFn; have HN := HNn; clear HNn
              have HDD := HDn; clear HDn
              have HZ := HZn; clear HZn
              refine sct_step _ rfl (fun K hK => ?_)
              go_simp
              refine ⟨trivial, rfl, (callsIn_wide.2 (unveil HP3 _ W118 W3.heap.size ((unveil HB3).trans (((unveil HF9).be.trans (unveil HF).be).mono (unveil HB3).size)) (unveil HDD))).mono ?_⟩
              rintro e W119 ⟨q3, c3, rfl, hk3, hbn⟩
              have HFn := veil ((unveil HF).below hbn (unveil HN))
              have HNn : Hid (W3.heap.size ≤ W119.heap.size) := Nat.le_trans (unveil HN) hbn.size
              have HZn := veil (And.intro ((unveil HZ).1.below hbn) (unveil HZ).2)
              have HKK := veil (hk3.mono (K' := fun g => g ≠ W10.heap.size) (fun g _ hg => by have := (unveil HZ).1.lt; omega))
              refine hK _ _ (veil (unveil HFn).be) ?_
              clear hK K hk3 hbn HF HN HDD HZ
              have HF := HFn; clear HFn; have HN := HNn; clear HNn
              have HZ := HZn; clear HZn
              iterate 5 (
               refine sct_pure _ rfl _ (.inl ⟨rfl, fun W hS => (by go_simp; rfl)⟩) (fun B hB => ?_)
               simp only [List.getElem_toArray, List.getElem_cons_zero, List.getElem_cons_succ, Act.put, List.setIfInBounds_toArray, List.set_cons_zero, List.set_cons_succ] at hB
               subst hB)
              refine sct_step _ rfl (fun K hK => ?_)
              obtain ⟨⟨z0, z1, z2, z3, z4, z5, z6⟩, zl, ⟨u0, u1, u2, u3, u4, u5, u6⟩⟩ := ex_cells (unveil HZ).1
              go_simp
              obtain ⟨r1, r2, r3, r4⟩ := ex_put (unveil HZ).1 (.int .i64 x0) (.int .i64 x1) (.int .i64 x2) (.int .i64 x3) (.string ⟨x4.toArray⟩) (.slice q3 x5.length c3) (.int .i64 x6) _ rfl
              have HFE := veil ((unveil HF).putBox (unveil HZ).2 (Nat.le_trans (unveil HZ9) (unveil HZ).2) r2 r3)
              have HEE := veil r1
              have HKE : Hid (Kids _ (fun _ => True) (.mk x0 x1 x2 x3 x4 x5 x6) q3) := (unveil HKK).keep (fun g cs fz hg he => ⟨r3 g _ hg he, trivial⟩)
              refine hK _ _ (veil (unveil HFE).be) ?_
              clear hK K r1 r2 r3 r4 z0 z1 z2 z3 z4 z5 z6 zl u0 u1 u2 u3 u4 u5 u6
              iterate 2 (
               refine sct_pure _ rfl _ (.inl ⟨rfl, fun W hS => (by go_simp; rfl)⟩) (fun B hB => ?_)
               simp only [List.getElem_toArray, List.getElem_cons_zero, List.getElem_cons_succ, Act.put, List.setIfInBounds_toArray, List.set_cons_zero, List.set_cons_succ] at hB
               subst hB)
              refine sct_done ?_
              refine listIn_last rfl (fun K hK => ?_)
              go_simp
              refine hK _ _ ?_
              clear hK K
              go_wp2_with fail
              go_meet
              case rel => exact ⟨_, _, _, rfl, rfl, rfl, rfl, HFE, HEE, HKE⟩
            · skip
              refine sct_step _ rfl (fun K hK => ?_)
              go_simp
              have hbn : Below W109.heap.size W109 (W109.alloc (.cells #[.int .i64 5, .string ⟨#[41]⟩, .int .i64 0, .int .i64 0, .string ⟨#[]⟩, .int .i64 0] 42)) := (Below.refl _ W109).alloc (Nat.le_refl _) _
              have HFn : Hid (FrW W3.heap.size W9 (W109.alloc (.cells #[.int .i64 5, .string ⟨#[41]⟩, .int .i64 0, .int .i64 0, .string ⟨#[]⟩, .int .i64 0] 42))) := (unveil HF).below hbn (unveil HN)
              have HNn : Hid (W3.heap.size ≤ (W109.alloc (.cells #[.int .i64 5, .string ⟨#[41]⟩, .int .i64 0, .int .i64 0, .string ⟨#[]⟩, .int .i64 0] 42)).heap.size) := Nat.le_trans (unveil HN) hbn.size
              have HVn := veil (row_below' (unveil HV) hbn)
              have HZn := veil (And.intro ((unveil HZ).1.below hbn) (unveil HZ).2)
              have HBn : Hid (Src (W109.alloc (.cells #[.int .i64 5, .string ⟨#[41]⟩, .int .i64 0, .int .i64 0, .string ⟨#[]⟩, .int .i64 0] 42)) (.slice (some ⟨W109.heap.size, 0, none⟩) 1 1) 1 (wdCells [clsW])) := src_row (own_new (base := 0) (Bk.new W109 _ _) rfl rfl (Nat.zero_le _) (by decide)) (wd_one _)
              refine hK _ _ (veil (unveil HFn).be) ?_
              clear hK K hbn HF HN HV HZ
              generalize (W109.alloc (.cells #[.int .i64 5, .string ⟨#[41]⟩, .int .i64 0, .int .i64 0, .string ⟨#[]⟩, .int .i64 0] 42)) = W120 at *
              have HF := HFn; clear HFn
              have HN := HNn; clear HNn
              have HV := HVn; clear HVn
              have HBB := HBn; clear HBn
              have HZ := HZn; clear HZn
              refine sct_both ?_ ?_
              · skip
                refine sct_step _ rfl (fun K hK => ?_)
                go_simp
                have hbn : Below W120.heap.size W120 (W120.alloc (.cells #[.int .i64 5, .string ⟨#[40]⟩, .int .i64 0, .int .i64 0, .string ⟨#[]⟩, .int .i64 0, .int .i64 5, .string ⟨#[43]⟩, .int .i64 0, .int .i64 0, .string ⟨#[]⟩, .int .i64 0] 42)) := (Below.refl _ W120).alloc (Nat.le_refl _) _
                have HFn : Hid (FrW W3.heap.size W9 (W120.alloc (.cells #[.int .i64 5, .string ⟨#[40]⟩, .int .i64 0, .int .i64 0, .string ⟨#[]⟩, .int .i64 0, .int .i64 5, .string ⟨#[43]⟩, .int .i64 0, .int .i64 0, .string ⟨#[]⟩, .int .i64 0] 42))) := (unveil HF).below hbn (unveil HN)
                have HNn : Hid (W3.heap.size ≤ (W120.alloc (.cells #[.int .i64 5, .string ⟨#[40]⟩, .int .i64 0, .int .i64 0, .string ⟨#[]⟩, .int .i64 0, .int .i64 5, .string ⟨#[43]⟩, .int .i64 0, .int .i64 0, .string ⟨#[]⟩, .int .i64 0] 42)).heap.size) := Nat.le_trans (unveil HN) hbn.size
                have HVn := veil (row_below' (unveil HV) hbn)
                have HBn := veil ((unveil HBB).below hbn)
                have HZn := veil (And.intro ((unveil HZ).1.below hbn) (unveil HZ).2)
                have HAn : Hid ((W120.alloc (.cells #[.int .i64 5, .string ⟨#[40]⟩, .int .i64 0, .int .i64 0, .string ⟨#[]⟩, .int .i64 0, .int .i64 5, .string ⟨#[43]⟩, .int .i64 0, .int .i64 0, .string ⟨#[]⟩, .int .i64 0] 42)).ownsRow W3.heap.size 42 6 (.slice (some ⟨W120.heap.size, 0, none⟩) 2 2) 2 (wdCells [opnW, plsW]) ∧ g7 < W120.heap.size) := ⟨own_new (Bk.new W120 _ _) rfl rfl (unveil HN) (by decide), ((unveil HV).lt g7 rfl).2⟩
                refine hK _ _ (veil (unveil HFn).be) ?_
                clear hK K hbn HF HN HV HBB HZ
                generalize (W120.alloc (.cells #[.int .i64 5, .string ⟨#[40]⟩, .int .i64 0, .int .i64 0, .string ⟨#[]⟩, .int .i64 0, .int .i64 5, .string ⟨#[43]⟩, .int .i64 0, .int .i64 0, .string ⟨#[]⟩, .int .i64 0] 42)) = W121 at *
                have HF := HFn; clear HFn
                have HN := HNn; clear HNn
                have HV := HVn; clear HVn
                have HA := HAn; clear HAn
                have HBB := HBn; clear HBn
                have HZ := HZn; clear HZn
                refine sct_step _ rfl (fun K hK => ?_)
                refine stepIn_app_Src rfl _ _ 26 rfl W3.heap.size 42 i1 _ 64 Tryz.underlying26 hi1 zw sw bw rfl _ (1 + p1 + 1) _ rfl (unveil HV) _ 1 _ rfl (unveil HBB) (by unfold maxLen; omega) (by omega) (unveil HN) ?_
                intro v67 W122 hown hgrow
                have HFn := veil ((unveil HF).growX (unveil HV) hgrow (unveil HN))
                have HNn : Hid (W3.heap.size ≤ W122.heap.size) := Nat.le_trans (unveil HN) hgrow.size
                have HCn : Hid (Src W122 v67 (1 + p1 + 1 + 1) (wdCells [opnW] ++ wdCells ws ++ wdCells [clsW] ++ wdCells [clsW])) := src_row hown (fun u hu => wd_one ([opnW] ++ ws ++ [clsW] ++ [clsW]) u (by rw [wdCells_app, wdCells_app, wdCells_app]; exact hu))
                have HAn := veil (And.intro (row_other (unveil HA).1 hgrow (Nat.ne_of_gt (unveil HA).2)) trivial)
                have HZn := veil (And.intro (bk_grow (unveil HZ).1 (by decide) hgrow (row_at (unveil HV)).2.choose_spec) (unveil HZ).2)
                simp only [List.getElem_toArray, List.getElem_cons_zero, List.getElem_cons_succ, Act.put, List.setIfInBounds_toArray, List.set_cons_zero, List.set_cons_succ]
                refine hK _ _ (veil (unveil HFn).be) ?_
                clear hK K hown hgrow HF HN HV HBB HA HZ
                have HF := HFn; clear HFn; have HN := HNn; clear HNn
                have HCC := HCn; clear HCn
                have HA := HAn; clear HAn
                have HZ := HZn; clear HZn
                refine sct_step _ rfl (fun K hK => ?_)
                refine stepIn_app_Src rfl _ _ 26 rfl W3.heap.size 42 i1 _ 64 Tryz.underlying26 hi1 zw sw bw rfl _ 2 _ rfl (unveil HA).1 _ (1 + p1 + 1 + 1) _ rfl (unveil HCC) (by unfold maxLen; omega) (by omega) (unveil HN) ?_
                intro v68 W123 hown hgrow
                have HFn := veil ((unveil HF).growX (unveil HA).1 hgrow (unveil HN))
                have HNn : Hid (W3.heap.size ≤ W123.heap.size) := Nat.le_trans (unveil HN) hgrow.size
                have HDn := veil hown
                have HZn := veil (And.intro (bk_grow (unveil HZ).1 (by decide) hgrow (row_at (unveil HA).1).2.choose_spec) (unveil HZ).2)
                simp only [List.getElem_toArray, List.getElem_cons_zero, List.getElem_cons_succ, Act.put, List.setIfInBounds_toArray, List.set_cons_zero, List.set_cons_succ]
                refine hK _ _ (veil (unveil HFn).be) ?_
                clear hK K hown hgrow HF HN HA HCC HZ
                have HF := HFn; clear HFn; have HN := HNn; clear HNn
                have HDD := HDn; clear HDn
                have HZ := HZn; clear HZn
                refine sct_step _ rfl (fun K hK => ?_)
                go_simp
                refine ⟨trivial, rfl, (callsIn_wide.2 (unveil HP3 _ W123 W3.heap.size ((unveil HB3).trans (((unveil HF9).be.trans (unveil HF).be).mono (unveil HB3).size)) (unveil HDD))).mono ?_⟩
                rintro e W124 ⟨q3, c3, rfl, hk3, hbn⟩
                have HFn := veil ((unveil HF).below hbn (unveil HN))
                have HNn : Hid (W3.heap.size ≤ W124.heap.size) := Nat.le_trans (unveil HN) hbn.size
                have HZn := veil (And.intro ((unveil HZ).1.below hbn) (unveil HZ).2)
                have HKK := veil (hk3.mono (K' := fun g => g ≠ W10.heap.size) (fun g _ hg => by have := (unveil HZ).1.lt; omega))
                refine hK _ _ (veil (unveil HFn).be) ?_
                clear hK K hk3 hbn HF HN HDD HZ
                have HF := HFn; clear HFn; have HN := HNn; clear HNn
                have HZ := HZn; clear HZn
                iterate 5 (
                 refine sct_pure _ rfl _ (.inl ⟨rfl, fun W hS => (by go_simp; rfl)⟩) (fun B hB => ?_)
                 simp only [List.getElem_toArray, List.getElem_cons_zero, List.getElem_cons_succ, Act.put, List.setIfInBounds_toArray, List.set_cons_zero, List.set_cons_succ] at hB
                 subst hB)
                refine sct_step _ rfl (fun K hK => ?_)
                obtain ⟨⟨z0, z1, z2, z3, z4, z5, z6⟩, zl, ⟨u0, u1, u2, u3, u4, u5, u6⟩⟩ := ex_cells (unveil HZ).1
                go_simp
                obtain ⟨r1, r2, r3, r4⟩ := ex_put (unveil HZ).1 (.int .i64 x0) (.int .i64 x1) (.int .i64 x2) (.int .i64 x3) (.string ⟨x4.toArray⟩) (.slice q3 x5.length c3) (.int .i64 x6) _ rfl
                have HFE := veil ((unveil HF).putBox (unveil HZ).2 (Nat.le_trans (unveil HZ9) (unveil HZ).2) r2 r3)
                have HEE := veil r1
                have HKE : Hid (Kids _ (fun _ => True) (.mk x0 x1 x2 x3 x4 x5 x6) q3) := (unveil HKK).keep (fun g cs fz hg he => ⟨r3 g _ hg he, trivial⟩)
                refine hK _ _ (veil (unveil HFE).be) ?_
                clear hK K r1 r2 r3 r4 z0 z1 z2 z3 z4 z5 z6 zl u0 u1 u2 u3 u4 u5 u6
                iterate 2 (
                 refine sct_pure _ rfl _ (.inl ⟨rfl, fun W hS => (by go_simp; rfl)⟩) (fun B hB => ?_)
                 simp only [List.getElem_toArray, List.getElem_cons_zero, List.getElem_cons_succ, Act.put, List.setIfInBounds_toArray, List.set_cons_zero, List.set_cons_succ] at hB
                 subst hB)
                refine sct_done ?_
                refine listIn_last rfl (fun K hK => ?_)
                go_simp
                refine hK _ _ ?_
                clear hK K
                go_wp2_with fail
                go_meet
                case rel => exact ⟨_, _, _, rfl, rfl, rfl, rfl, HFE, HEE, HKE⟩
              · skip
                refine sct_step _ rfl (fun K hK => ?_)
                refine stepIn_app_Src rfl _ _ 26 rfl W3.heap.size 42 i1 _ 64 Tryz.underlying26 hi1 zw sw bw rfl _ (1 + p1 + 1) _ rfl (unveil HV) _ 1 _ rfl (unveil HBB) (by unfold maxLen; omega) (by omega) (unveil HN) ?_
                intro v67 W125 hown hgrow
                have HFn := veil ((unveil HF).growX (unveil HV) hgrow (unveil HN))
                have HNn : Hid (W3.heap.size ≤ W125.heap.size) := Nat.le_trans (unveil HN) hgrow.size
                have HCn : Hid (Src W125 v67 (1 + p1 + 1 + 1) (wdCells [opnW] ++ wdCells ws ++ wdCells [clsW] ++ wdCells [clsW])) := src_row hown (fun u hu => wd_one ([opnW] ++ ws ++ [clsW] ++ [clsW]) u (by rw [wdCells_app, wdCells_app, wdCells_app]; exact hu))
                have HZn := veil (And.intro (bk_grow (unveil HZ).1 (by decide) hgrow (row_at (unveil HV)).2.choose_spec) (unveil HZ).2)
                simp only [List.getElem_toArray, List.getElem_cons_zero, List.getElem_cons_succ, Act.put, List.setIfInBounds_toArray, List.set_cons_zero, List.set_cons_succ]
                refine hK _ _ (veil (unveil HFn).be) ?_
                clear hK K hown hgrow HF HN HV HBB HZ
                have HF := HFn; clear HFn; have HN := HNn; clear HNn
                have HCC := HCn; clear HCn
                have HZ := HZn; clear HZn
                refine sct_step _ rfl (fun K hK => ?_)
                go_simp
                have hbn : Below W125.heap.size W125 (W125.alloc (.cells #[.int .i64 5, .string ⟨#[40]⟩, .int .i64 0, .int .i64 0, .string ⟨#[]⟩, .int .i64 0, .int .i64 5, .string ⟨#[43]⟩, .int .i64 0, .int .i64 0, .string ⟨#[]⟩, .int .i64 0] 42)) := (Below.refl _ W125).alloc (Nat.le_refl _) _
                have HFn : Hid (FrW W3.heap.size W9 (W125.alloc (.cells #[.int .i64 5, .string ⟨#[40]⟩, .int .i64 0, .int .i64 0, .string ⟨#[]⟩, .int .i64 0, .int .i64 5, .string ⟨#[43]⟩, .int .i64 0, .int .i64 0, .string ⟨#[]⟩, .int .i64 0] 42))) := (unveil HF).below hbn (unveil HN)
                have HNn : Hid (W3.heap.size ≤ (W125.alloc (.cells #[.int .i64 5, .string ⟨#[40]⟩, .int .i64 0, .int .i64 0, .string ⟨#[]⟩, .int .i64 0, .int .i64 5, .string ⟨#[43]⟩, .int .i64 0, .int .i64 0, .string ⟨#[]⟩, .int .i64 0] 42)).heap.size) := Nat.le_trans (unveil HN) hbn.size
                have HCn := veil ((unveil HCC).below hbn)
                have HZn := veil (And.intro ((unveil HZ).1.below hbn) (unveil HZ).2)
                have HAn : Hid ((W125.alloc (.cells #[.int .i64 5, .string ⟨#[40]⟩, .int .i64 0, .int .i64 0, .string ⟨#[]⟩, .int .i64 0, .int .i64 5, .string ⟨#[43]⟩, .int .i64 0, .int .i64 0, .string ⟨#[]⟩, .int .i64 0] 42)).ownsRow W3.heap.size 42 6 (.slice (some ⟨W125.heap.size, 0, none⟩) 2 2) 2 (wdCells [opnW, plsW]) ∧ True) := ⟨own_new (Bk.new W125 _ _) rfl rfl (unveil HN) (by decide), trivial⟩
                refine hK _ _ (veil (unveil HFn).be) ?_
                clear hK K hbn HF HN HCC HZ
                generalize (W125.alloc (.cells #[.int .i64 5, .string ⟨#[40]⟩, .int .i64 0, .int .i64 0, .string ⟨#[]⟩, .int .i64 0, .int .i64 5, .string ⟨#[43]⟩, .int .i64 0, .int .i64 0, .string ⟨#[]⟩, .int .i64 0] 42)) = W126 at *
                have HF := HFn; clear HFn
                have HN := HNn; clear HNn
                have HA := HAn; clear HAn
                have HCC := HCn; clear HCn
                have HZ := HZn; clear HZn
                refine sct_step _ rfl (fun K hK => ?_)
                refine stepIn_app_Src rfl _ _ 26 rfl W3.heap.size 42 i1 _ 64 Tryz.underlying26 hi1 zw sw bw rfl _ 2 _ rfl (unveil HA).1 _ (1 + p1 + 1 + 1) _ rfl (unveil HCC) (by unfold maxLen; omega) (by omega) (unveil HN) ?_
                intro v68 W127 hown hgrow
                have HFn := veil ((unveil HF).growX (unveil HA).1 hgrow (unveil HN))
                have HNn : Hid (W3.heap.size ≤ W127.heap.size) := Nat.le_trans (unveil HN) hgrow.size
                have HDn := veil hown
                have HZn := veil (And.intro (bk_grow (unveil HZ).1 (by decide) hgrow (row_at (unveil HA).1).2.choose_spec) (unveil HZ).2)
                simp only [List.getElem_toArray, List.getElem_cons_zero, List.getElem_cons_succ, Act.put, List.setIfInBounds_toArray, List.set_cons_zero, List.set_cons_succ]
                refine hK _ _ (veil (unveil HFn).be) ?_
                clear hK K hown hgrow HF HN HA HCC HZ
                have HF := HFn; clear HFn; have HN := HNn; clear HNn
                have HDD := HDn; clear HDn
                have HZ := HZn; clear HZn
                refine sct_step _ rfl (fun K hK => ?_)
                go_simp
                refine ⟨trivial, rfl, (callsIn_wide.2 (unveil HP3 _ W127 W3.heap.size ((unveil HB3).trans (((unveil HF9).be.trans (unveil HF).be).mono (unveil HB3).size)) (unveil HDD))).mono ?_⟩
                rintro e W128 ⟨q3, c3, rfl, hk3, hbn⟩
                have HFn := veil ((unveil HF).below hbn (unveil HN))
                have HNn : Hid (W3.heap.size ≤ W128.heap.size) := Nat.le_trans (unveil HN) hbn.size
                have HZn := veil (And.intro ((unveil HZ).1.below hbn) (unveil HZ).2)
                have HKK := veil (hk3.mono (K' := fun g => g ≠ W10.heap.size) (fun g _ hg => by have := (unveil HZ).1.lt; omega))
                refine hK _ _ (veil (unveil HFn).be) ?_
                clear hK K hk3 hbn HF HN HDD HZ
                have HF := HFn; clear HFn; have HN := HNn; clear HNn
                have HZ := HZn; clear HZn
                iterate 5 (
                 refine sct_pure _ rfl _ (.inl ⟨rfl, fun W hS => (by go_simp; rfl)⟩) (fun B hB => ?_)
                 simp only [List.getElem_toArray, List.getElem_cons_zero, List.getElem_cons_succ, Act.put, List.setIfInBounds_toArray, List.set_cons_zero, List.set_cons_succ] at hB
                 subst hB)
                refine sct_step _ rfl (fun K hK => ?_)
                obtain ⟨⟨z0, z1, z2, z3, z4, z5, z6⟩, zl, ⟨u0, u1, u2, u3, u4, u5, u6⟩⟩ := ex_cells (unveil HZ).1
                go_simp
                obtain ⟨r1, r2, r3, r4⟩ := ex_put (unveil HZ).1 (.int .i64 x0) (.int .i64 x1) (.int .i64 x2) (.int .i64 x3) (.string ⟨x4.toArray⟩) (.slice q3 x5.length c3) (.int .i64 x6) _ rfl
                have HFE := veil ((unveil HF).putBox (unveil HZ).2 (Nat.le_trans (unveil HZ9) (unveil HZ).2) r2 r3)
                have HEE := veil r1
                have HKE : Hid (Kids _ (fun _ => True) (.mk x0 x1 x2 x3 x4 x5 x6) q3) := (unveil HKK).keep (fun g cs fz hg he => ⟨r3 g _ hg he, trivial⟩)
                refine hK _ _ (veil (unveil HFE).be) ?_
                clear hK K r1 r2 r3 r4 z0 z1 z2 z3 z4 z5 z6 zl u0 u1 u2 u3 u4 u5 u6
                iterate 2 (
                 refine sct_pure _ rfl _ (.inl ⟨rfl, fun W hS => (by go_simp; rfl)⟩) (fun B hB => ?_)
                 simp only [List.getElem_toArray, List.getElem_cons_zero, List.getElem_cons_succ, Act.put, List.setIfInBounds_toArray, List.set_cons_zero, List.set_cons_succ] at hB
                 subst hB)
                refine sct_done ?_
                refine listIn_last rfl (fun K hK => ?_)
                go_simp
                refine hK _ _ ?_
                clear hK K
                go_wp2_with fail
                go_meet
                case rel => exact ⟨_, _, _, rfl, rfl, rfl, rfl, HFE, HEE, HKE⟩
      case rest =>
      obtain ⟨bZ, q3, c3, rfl, rfl, rfl, rfl, HFX, HEX, HKX⟩ := hcut
      have hBC : Below w.heap.size w wc := (unveil HB3).trans (((unveil HF9).be.trans (unveil HFX).be).mono (unveil HB3).size)
      have HBC := veil hBC
      have he1 : Bk wc E 24 (exC (.mk x0 x1 x2 x3 x4 x5 x6) q c) := (unveil HFX).box ((unveil HF9).box (unveil HE3) (by decide)) (by decide)
      have he2 : Bk wc E2 24 (exC (.mk x0 x1 x2 x3 x4 x5 x6) q2 c2) := (unveil HFX).box (unveil HE9) (by decide)
      have hk1 : Kids wc (fun _ => True) (.mk x0 x1 x2 x3 x4 x5 x6) q := (unveil HFX).kids ((unveil HF9).kids (unveil HK3))
      have hk2 : Kids wc (fun _ => True) (.mk x0 x1 x2 x3 x4 x5 x6) q2 := (unveil HFX).kids (unveil HK9)
      have HCE : Hid (∀ V, Below wc.heap.size wc V → (V.cell? ⟨E, 0, none⟩ = some (.int .i64 x0) ∧ V.cell? ⟨E, 1, none⟩ = some (.int .i64 x1) ∧ V.cell? ⟨E, 2, none⟩ = some (.int .i64 x2) ∧ V.cell? ⟨E, 3, none⟩ = some (.int .i64 x3) ∧ V.cell? ⟨E, 4, none⟩ = some (.string ⟨x4.toArray⟩) ∧ V.cell? ⟨E, 5, none⟩ = some (.slice q x5.length c) ∧ V.cell? ⟨E, 6, none⟩ = some (.int .i64 x6)) ∧ (V.cell? ⟨E2, 0, none⟩ = some (.int .i64 x0) ∧ V.cell? ⟨E2, 1, none⟩ = some (.int .i64 x1) ∧ V.cell? ⟨E2, 2, none⟩ = some (.int .i64 x2) ∧ V.cell? ⟨E2, 3, none⟩ = some (.int .i64 x3) ∧ V.cell? ⟨E2, 4, none⟩ = some (.string ⟨x4.toArray⟩) ∧ V.cell? ⟨E2, 5, none⟩ = some (.slice q2 x5.length c2) ∧ V.cell? ⟨E2, 6, none⟩ = some (.int .i64 x6)) ∧ (V.cell? ⟨bZ, 0, none⟩ = some (.int .i64 x0) ∧ V.cell? ⟨bZ, 1, none⟩ = some (.int .i64 x1) ∧ V.cell? ⟨bZ, 2, none⟩ = some (.int .i64 x2) ∧ V.cell? ⟨bZ, 3, none⟩ = some (.int .i64 x3) ∧ V.cell? ⟨bZ, 4, none⟩ = some (.string ⟨x4.toArray⟩) ∧ V.cell? ⟨bZ, 5, none⟩ = some (.slice q3 x5.length c3) ∧ V.cell? ⟨bZ, 6, none⟩ = some (.int .i64 x6)) ∧ E < V.heap.size ∧ E2 < V.heap.size ∧ bZ < V.heap.size) := fun V hb => by
        have a := he1.below hb
        have b := he2.below hb
        have d := (unveil HEX).below hb
        exact ⟨(ex_cells a).1, (ex_cells b).1, (ex_cells d).1, a.lt, b.lt, d.lt⟩
      have HSC : Hid (∀ V, Below wc.heap.size wc V → Calls Tryz.prog 13 #[.agg #[.int .i64 x0, .int .i64 x1, .int .i64 x2, .int .i64 x3, .string ⟨x4.toArray⟩, .slice q x5.length c, .int .i64 x6], .agg #[.int .i64 x0, .int .i64 x1, .int .i64 x2, .int .i64 x3, .string ⟨x4.toArray⟩, .slice q2 x5.length c2, .int .i64 x6]] V fun e V' => e = .returned (.bool true) ∧ Below V.heap.size V V') := fun V hb => by
        have := unveil HSM V q q2 c c2 (hBC.trans (hb.mono hBC.size)) (hk1.below hb) (hk2.below hb)
        rw [smM_refl] at this
        exact this
      have HSD : Hid (∀ V, Below wc.heap.size wc V → Calls Tryz.prog 13 #[.agg #[.int .i64 x0, .int .i64 x1, .int .i64 x2, .int .i64 x3, .string ⟨x4.toArray⟩, .slice q x5.length c, .int .i64 x6], .agg #[.int .i64 x0, .int .i64 x1, .int .i64 x2, .int .i64 x3, .string ⟨x4.toArray⟩, .slice q3 x5.length c3, .int .i64 x6]] V fun e V' => e = .returned (.bool true) ∧ Below V.heap.size V V') := fun V hb => by
        have := unveil HSM V q q3 c c3 (hBC.trans (hb.mono hBC.size)) (hk1.below hb) ((unveil HKX).below hb)
        rw [smM_refl] at this
        exact this
      have hTc : WdG w.heap.size wc (.slice p ws.length cap) ws := (unveil HT).below hBC
      have HBR : Hid (Below wc.heap.size wc wc) := Below.refl _ _
      by_cases hz : p1 = 0
      · subst hz
        have hlg : ¬ ((0 : Int) < ((0 : Nat) : Int)) := by omega
        clear hBC he1 he2 hk1 hk2 hTc
        obtain ⟨⟨a0, a1, a2, a3, a4, a5, a6⟩, ⟨b0, b1, b2, b3, b4, b5, b6⟩, ⟨d0, d1, d2, d3, d4, d5, d6⟩, l1, l2, l3⟩ := unveil HCE wc (unveil HBR)
        go_wp2_with (first
          | (go_at_call 13; refine (unveil HSC _ (unveil HBR)).mono ?_; rintro e V1 ⟨rfl, hv1⟩; have HV1 := veil hv1; obtain ⟨⟨a0, a1, a2, a3, a4, a5, a6⟩, ⟨b0, b1, b2, b3, b4, b5, b6⟩, ⟨d0, d1, d2, d3, d4, d5, d6⟩, l1, l2, l3⟩ := unveil HCE V1 hv1; clear HSC hv1)
          | (go_at_call 13; refine (unveil HSD _ (unveil HV1)).mono ?_; rintro e V2 ⟨rfl, hv2⟩; have HV2 := veil hv2; clear hv2))
        go_ret
        exact ⟨rfl, (unveil HBC).trans (((unveil HV1).trans ((unveil HV2).mono (unveil HV1).size)).mono (unveil HBC).size)⟩
      · have hlg : (0 : Int) < ((p1 : Nat) : Int) := by omega
        have hz1 : 0 < ws.length := by rw [unveil HLN]; omega
        obtain ⟨pp, cc, ep, hcw⟩ := hTc
        obtain ⟨rfl, rfl⟩ : p = pp ∧ cap = cc := by simpa using ep
        obtain ⟨g0, o0, rfl, hg0, w0, _⟩ := hcw 0 hz1
        have hkd : ws[0].kind ≠ 1 := unveil HK0 ws[0] (List.getElem?_eq_getElem hz1)
        have hkq : (ws[0].kind == 1) = false := by simpa using hkd
        have hg0l : g0 < wc.heap.size := Nat.lt_of_lt_of_le hg0 hBC.size
        rw [Nat.zero_mul, Nat.add_zero] at w0
        generalize ws[0].kind = KD at *
        clear hcw
        clear hBC he1 he2 hk1 hk2
        obtain ⟨⟨a0, a1, a2, a3, a4, a5, a6⟩, ⟨b0, b1, b2, b3, b4, b5, b6⟩, ⟨d0, d1, d2, d3, d4, d5, d6⟩, l1, l2, l3⟩ := unveil HCE wc (unveil HBR)
        go_wp2_with (first
          | (go_at_call 13; refine (unveil HSC _ (unveil HBR)).mono ?_; rintro e V1 ⟨rfl, hv1⟩; have HV1 := veil hv1; obtain ⟨⟨a0, a1, a2, a3, a4, a5, a6⟩, ⟨b0, b1, b2, b3, b4, b5, b6⟩, ⟨d0, d1, d2, d3, d4, d5, d6⟩, l1, l2, l3⟩ := unveil HCE V1 hv1; clear HSC hv1)
          | (go_at_call 13; refine (unveil HSD _ (unveil HV1)).mono ?_; rintro e V2 ⟨rfl, hv2⟩; have HV2 := veil hv2; clear hv2))
        go_ret
        exact ⟨rfl, (unveil HBC).trans (((unveil HV1).trans ((unveil HV2).mono (unveil HV1).size)).mono (unveil HBC).size)⟩
    · have hne : ((p1 : Int) == (n : Int)) = false := by simp; omega
      go_wp2
      go_ret
      exact ⟨rfl, (unveil HB2).alloc (unveil HB2).size _⟩
end Go.Proofs.YtmpkgjonbjpohaaGreatDoor
