/-
  Package lex: Show.
-/
import Derived.Test.YtnpjgamfjfmjjaaGreatDoorXo
namespace Go.Proofs.YtnpjgamfjfmjjaaGreatDoor
open Go Go.RowKit
set_option linter.unusedVariables false
set_option linter.unusedSimpArgs false

/-- The text of the first k words. -/
def shP (l : List Wd) (k : Nat) : List UInt8 := (List.range k).flatMap fun i => match l[i]? with
  | some x => (if i = 0 then [] else [32]) ++ splM x
  | none => []
theorem shP_zero (l : List Wd) : shP l 0 = [] := rfl
theorem shP_succ {l : List Wd} {k : Nat} (h : k < l.length) : shP l (k + 1) = shP l k ++ ((if k = 0 then [] else [32]) ++ splM l[k]) := by
  simp [shP, List.range_succ, h]
theorem shP_le (l : List Wd) : ∀ (n k : Nat), k ≤ n → (shP l k).length ≤ (shP l n).length := by
  intro n
  induction n with
  | zero => intro k hk; obtain rfl : k = 0 := by omega
            exact Nat.le_refl _
  | succ n ih =>
    intro k hk
    rcases Nat.lt_or_ge k (n + 1) with h | h
    · have := ih k (by omega)
      have e : shP l (n + 1) = shP l n ++ (match l[n]? with | some x => (if n = 0 then [] else [32]) ++ splM x | none => []) := by simp [shP, List.range_succ]
      rw [e, List.length_append]
      omega
    · obtain rfl : k = n + 1 := by omega
      exact Nat.le_refl _
/-- May a word stand at its place? -/
def okAt (l : List Wd) (i : Nat) : Bool := match l[i]? with
  | some x => rightM x && !(decide (0 < i) && (x.kind == 4) && (match l[i - 1]? with | some y => y.kind == 4 | none => false))
  | none => true
def okTo (l : List Wd) (k : Nat) : Bool := (List.range k).all (okAt l)
theorem okTo_succ (l : List Wd) (k : Nat) : okTo l (k + 1) = (okTo l k && okAt l k) := by simp [okTo, List.range_succ]
theorem okTo_le (l : List Wd) {k n : Nat} (h : okTo l n = true) (hk : k ≤ n) : okTo l k = true := by
  rw [okTo, List.all_eq_true] at *
  intro i hi
  exact h i (List.mem_range.2 (by have := List.mem_range.1 hi; omega))
/-- What Show tells of words. -/
def showM (l : List Wd) : List UInt8 × Int := if okTo l l.length then (shP l l.length, 0) else ([], 2)
theorem showM_no {l : List Wd} {k : Nat} (hk : k < l.length) (h : okAt l k = false) : showM l = ([], 2) := by
  have : okTo l l.length = false := by
    cases hq : okTo l l.length
    · rfl
    · have := okTo_le l hq (show k + 1 ≤ l.length by omega)
      rw [okTo_succ, h, Bool.and_false] at this
      cases this
  rw [showM, this]; rfl
set_option maxRecDepth 100000 in
set_option maxHeartbeats 8000000 in
theorem Show_any (v : Value) (l : List Wd) (w : World) (hl : l.length ≤ 1000000) (hs : ∀ x ∈ l, x.s.length ≤ 1000000000) (hlen : (shP l l.length).length ≤ 100000000000) (hv : WdG w.heap.size w v l) (hgl : Gl w) (htab : Tp w) :
    Calls Tryz.prog 16 #[v] w fun e w' => e = .returned (.tuple #[.string ⟨(showM l).1.toArray⟩, .int .i64 (showM l).2]) ∧ Below w.heap.size w w' := by
  have HV := hide hv
  obtain ⟨p, cap, rfl, _⟩ := hv
  have HLE : Hid (∀ k, k ≤ l.length → (shP l k).length ≤ 100000000000) := fun k hk => Nat.le_trans (shP_le l _ _ hk) hlen
  have HS : Hid (∀ (k : Nat) (h : k < l.length), l[k].s.length ≤ 1000000000) := fun k h => hs _ (List.getElem_mem h)
  have HG := hide hgl
  have HTB := hide htab
  have hgs := hgl.size
  have hBu := isB_fresh w
  have hbe := below_new w (.cells #[.pointer none, .slice none 0 0] 59)
  obtain ⟨R, hR⟩ : ∃ R, showM l = R := ⟨_, rfl⟩
  rw [hR]
  have HR := hide hR
  clear hs hlen hgl htab hR
  go_enter Tryz.func16, Tryz.ntmps16
  go_wp2
  generalize (w.alloc _ : World) = W0 at *
  go_loopg [9] l.length (fun gk i wr => ∃ k : Nat, gk = l.length - k ∧ i = .int .i64 (k : Int) ∧ k ≤ l.length ∧ Hid (Lib.IsBuilderF 59 5 w.heap.size w.heap.size (Lib.byteCells (shP l k)) wr) ∧ Hid (Below w.heap.size w wr) ∧ Hid (okTo l k = true))
  case atStart => exact ⟨0, rfl, rfl, Nat.zero_le _, hBu, hbe, rfl⟩
  case round =>
    clear hBu hbe
    obtain ⟨k, rfl, rfl, hk, HBU, HBE, HOK⟩ := hrel
    have hzr := (unhide HBE).size
    have hbl := isB_lt (unhide HBU)
    by_cases hltk : k < l.length
    · have i1 : (k : Int) < (l.length : Int) := by omega
      obtain ⟨p', cap', hp', hcs⟩ := (unhide HV).below (unhide HBE)
      obtain ⟨g, o, rfl, hgB, a0, a1, a2, a3, a4, a5⟩ := hcs k hltk
      obtain ⟨rfl, rfl⟩ : p = some ⟨g, o, none⟩ ∧ cap = cap' := by simpa using hp'
      have HPV : Hid (∀ (W : World) (j : Nat), k = j + 1 → Below w.heap.size w W → ∃ h : j < l.length, W.cell? ⟨g, o + j * 6, none⟩ = some (.int .i64 l[j].kind)) := fun W j hj hb => by
        obtain ⟨p2, c2, hp2, hcs2⟩ := (unhide HV).below hb
        have hjl : j < l.length := by omega
        obtain ⟨g2, o2, hpp, _, b0, _⟩ := hcs2 j hjl
        have : (some (⟨g, o, none⟩ : Addr)) = some ⟨g2, o2, none⟩ := by simp at hp2; rw [← hpp, ← hp2.1]
        simp at this
        obtain ⟨rfl, rfl⟩ := this
        exact ⟨hjl, b0⟩
      have hsu := shP_succ hltk
      have hle1 := unhide HLE (k + 1) hltk
      have hxs := unhide HS k hltk
      have hle0 := unhide HLE k hk
      have HOA : Hid (okAt l k = (rightM l[k] && !(decide (0 < k) && (l[k].kind == 4) && (match l[k - 1]? with | some y => y.kind == 4 | none => false)))) := by
        rw [Hid, okAt, List.getElem?_eq_getElem hltk]
      have HNO : Hid (okAt l k = false → R = ([], 2)) := fun h => by rw [← unhide HR]; exact showM_no hltk h
      have HYES : Hid (okAt l k = true → okTo l (k + 1) = true) := fun h => by rw [okTo_succ, unhide HOK, h]; rfl
      rw [hsu, List.length_append, List.length_append] at hle1
      have HSU := hide hsu
      clear hsu hcs hp'
      generalize l[k] = x at *
      obtain ⟨xk, xs, xv, xt, xf, xl⟩ := x
      simp only at a0 a1 a2 a3 a4 a5 hxs HOA
      have hB1 := isB_alloc (unhide HBU) (.cells #[.int .i64 xk, .string ⟨xs.toArray⟩, .int .i64 xv, .int .i64 xt, .string ⟨xf.toArray⟩, .int .i64 xl] 34)
      have hbe1 := (unhide HBE).alloc hzr (.cells #[.int .i64 xk, .string ⟨xs.toArray⟩, .int .i64 xv, .int .i64 xt, .string ⟨xf.toArray⟩, .int .i64 xl] 34)
      have hnew : WBox (wr.alloc (.cells #[.int .i64 xk, .string ⟨xs.toArray⟩, .int .i64 xv, .int .i64 xt, .string ⟨xf.toArray⟩, .int .i64 xl] 34)) wr.heap.size ⟨xk, xs, xv, xt, xf, xl⟩ := WBox.new wr ⟨xk, xs, xv, xt, xf, xl⟩
      go_upto_region 5 with fail
      generalize (wr.alloc _ : World) = W1 at *
      have hbb1 : wr.heap.size < W1.heap.size := hnew.lt
      have hRi := Right_any ⟨xk, xs, xv, xt, xf, xl⟩ W1 (by simp only; omega) (by omega) (Sg.below (unhide HG).sg hbe1 hgs)
      simp only [wdV, wdC] at hRi
      have HRI := hide hRi
      have HSP : Hid (∀ W, Below w.heap.size w W → Calls Tryz.prog 29 #[.agg #[.int .i64 xk, .string ⟨xs.toArray⟩, .int .i64 xv, .int .i64 xt, .string ⟨xf.toArray⟩, .int .i64 xl]] W fun e w' => e = .returned (.string ⟨(splM ⟨xk, xs, xv, xt, xf, xl⟩).toArray⟩) ∧ Below W.heap.size W w') := fun W hb =>
        spelling_any ⟨xk, xs, xv, xt, xf, xl⟩ (fun _ => by simp only; omega) W (Nat.lt_of_lt_of_le hgs hb.size) ((unhide HTB).below hb hgs)
      have HB1 := hide hB1
      have HE1 := hide hbe1
      have HNW := hide hnew
      generalize wr.heap.size = A at *
      obtain ⟨n0, n1, n2, n3, n4, n5⟩ := WBox.six hnew
      clear hnew hB1 hbe1 hRi a0 a1 a2 a3 a4 a5 HBU HBE
      cases hri : rightM ⟨xk, xs, xv, xt, xf, xl⟩
      · have HRR := hide (unhide HNO (by rw [unhide HOA, hri]; rfl))
        rw [hri] at HRI
        clear HNO HYES HOA HSP HPV
        go_wp2_with (go_at_call 14; refine (unhide HRI).mono ?_; rintro e W2 ⟨rfl, hb2⟩)
        go_ret2
        exact ⟨by rw [unhide HRR]; rfl, (unhide HE1).trans (hb2.mono (unhide HE1).size)⟩
      · rw [hri] at HRI
        match k, hltk, hk, HOA, HNO, HYES, HPV, HSU, hle0, hle1, i1, HB1, HRI with
        | 0, hltk, hk, HOA, HNO, HYES, HPV, HSU, hle0, hle1, i1, HB1, HRI =>
          clear HPV HNO
          rw [hri] at HOA
          go_upto_region 7 with (go_at_call 14; refine (unhide HRI).mono ?_; rintro e W2 ⟨rfl, hb2⟩; have hq2 := (unhide HNW).below hb2 hbb1; obtain ⟨m0, m1, m2, m3, m4, m5⟩ := WBox.six hq2; have HN2 := hide hq2; have HB2 := hide (isB_below (unhide HB1) hb2); have HE2 := hide ((unhide HE1).trans (hb2.mono (unhide HE1).size)); clear hq2 hb2)
          go_upto_region 9 with fail
          have HB3 := HB2
          have HE3 := HE2
          have HSP3 := hide (unhide HSP W2 (unhide HE3))
          have HWS : Hid (∀ W, Below W2.heap.size W2 W → Calls Tryz.prog 28 #[.pointer (some ⟨w.heap.size, 0, none⟩), .string ⟨(splM ⟨xk, xs, xv, xt, xf, xl⟩).toArray⟩] W fun e w' => (∃ z, e = .returned z) ∧ Lib.IsBuilderF 59 5 w.heap.size w.heap.size (Lib.byteCells (shP l (0 + 1))) w' ∧ Below w.heap.size W w') := fun W hW => by
            have hB4 := isB_below (unhide HB3) hW
            refine (Tryz.Builder_WriteString_k w.heap.size w.heap.size _ ⟨(splM ⟨xk, xs, xv, xt, xf, xl⟩).toArray⟩ W hB4 (by rw [Lib.byteCells_length, len_toArray]; omega) (Nat.le_trans (unhide HE3).size hW.size)).mono ?_
            rintro e w' ⟨rfl, hb, hbb, _⟩
            refine ⟨⟨_, rfl⟩, ?_, hbb⟩
            rw [strC] at hb
            have e9 := unhide HSU
            simp only [if_true, List.nil_append] at e9
            rw [e9, byteC_app]
            exact .inr hb
          have hzz := (unhide HE3).size
          generalize (⟨(splM ⟨xk, xs, xv, xt, xf, xl⟩).toArray⟩ : ByteArray) = SPB at *
          go_wp2_with (first
            | (go_at_call 29; refine (unhide HSP3).mono ?_; rintro e W5 ⟨rfl, hb5⟩)
            | (go_at_call 28; refine (unhide HWS _ hb5).mono ?_; rintro e W6 ⟨⟨z, rfl⟩, hB6, hb6⟩))
          go_roundg (l.length - (0 + 1))
          case measure => omega
          case rel => exact ⟨0 + 1, rfl, by go_num, by omega, hB6, ((unhide HE3).trans (hb5.mono hzz)).trans hb6, unhide HYES (by have h9 := unhide HOA; first | exact h9 | simpa using h9)⟩
        | j + 1, hltk, hk, HOA, HNO, HYES, HPV, HSU, hle0, hle1, i1, HB1, HRI =>
          have hjp : (0 : Int) < ((j + 1 : Nat) : Int) := by omega
          have hjl0 : j < l.length := by omega
          have HOB : Hid (okAt l (j + 1) = !((xk == 4) && (l[j].kind == 4))) := by
            rw [Hid, unhide HOA, hri]
            simp [List.getElem?_eq_getElem hjl0]
          have HPW : Hid (∀ W, Below w.heap.size w W → W.cell? ⟨g, o + j * 6, none⟩ = some (.int .i64 l[j].kind)) := fun W hb => (unhide HPV W j rfl hb).2
          clear HOA HPV
          generalize l[j].kind = jk at *
          cases x4 : xk == 4
          · have HOA : Hid (okAt l (j + 1) = true) := by rw [Hid, unhide HOB, x4]; rfl
            clear HNO HOB HPW
            go_upto_region 7 with (go_at_call 14; refine (unhide HRI).mono ?_; rintro e W2 ⟨rfl, hb2⟩; have hq2 := (unhide HNW).below hb2 hbb1; obtain ⟨m0, m1, m2, m3, m4, m5⟩ := WBox.six hq2; have HN2 := hide hq2; have HB2 := hide (isB_below (unhide HB1) hb2); have HE2 := hide ((unhide HE1).trans (hb2.mono (unhide HE1).size)); clear hq2 hb2)
            have hbl2 := isB_lt (unhide HB2)
            have HWB := hide (Tryz.Builder_WriteByte_k w.heap.size w.heap.size _ 32 W2 (unhide HB2) (by rw [Lib.byteCells_length]; omega) (unhide HE2).size)
            go_upto_region 9 with (go_at_call 27; refine (unhide HWB).mono ?_; rintro e W3 ⟨rfl, hB3, hb3, ho3⟩)
            have hB3' : Lib.IsBuilderF 59 5 w.heap.size w.heap.size (Lib.byteCells (shP l (j + 1) ++ [32])) W3 := by rw [byteC_app]; exact .inr hB3
            have hN3 : WBox W3 A ⟨xk, xs, xv, xt, xf, xl⟩ := ho3 A _ (unhide HN2) (fun e => by cases e; omega) (fun c fz e => by cases e)
            obtain ⟨y0, y1, y2, y3, y4, y5⟩ := WBox.six hN3
            have HB3 := hide hB3'
            have HE3 := hide ((unhide HE2).trans hb3)
            clear hB3 hb3 ho3 hB3' hN3 m0 m1 m2 m3 m4 m5 HWB
            have HSP3 := hide (unhide HSP W3 (unhide HE3))
            have HWS : Hid (∀ W, Below W3.heap.size W3 W → Calls Tryz.prog 28 #[.pointer (some ⟨w.heap.size, 0, none⟩), .string ⟨(splM ⟨xk, xs, xv, xt, xf, xl⟩).toArray⟩] W fun e w' => (∃ z, e = .returned z) ∧ Lib.IsBuilderF 59 5 w.heap.size w.heap.size (Lib.byteCells (shP l (j + 1 + 1))) w' ∧ Below w.heap.size W w') := fun W hW => by
              have hB4 := isB_below (unhide HB3) hW
              refine (Tryz.Builder_WriteString_k w.heap.size w.heap.size _ ⟨(splM ⟨xk, xs, xv, xt, xf, xl⟩).toArray⟩ W hB4 (by rw [Lib.byteCells_length, len_toArray]; simp; omega) (Nat.le_trans (unhide HE3).size hW.size)).mono ?_
              rintro e w' ⟨rfl, hb, hbb, _⟩
              refine ⟨⟨_, rfl⟩, ?_, hbb⟩
              rw [strC] at hb
              have e9 := unhide HSU
              simp only [Nat.add_eq_zero_iff, Nat.one_ne_zero, and_false, if_false] at e9
              rw [e9, ← List.append_assoc, byteC_app]
              exact .inr hb
            have hzz := (unhide HE3).size
            generalize (⟨(splM ⟨xk, xs, xv, xt, xf, xl⟩).toArray⟩ : ByteArray) = SPB at *
            go_wp2_with (first
              | (go_at_call 29; refine (unhide HSP3).mono ?_; rintro e W5 ⟨rfl, hb5⟩)
              | (go_at_call 28; refine (unhide HWS _ hb5).mono ?_; rintro e W6 ⟨⟨z, rfl⟩, hB6, hb6⟩))
            go_roundg (l.length - (j + 1 + 1))
            case measure => omega
            case rel => exact ⟨j + 1 + 1, rfl, by go_num, by omega, hB6, ((unhide HE3).trans (hb5.mono hzz)).trans hb6, unhide HYES (by have h9 := unhide HOA; first | exact h9 | simpa using h9)⟩
          · cases p4 : jk == 4
            · have HOA : Hid (okAt l (j + 1) = true) := by rw [Hid, unhide HOB, x4, p4]; rfl
              clear HNO HOB
              go_upto_region 7 with (go_at_call 14; refine (unhide HRI).mono ?_; rintro e W2 ⟨rfl, hb2⟩; have hq2 := (unhide HNW).below hb2 hbb1; obtain ⟨m0, m1, m2, m3, m4, m5⟩ := WBox.six hq2; have HN2 := hide hq2; have HB2 := hide (isB_below (unhide HB1) hb2); have HE2 := hide ((unhide HE1).trans (hb2.mono (unhide HE1).size)); have pv := unhide HPW W2 (unhide HE2); clear hq2 hb2)
              have hbl2 := isB_lt (unhide HB2)
              have HWB := hide (Tryz.Builder_WriteByte_k w.heap.size w.heap.size _ 32 W2 (unhide HB2) (by rw [Lib.byteCells_length]; omega) (unhide HE2).size)
              go_upto_region 9 with (go_at_call 27; refine (unhide HWB).mono ?_; rintro e W3 ⟨rfl, hB3, hb3, ho3⟩)
              have hB3' : Lib.IsBuilderF 59 5 w.heap.size w.heap.size (Lib.byteCells (shP l (j + 1) ++ [32])) W3 := by rw [byteC_app]; exact .inr hB3
              have hN3 : WBox W3 A ⟨xk, xs, xv, xt, xf, xl⟩ := ho3 A _ (unhide HN2) (fun e => by cases e; omega) (fun c fz e => by cases e)
              obtain ⟨y0, y1, y2, y3, y4, y5⟩ := WBox.six hN3
              have HB3 := hide hB3'
              have HE3 := hide ((unhide HE2).trans hb3)
              clear hB3 hb3 ho3 hB3' hN3 m0 m1 m2 m3 m4 m5 HWB
              have HSP3 := hide (unhide HSP W3 (unhide HE3))
              have HWS : Hid (∀ W, Below W3.heap.size W3 W → Calls Tryz.prog 28 #[.pointer (some ⟨w.heap.size, 0, none⟩), .string ⟨(splM ⟨xk, xs, xv, xt, xf, xl⟩).toArray⟩] W fun e w' => (∃ z, e = .returned z) ∧ Lib.IsBuilderF 59 5 w.heap.size w.heap.size (Lib.byteCells (shP l (j + 1 + 1))) w' ∧ Below w.heap.size W w') := fun W hW => by
                have hB4 := isB_below (unhide HB3) hW
                refine (Tryz.Builder_WriteString_k w.heap.size w.heap.size _ ⟨(splM ⟨xk, xs, xv, xt, xf, xl⟩).toArray⟩ W hB4 (by rw [Lib.byteCells_length, len_toArray]; simp; omega) (Nat.le_trans (unhide HE3).size hW.size)).mono ?_
                rintro e w' ⟨rfl, hb, hbb, _⟩
                refine ⟨⟨_, rfl⟩, ?_, hbb⟩
                rw [strC] at hb
                have e9 := unhide HSU
                simp only [Nat.add_eq_zero_iff, Nat.one_ne_zero, and_false, if_false] at e9
                rw [e9, ← List.append_assoc, byteC_app]
                exact .inr hb
              have hzz := (unhide HE3).size
              generalize (⟨(splM ⟨xk, xs, xv, xt, xf, xl⟩).toArray⟩ : ByteArray) = SPB at *
              go_wp2_with (first
                | (go_at_call 29; refine (unhide HSP3).mono ?_; rintro e W5 ⟨rfl, hb5⟩)
                | (go_at_call 28; refine (unhide HWS _ hb5).mono ?_; rintro e W6 ⟨⟨z, rfl⟩, hB6, hb6⟩))
              go_roundg (l.length - (j + 1 + 1))
              case measure => omega
              case rel => exact ⟨j + 1 + 1, rfl, by go_num, by omega, hB6, ((unhide HE3).trans (hb5.mono hzz)).trans hb6, unhide HYES (by have h9 := unhide HOA; first | exact h9 | simpa using h9)⟩
            · have HRR := hide (unhide HNO (by rw [unhide HOB, x4, p4]; rfl))
              clear HNO HOB HYES
              go_wp2_with (go_at_call 14; refine (unhide HRI).mono ?_; rintro e W2 ⟨rfl, hb2⟩; have hq2 := (unhide HNW).below hb2 hbb1; obtain ⟨m0, m1, m2, m3, m4, m5⟩ := WBox.six hq2; have HN2 := hide hq2; have HB2 := hide (isB_below (unhide HB1) hb2); have HE2 := hide ((unhide HE1).trans (hb2.mono (unhide HE1).size)); have pv := unhide HPW W2 (unhide HE2); clear hq2 hb2)
              go_ret2
              exact ⟨by rw [unhide HRR]; rfl, unhide HE2⟩
    · have i1 : ¬ (k : Int) < (l.length : Int) := by omega
      have hkl : k = l.length := by omega
      have HST := hide (Tryz.Builder_String_any_k w.heap.size w.heap.size _ wr (unhide HBU) hzr)
      have HRR : Hid (R = (shP l k, 0)) := by rw [Hid, ← unhide HR, showM, hkl]; rw [hkl] at HOK; rw [unhide HOK]; rfl
      clear hkl
      go_wp2_with (go_at_call 30; refine (unhide HST).mono ?_; rintro e W3 ⟨rfl, _, hb3, _⟩)
      go_ret2
      exact ⟨by rw [unhide HRR]; rfl, (unhide HBE).trans hb3⟩
end Go.Proofs.YtnpjgamfjfmjjaaGreatDoor
