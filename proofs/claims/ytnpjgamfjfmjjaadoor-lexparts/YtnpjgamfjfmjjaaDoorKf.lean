/-
  burinlaw07.LexParts: the walk.
-/
import Derived.Test.YtnpjgamfjfmjjaaDoorKc
import Derived.Test.YtnpjgamfjfmjjaaDoorKd
import Derived.Test.YtnpjgamfjfmjjaaDoorKe
import Derived.Test.YtnpjgamfjfmjjaaDoorSt
import Derived.Test.YtnpjgamfjfmjjaaDoorXl
namespace Go.Proofs.YtnpjgamfjfmjjaaDoor
open Go Go.RowKit
set_option linter.unusedVariables false
set_option linter.unusedSimpArgs false

theorem caOK_long (s : List UInt8) (a b : UInt8) (ha : a.toNat < 128) (hb : b.toNat < 128) (h8 : 8 < s.length) (hs : s.length ≤ 140737488355328) : CaOK s a b := by
  intro w
  have hI := any_long ⟨s.toArray⟩ a b ha hb (by rw [len_toArray]; exact h8) (by rw [len_toArray]; exact hs) w
  rw [show (⟨s.toArray⟩ : ByteArray).data.toList = s from by simp] at hI
  have HI := hide hI
  rw [← containsAny_is]
  unfold Lib.containsAny
  clear hI
  generalize Lib.indexAny s [a, b] = R at *
  go_enter Tryd.func37, Tryd.ntmps37
  go_wp2_with (go_at_call 51; refine (unhide HI).mono ?_; rintro e w' ⟨rfl, hw'⟩)
  go_ret
  exact ⟨rfl, hw'⟩
theorem tok_all (t : Gt) (h : t.s.length ≤ 140737488355320) : TokOK t := by
  by_cases h8 : t.s.length ≤ 8
  · exact ⟨by omega, fun _ _ => caOK_crlf t.s (by omega), fun _ hn => ⟨numM_ne hn, caOK_ascii _ _ _ (by omega) (num_ascii hn) (by decide) (by decide), caOK_ascii _ _ _ (by omega) (num_ascii hn) (by decide) (by decide)⟩⟩
  · exact ⟨by omega, fun _ _ => caOK_long _ _ _ (by decide) (by decide) (by omega) (by omega), fun _ hn => ⟨numM_ne hn, caOK_long _ _ _ (by decide) (by decide) (by omega) (by omega), caOK_long _ _ _ (by decide) (by decide) (by omega) (by omega)⟩⟩
theorem infoT : (Tryd.prog.info? 25).map (fun i => (i.zero, i.size, i.bytes)) = some (some (.agg #[.int .i64 0, .string ⟨#[]⟩, .string ⟨#[]⟩, .int .i64 0, .bool false, .bool false]), 6, 56) := by kernel_rfl
theorem infoW : (Tryd.prog.info? 32).map (fun i => (i.zero, i.size, i.bytes)) = some (some (.agg #[.int .i64 0, .string ⟨#[]⟩, .int .i64 0, .int .i64 0, .string ⟨#[]⟩, .int .i64 0]), 6, 64) := by kernel_rfl
set_option maxRecDepth 100000 in
set_option maxHeartbeats 16000000 in
/-- What follows where not both have texts at the seam. -/
theorem parts_x (p : Option Addr) (cap : Nat) (L : List Gt) (w : World) (hcap : L.length ≤ cap) (hcm : cap ≤ maxLen) (hpn : p = none → cap = 0) (hv : TkG w.heap.size w (.slice p L.length cap) L)
    (q : Option Addr) (cbp : Nat) (M : List Gt) (hcap2 : M.length ≤ cbp) (hcm2 : cbp ≤ maxLen) (hqn : q = none → cbp = 0) (hv2 : TkG w.heap.size w (.slice q M.length cbp) M)
    (hs : ∀ t ∈ L ++ M, t.s.length ≤ 140737488355320) (hgl : Gl w) :
    Calls Tryd.prog 3 #[.slice p L.length cap, .slice q M.length cbp] w fun e w' => e = .returned (.bool true) ∧ Below w.heap.size w w' := by
  have HSH := hide (shown_any w hgl)
  obtain ⟨i0, hi0, zt, st, bt⟩ := info_parts infoT
  obtain ⟨i1, hi1, zw, sw, bw⟩ := info_parts infoW
  have hcm' : cap ≤ 9223372036854775807 := hcm
  have hcm2' : cbp ≤ 9223372036854775807 := hcm2
  have HM : ∀ (N : Nat) (c : Nat), N ≤ c → Hid (∃ n : Nat, min (N : Int) 1000 = (n : Int) ∧ (n : Int) ≤ (c : Int) ∧ n ≤ N ∧ n ≤ 1000) := fun N c hNc => by
    by_cases h : N ≤ 1000
    · exact ⟨N, by omega, by omega, Nat.le_refl _, h⟩
    · exact ⟨1000, by omega, by omega, by omega, by omega⟩
  obtain ⟨n, hmin, hnc, hnl, hn1⟩ := unhide (HM L.length cap hcap)
  obtain ⟨k, hmin2, hkc, hkl, hk1⟩ := unhide (HM M.length cbp hcap2)
  clear HM
  have hT : TkG w.heap.size w (.slice p (L.take n).length cap) (L.take n) := by
    obtain ⟨p', cap', he, hc⟩ := hv
    obtain ⟨rfl, rfl⟩ : p = p' ∧ cap = cap' := by simpa using he
    refine ⟨p, cap, rfl, fun i hi => ?_⟩
    have hi' : i < n := by simp at hi; omega
    obtain ⟨g, o, hg, hr⟩ := hc i (by omega)
    refine ⟨g, o, hg, ?_⟩
    rw [List.getElem_take]
    exact hr
  have hU : TkG w.heap.size w (.slice q (M.take k).length cbp) (M.take k) := by
    obtain ⟨p', cap', he, hc⟩ := hv2
    obtain ⟨rfl, rfl⟩ : q = p' ∧ cbp = cap' := by simpa using he
    refine ⟨q, cbp, rfl, fun i hi => ?_⟩
    have hi' : i < k := by simp at hi; omega
    obtain ⟨g, o, hg, hr⟩ := hc i (by omega)
    refine ⟨g, o, hg, ?_⟩
    rw [List.getElem_take]
    exact hr
  have hln : (L.take n).length = n := by simp; omega
  have hlk : (M.take k).length = k := by simp; omega
  have hs1 : ∀ t ∈ L.take n, TokOK t := fun t ht => tok_all t (hs t (List.mem_append.2 (.inl (List.mem_of_mem_take ht))))
  have hs2 : ∀ t ∈ M.take k, TokOK t := fun t ht => tok_all t (hs t (List.mem_append.2 (.inr (List.mem_of_mem_take ht))))
  have hlm : ∀ t ∈ L.take n ++ M.take k, t.s.length ≤ 140737488355320 := fun t ht => by
    rcases List.mem_append.1 ht with h | h
    · exact hs t (List.mem_append.2 (.inl (List.mem_of_mem_take h)))
    · exact hs t (List.mem_append.2 (.inr (List.mem_of_mem_take h)))
  generalize L.take n = l at *
  generalize M.take k = m at *
  have HW1 : Hid (∀ W, Below w.heap.size w W → Calls Tryd.prog 5 #[.slice p n cap] W fun e w' => ∃ v', e = .returned (.tuple #[v', .int .i64 (wsM l).2.1, .string ⟨(wsM l).2.2.1.toArray⟩, .int .i64 (wsM l).2.2.2]) ∧ w'.ownsRow W.heap.size 32 6 v' (wsM l).1.length (wdCells (wsM l).1) ∧ Below W.heap.size W w') := fun W hb => by
    have := Words_any p cap l W (by omega) (by omega) ((hT.below hb).mono hb.size) hs1 (hgl.next hb)
    rw [hln] at this; exact this
  have HW2 : Hid (∀ W, Below w.heap.size w W → Calls Tryd.prog 5 #[.slice q k cbp] W fun e w' => ∃ v', e = .returned (.tuple #[v', .int .i64 (wsM m).2.1, .string ⟨(wsM m).2.2.1.toArray⟩, .int .i64 (wsM m).2.2.2]) ∧ w'.ownsRow W.heap.size 32 6 v' (wsM m).1.length (wdCells (wsM m).1) ∧ Below W.heap.size W w') := fun W hb => by
    have := Words_any q cbp m W (by omega) (by omega) ((hU.below hb).mono hb.size) hs2 (hgl.next hb)
    rw [hlk] at this; exact this
  have hsl : ∀ t ∈ l ++ m, t.s.length ≤ 140737488355320 := hlm
  have HWC : Hid (∀ W v base, W.ownsRow base 25 6 v (0 + n + k) ([] ++ gtCells l ++ gtCells m) → Below w.heap.size w W → Calls Tryd.prog 5 #[v] W fun e w' => ∃ v', e = .returned (.tuple #[v', .int .i64 (wsM (l ++ m)).2.1, .string ⟨(wsM (l ++ m)).2.2.1.toArray⟩, .int .i64 (wsM (l ++ m)).2.2.2]) ∧ w'.ownsRow W.heap.size 32 6 v' (wsM (l ++ m)).1.length (wdCells (wsM (l ++ m)).1) ∧ Below W.heap.size W w') := fun W v base h hb => by
    rw [List.nil_append, ← gtCells_app] at h
    have hn2 : 0 + n + k = (l ++ m).length := by rw [List.length_append, hln, hlk]; omega
    have hG := TkG.of h hn2
    have hok : ∀ t ∈ l ++ m, TokOK t := fun t ht => tok_all t (hsl t ht)
    rw [hn2] at h
    rcases h.2 with ⟨rfl, h0⟩ | ⟨g, cp, cur, rfl, _, _, hle, _⟩
    · have hG' : TkG W.heap.size W (.slice none (l ++ m).length 0) (l ++ m) := by rw [h0]; exact hG
      have := Words_any none 0 (l ++ m) W (by omega) (by omega) hG' hok (hgl.next hb)
      rw [h0] at this; exact this
    · exact Words_any _ cp (l ++ m) W (by rw [List.length_append]; omega) hle hG hok (hgl.next hb)
  have HRI : Hid (∀ x ∈ (wsM (l ++ m)).1, ∀ W, Below w.heap.size w W → Calls Tryd.prog 6 #[wdV x] W fun e w' => e = .returned (.bool true) ∧ Below W.heap.size W w') := fun x hx W hb => by
    have := Right_any x W (by have := ws_slen _ hsl x hx; omega) (Nat.lt_of_lt_of_le hgl.size hb.size) (Sg.below hgl.sg hb hgl.size)
    rw [ws_right _ x hx] at this; exact this
  have HWL : Hid ((wsM l).1.length ≤ 1000 ∧ (wsM m).1.length ≤ 1000 ∧ (wsM (l ++ m)).1.length ≤ 2000) := by
    have a := ws_len l; have b := ws_len m; have c := ws_len (l ++ m)
    rw [List.length_append] at c
    exact ⟨by omega, by omega, by omega⟩
  have HAP : Hid (Seam l m → ((wsM l).2.1 = 0 ∧ (wsM m).2.1 = 0 ∧ (wsM (l ++ m)).2.1 = 0 ∧ (wsM (l ++ m)).1 = (wsM l).1 ++ (wsM m).1) ∨ (((wsM l).2.1 = 70 ∨ ((wsM l).2.1 = 0 ∧ (wsM m).2.1 = 70)) ∧ (wsM (l ++ m)).2.1 = 70)) := fun h => by
    rcases wsM_app l m h with h1 | ⟨h1 | h1, h2⟩
    · exact .inl h1
    · exact .inr ⟨.inl h1, h2⟩
    · rcases ws_err l with h3 | h3
      · exact .inr ⟨.inr ⟨h3, h1⟩, h2⟩
      · exact .inr ⟨.inl h3, h2⟩
  have HSL : Hid (∀ W, Below w.heap.size w W → Src W (.slice p n cap) n (gtCells l)) := fun W hb => by
    have := src_tok (hT.below hb) hpn
    rw [hln] at this; exact this
  have HSM : Hid (∀ W, Below w.heap.size w W → Src W (.slice q k cbp) k (gtCells m)) := fun W hb => by
    have := src_tok (hU.below hb) hqn
    rw [hlk] at this; exact this
  have HT := hide hT
  have HU := hide hU
  have HGL := hide hgl
  have HLN := hide hln
  have HLK := hide hlk
  clear hT hU hgl hv hv2 hs hs1 hs2 hsl hlm hln hlk hcm hcm2 hpn hqn hcap hcap2
  have hn0 : (0 : Int) ≤ (n : Int) := by omega
  have hk0 : (0 : Int) ≤ (k : Int) := by omega
  go_enter Tryd.func3, Tryd.ntmps3
  go_wp2_with fail
  refine (unhide HSH).mono ?_
  rintro e W1 ⟨rfl, hb1⟩
  have HB1 := hide hb1
  clear hb1 HSH
  by_cases hn : n = 0
  · have HHN := hide hn
    have HSE : Hid (Seam l m) := fun t u ht _ => by
      have : l = [] := List.length_eq_zero_iff.1 ((unhide HLN).trans (unhide HHN))
      rw [this] at ht; simp at ht
    have z1 : ¬ (0 : Int) < (n : Int) := by omega
    clear hn
    go_upto_region 6 with fail
    have H1 := hide (unhide HW1 W1 (unhide HB1))
    clear HW1
    go_wp2_with fail
    refine (unhide H1).mono ?_
    rintro e W2 ⟨va, rfl, hra, hb2⟩
    have HRA := hide hra
    have HB2 : Hid (Below w.heap.size w W2) := (unhide HB1).trans (hb2.mono (unhide HB1).size)
    have H2 := hide (unhide HW2 W2 (unhide HB2))
    clear hra hb2 HB1 H1 HW2
    go_wp2_with fail
    refine (unhide H2).mono ?_
    rintro e W3 ⟨vb, rfl, hrb, hb3⟩
    have HRA3 := hide (row_below' (unhide HRA) hb3)
    have HRB3 := hide hrb
    have HB3 : Hid (Below w.heap.size w W3) := (unhide HB2).trans (hb3.mono (unhide HB2).size)
    have hz3 : w.heap.size ≤ W3.heap.size := (unhide HB3).size
    clear hrb hb3 HB2 H2 HRA
    obtain ⟨W4, hmk, hr4, hg4⟩ := run_make_own (P := Tryd.prog) W3 W3.heap.size 22 25 i0 _ 6 Tryd.underlying22 hi0 zt st .i64 .i64 (n + k) (by rw [bt]; omega) (by unfold maxLen; omega) (Nat.le_refl _)
    simp only [Int.natCast_add] at hmk
    have hb4 : Below W3.heap.size W3 W4 := (Below.refl _ _).grown hg4 (Nat.le_refl _) (fun r e => by cases e)
    have HB4 : Hid (Below w.heap.size w W4) := (unhide HB3).trans (hb4.mono hz3)
    have hz4 := hb4.size
    have HB34 := hide hb4
    have hS4 := unhide HSL W4 (unhide HB4)
    clear hb4 hg4
    generalize hN3 : W3.heap.size = N3 at *
    have HN3 := hide hN3
    clear hN3
    go_upto_region 8 with fail
    go_upto_region 9 with (first
      | (at_builtin; refine append_src _ rfl _ _ 22 rfl N3 25 i0 _ 56 Tryd.underlying22 hi0 zt st bt rfl _ _ _ rfl hr4 _ _ _ rfl hS4 (by unfold maxLen; omega) (by omega) hz4 ?_; intro v5 W5 hown5 hgrow5; have hb5 := (unhide HB34).grown hgrow5 hz4 (fun r e => (row_turn hr4 r e).1); have hz5 : N3 ≤ W5.heap.size := Nat.le_trans hz4 hgrow5.size; have hS5 := unhide HSM W5 ((unhide HB3).trans (hb5.mono hz3)); have HB35 := hide hb5; clear hr4 hS4 hb5)
      | (at_builtin; refine append_src _ rfl _ _ 22 rfl N3 25 i0 _ 56 Tryd.underlying22 hi0 zt st bt rfl _ _ _ rfl hown5 _ _ _ rfl hS5 (by unfold maxLen; omega) (by omega) hz5 ?_; intro v6 W6 hown6 hgrow6)
      | (go_at_call 5; have hb6 := (unhide HB35).grown hgrow6 hz5 (fun r e => (row_turn hown5 r e).1); have HB36 := hide hb6; have HB6 : Hid (Below w.heap.size w W6) := (unhide HB3).trans (hb6.mono hz3); refine (unhide HWC W6 v6 N3 hown6 (unhide HB6)).mono ?_; rintro e W7 ⟨vc, rfl, hrc, hb7⟩; clear hb6))
    have hz36 : W3.heap.size ≤ W6.heap.size := (unhide HB36).size
    have HRA7 := hide (row_below' (row_below' (unhide HRA3) (show Below W3.heap.size W3 W6 from (by rw [unhide HN3]; exact unhide HB36))) hb7)
    have HRB7 := hide (row_below' (row_below' (unhide HRB3) (show Below W3.heap.size W3 W6 from (by rw [unhide HN3]; exact unhide HB36))) hb7)
    have HB7 : Hid (Below w.heap.size w W7) := (unhide HB6).trans (hb7.mono (unhide HB6).size)
    have HGC := hide (WdG.of hrc rfl)
    clear hrc hb7 hown5 hgrow5 hown6 hgrow6 hz36 hS5 hmk
    rcases unhide HAP (unhide HSE) with ⟨ea, eb, ec, happ⟩ | ⟨ea | ⟨ea, eb⟩, ec⟩
    · rw [ea, eb, ec]
      have HCL : Hid (∀ x ∈ (wsM l).1 ++ (wsM m).1, ∀ W, Below w.heap.size w W → Calls Tryd.prog 6 #[wdV x] W fun e w' => e = .returned (.bool true) ∧ Below W.heap.size W w') := by rw [Hid, ← happ]; exact unhide HRI
      rw [happ] at HGC
      obtain ⟨hwa, hwb, _⟩ := unhide HWL
      clear HAP HSE HRI HWL HWC HSL HSM ea eb ec happ HB36 HB35 HB34 HB6 HB4 HB3 HRA3 HRB3
      generalize (wsM l).1 = A at *
      generalize (wsM m).1 = B at *
      have HCE : Hid (∃ C, C = A ++ B) := ⟨_, rfl⟩
      obtain ⟨C, hC⟩ := unhide HCE
      have hcl : C.length = A.length + B.length := by rw [hC, List.length_append]
      have HC := hide hC
      have hcb : C.length ≤ 2000 := by omega
      have HHCL := hide hcl
      clear hcl
      obtain ⟨pa, ca, rfl, _⟩ := WdG.of (unhide HRA7) rfl
      obtain ⟨pb, cb, rfl, _⟩ := WdG.of (unhide HRB7) rfl
      rw [← hC] at HGC HCL
      clear hC HCE
      obtain ⟨pc, cc, rfl, _⟩ := unhide HGC
      go_wp2
      go_loopg [18] C.length (fun gk i wr => ∃ j : Nat, gk = C.length - j ∧ i = .int .i64 (j : Int) ∧ j ≤ C.length ∧ Hid (Below W7.heap.size W7 wr))
      case atStart => exact ⟨0, rfl, rfl, Nat.zero_le _, Below.refl _ _⟩
      case round =>
        obtain ⟨j, rfl, rfl, hj, HBR⟩ := hrel
        have HBW : Hid (Below w.heap.size w wr) := (unhide HB7).trans ((unhide HBR).mono (unhide HB7).size)
        by_cases hlt : j < C.length
        · have i9 : (j : Int) < (C.length : Int) := by omega
          obtain ⟨g, o, rfl, hgB, a0, a1, a2, a3, a4, a5⟩ := ((unhide HGC).below (unhide HBR)).at (i := j) hlt
          have h1 := unhide HCL C[j] (List.getElem_mem hlt) wr (unhide HBW)
          generalize C[j] = x at *
          obtain ⟨xk, xs, xv, xt, xf, xl⟩ := x
          simp only [wdV, wdC] at h1
          simp only at a0 a1 a2 a3 a4 a5
          generalize (⟨xs.toArray⟩ : ByteArray) = XS at *
          generalize (⟨xf.toArray⟩ : ByteArray) = XF at *
          have H1 := hide h1
          clear h1
          go_wp2_with (go_at_call 6; refine (unhide H1).mono ?_; rintro e W8 ⟨rfl, hb8⟩)
          go_roundg (C.length - (j + 1))
          case measure => omega
          case rel => exact ⟨j + 1, rfl, by go_num, by omega, (unhide HBR).trans (hb8.mono (unhide HBR).size)⟩
        · have i9 : ¬ (j : Int) < (C.length : Int) := by omega
          obtain rfl : j = C.length := by omega
          have hzw : w.heap.size ≤ wr.heap.size := (unhide HBW).size
          obtain ⟨W9, hmk9, hr9, hg9⟩ := run_make_own (P := Tryd.prog) wr wr.heap.size 26 32 i1 _ 6 Tryd.underlying26 hi1 zw sw .i64 .i64 (A.length + B.length) (by rw [bw]; omega) (by unfold maxLen; omega) (Nat.le_refl _)
          simp only [Int.natCast_add] at hmk9
          have hb9 : Below wr.heap.size wr W9 := (Below.refl _ _).grown hg9 (Nat.le_refl _) (fun r e => by cases e)
          have HSB : Hid (∀ W, Below wr.heap.size wr W → Src W (.slice pb B.length cb) B.length (wdCells B)) := fun W hb => src_row (row_below' (row_below' (unhide HRB7) (unhide HBR)) hb) (wd_one B)
          have hS9 := src_row (row_below' (row_below' (unhide HRA7) (unhide HBR)) hb9) (wd_one A)
          have hz9 := hb9.size
          have HGW : Hid (∀ W, Below wr.heap.size wr W → WdG W.heap.size W (.slice pc C.length cc) C) := fun W hb => by
            have h1 := (unhide HGC).below (unhide HBR)
            have h2 := (h1.mono (unhide HBR).size).below hb
            exact h2.mono hb.size
          have HAL : Hid (∀ W v, W.ownsRow wr.heap.size 32 6 v (0 + A.length + B.length) ([] ++ wdCells A ++ wdCells B) → WdG W.heap.size W v C) := fun W v h => by
            rw [List.nil_append, ← wdCells_app, ← unhide HC] at h
            exact WdG.of h (by rw [unhide HHCL]; omega)
          have HB99 := hide hb9
          clear hb9 hg9
          generalize hN8 : wr.heap.size = N8 at *
          have HN8 := hide hN8
          clear hN8
          go_wp2_with (first
            | (at_builtin; refine append_src _ rfl _ _ 26 rfl N8 32 i1 _ 64 Tryd.underlying26 hi1 zw sw bw rfl _ _ _ rfl hr9 _ _ _ rfl hS9 (by unfold maxLen; omega) (by omega) hz9 ?_; intro v10 W10 hown10 hgrow10; have hb10 := (unhide HB99).grown hgrow10 hz9 (fun r e => (row_turn hr9 r e).1); have hz10 : N8 ≤ W10.heap.size := Nat.le_trans hz9 hgrow10.size; have hS10 := unhide HSB W10 hb10; have HB10 := hide hb10; clear hr9 hS9 hb10)
            | (at_builtin; refine append_src _ rfl _ _ 26 rfl N8 32 i1 _ 64 Tryd.underlying26 hi1 zw sw bw rfl _ _ _ rfl hown10 _ _ _ rfl hS10 (by unfold maxLen; omega) (by omega) hz10 ?_; intro v11 W11 hown11 hgrow11)
            | (go_at_call 7; have hb11 := (unhide HB10).grown hgrow11 hz10 (fun r e => (row_turn hown10 r e).1); have HB11 := hide hb11; refine (rsame_eq _ v11 C _ _ W11 (by omega) (unhide HGW W11 hb11) (unhide HAL W11 v11 hown11)).mono ?_; rintro e W12 ⟨rfl, mm, hw12⟩; have HW12 := hide hw12; clear hw12 hb11))
          go_ret
          exact ⟨rfl, by rw [unhide HW12]; exact below_drewN ((unhide HBW).trans ((unhide HB11).mono hzw)) mm⟩
    · rw [ea, ec]
      go_wp2
      go_ret
      exact ⟨rfl, unhide HB7⟩
    · rw [ea, eb, ec]
      go_wp2
      go_ret
      exact ⟨rfl, unhide HB7⟩
  · by_cases hk : k = 0
    · have HHK := hide hk
      have HSE : Hid (Seam l m) := fun t u _ hu => by
        have : m = [] := List.length_eq_zero_iff.1 ((unhide HLK).trans (unhide HHK))
        rw [this] at hu; simp at hu
      have z1 : (0 : Int) < (n : Int) := by omega
      have z2 : ¬ (0 : Int) < (k : Int) := by omega
      clear hn hk
      go_upto_region 6 with fail
      have H1 := hide (unhide HW1 W1 (unhide HB1))
      clear HW1
      go_wp2_with fail
      refine (unhide H1).mono ?_
      rintro e W2 ⟨va, rfl, hra, hb2⟩
      have HRA := hide hra
      have HB2 : Hid (Below w.heap.size w W2) := (unhide HB1).trans (hb2.mono (unhide HB1).size)
      have H2 := hide (unhide HW2 W2 (unhide HB2))
      clear hra hb2 HB1 H1 HW2
      go_wp2_with fail
      refine (unhide H2).mono ?_
      rintro e W3 ⟨vb, rfl, hrb, hb3⟩
      have HRA3 := hide (row_below' (unhide HRA) hb3)
      have HRB3 := hide hrb
      have HB3 : Hid (Below w.heap.size w W3) := (unhide HB2).trans (hb3.mono (unhide HB2).size)
      have hz3 : w.heap.size ≤ W3.heap.size := (unhide HB3).size
      clear hrb hb3 HB2 H2 HRA
      obtain ⟨W4, hmk, hr4, hg4⟩ := run_make_own (P := Tryd.prog) W3 W3.heap.size 22 25 i0 _ 6 Tryd.underlying22 hi0 zt st .i64 .i64 (n + k) (by rw [bt]; omega) (by unfold maxLen; omega) (Nat.le_refl _)
      simp only [Int.natCast_add] at hmk
      have hb4 : Below W3.heap.size W3 W4 := (Below.refl _ _).grown hg4 (Nat.le_refl _) (fun r e => by cases e)
      have HB4 : Hid (Below w.heap.size w W4) := (unhide HB3).trans (hb4.mono hz3)
      have hz4 := hb4.size
      have HB34 := hide hb4
      have hS4 := unhide HSL W4 (unhide HB4)
      clear hb4 hg4
      generalize hN3 : W3.heap.size = N3 at *
      have HN3 := hide hN3
      clear hN3
      go_upto_region 8 with fail
      go_upto_region 9 with (first
        | (at_builtin; refine append_src _ rfl _ _ 22 rfl N3 25 i0 _ 56 Tryd.underlying22 hi0 zt st bt rfl _ _ _ rfl hr4 _ _ _ rfl hS4 (by unfold maxLen; omega) (by omega) hz4 ?_; intro v5 W5 hown5 hgrow5; have hb5 := (unhide HB34).grown hgrow5 hz4 (fun r e => (row_turn hr4 r e).1); have hz5 : N3 ≤ W5.heap.size := Nat.le_trans hz4 hgrow5.size; have hS5 := unhide HSM W5 ((unhide HB3).trans (hb5.mono hz3)); have HB35 := hide hb5; clear hr4 hS4 hb5)
        | (at_builtin; refine append_src _ rfl _ _ 22 rfl N3 25 i0 _ 56 Tryd.underlying22 hi0 zt st bt rfl _ _ _ rfl hown5 _ _ _ rfl hS5 (by unfold maxLen; omega) (by omega) hz5 ?_; intro v6 W6 hown6 hgrow6)
        | (go_at_call 5; have hb6 := (unhide HB35).grown hgrow6 hz5 (fun r e => (row_turn hown5 r e).1); have HB36 := hide hb6; have HB6 : Hid (Below w.heap.size w W6) := (unhide HB3).trans (hb6.mono hz3); refine (unhide HWC W6 v6 N3 hown6 (unhide HB6)).mono ?_; rintro e W7 ⟨vc, rfl, hrc, hb7⟩; clear hb6))
      have hz36 : W3.heap.size ≤ W6.heap.size := (unhide HB36).size
      have HRA7 := hide (row_below' (row_below' (unhide HRA3) (show Below W3.heap.size W3 W6 from (by rw [unhide HN3]; exact unhide HB36))) hb7)
      have HRB7 := hide (row_below' (row_below' (unhide HRB3) (show Below W3.heap.size W3 W6 from (by rw [unhide HN3]; exact unhide HB36))) hb7)
      have HB7 : Hid (Below w.heap.size w W7) := (unhide HB6).trans (hb7.mono (unhide HB6).size)
      have HGC := hide (WdG.of hrc rfl)
      clear hrc hb7 hown5 hgrow5 hown6 hgrow6 hz36 hS5 hmk
      rcases unhide HAP (unhide HSE) with ⟨ea, eb, ec, happ⟩ | ⟨ea | ⟨ea, eb⟩, ec⟩
      · rw [ea, eb, ec]
        have HCL : Hid (∀ x ∈ (wsM l).1 ++ (wsM m).1, ∀ W, Below w.heap.size w W → Calls Tryd.prog 6 #[wdV x] W fun e w' => e = .returned (.bool true) ∧ Below W.heap.size W w') := by rw [Hid, ← happ]; exact unhide HRI
        rw [happ] at HGC
        obtain ⟨hwa, hwb, _⟩ := unhide HWL
        clear HAP HSE HRI HWL HWC HSL HSM ea eb ec happ HB36 HB35 HB34 HB6 HB4 HB3 HRA3 HRB3
        generalize (wsM l).1 = A at *
        generalize (wsM m).1 = B at *
        have HCE : Hid (∃ C, C = A ++ B) := ⟨_, rfl⟩
        obtain ⟨C, hC⟩ := unhide HCE
        have hcl : C.length = A.length + B.length := by rw [hC, List.length_append]
        have HC := hide hC
        have hcb : C.length ≤ 2000 := by omega
        have HHCL := hide hcl
        clear hcl
        obtain ⟨pa, ca, rfl, _⟩ := WdG.of (unhide HRA7) rfl
        obtain ⟨pb, cb, rfl, _⟩ := WdG.of (unhide HRB7) rfl
        rw [← hC] at HGC HCL
        clear hC HCE
        obtain ⟨pc, cc, rfl, _⟩ := unhide HGC
        go_wp2
        go_loopg [18] C.length (fun gk i wr => ∃ j : Nat, gk = C.length - j ∧ i = .int .i64 (j : Int) ∧ j ≤ C.length ∧ Hid (Below W7.heap.size W7 wr))
        case atStart => exact ⟨0, rfl, rfl, Nat.zero_le _, Below.refl _ _⟩
        case round =>
          obtain ⟨j, rfl, rfl, hj, HBR⟩ := hrel
          have HBW : Hid (Below w.heap.size w wr) := (unhide HB7).trans ((unhide HBR).mono (unhide HB7).size)
          by_cases hlt : j < C.length
          · have i9 : (j : Int) < (C.length : Int) := by omega
            obtain ⟨g, o, rfl, hgB, a0, a1, a2, a3, a4, a5⟩ := ((unhide HGC).below (unhide HBR)).at (i := j) hlt
            have h1 := unhide HCL C[j] (List.getElem_mem hlt) wr (unhide HBW)
            generalize C[j] = x at *
            obtain ⟨xk, xs, xv, xt, xf, xl⟩ := x
            simp only [wdV, wdC] at h1
            simp only at a0 a1 a2 a3 a4 a5
            generalize (⟨xs.toArray⟩ : ByteArray) = XS at *
            generalize (⟨xf.toArray⟩ : ByteArray) = XF at *
            have H1 := hide h1
            clear h1
            go_wp2_with (go_at_call 6; refine (unhide H1).mono ?_; rintro e W8 ⟨rfl, hb8⟩)
            go_roundg (C.length - (j + 1))
            case measure => omega
            case rel => exact ⟨j + 1, rfl, by go_num, by omega, (unhide HBR).trans (hb8.mono (unhide HBR).size)⟩
          · have i9 : ¬ (j : Int) < (C.length : Int) := by omega
            obtain rfl : j = C.length := by omega
            have hzw : w.heap.size ≤ wr.heap.size := (unhide HBW).size
            obtain ⟨W9, hmk9, hr9, hg9⟩ := run_make_own (P := Tryd.prog) wr wr.heap.size 26 32 i1 _ 6 Tryd.underlying26 hi1 zw sw .i64 .i64 (A.length + B.length) (by rw [bw]; omega) (by unfold maxLen; omega) (Nat.le_refl _)
            simp only [Int.natCast_add] at hmk9
            have hb9 : Below wr.heap.size wr W9 := (Below.refl _ _).grown hg9 (Nat.le_refl _) (fun r e => by cases e)
            have HSB : Hid (∀ W, Below wr.heap.size wr W → Src W (.slice pb B.length cb) B.length (wdCells B)) := fun W hb => src_row (row_below' (row_below' (unhide HRB7) (unhide HBR)) hb) (wd_one B)
            have hS9 := src_row (row_below' (row_below' (unhide HRA7) (unhide HBR)) hb9) (wd_one A)
            have hz9 := hb9.size
            have HGW : Hid (∀ W, Below wr.heap.size wr W → WdG W.heap.size W (.slice pc C.length cc) C) := fun W hb => by
              have h1 := (unhide HGC).below (unhide HBR)
              have h2 := (h1.mono (unhide HBR).size).below hb
              exact h2.mono hb.size
            have HAL : Hid (∀ W v, W.ownsRow wr.heap.size 32 6 v (0 + A.length + B.length) ([] ++ wdCells A ++ wdCells B) → WdG W.heap.size W v C) := fun W v h => by
              rw [List.nil_append, ← wdCells_app, ← unhide HC] at h
              exact WdG.of h (by rw [unhide HHCL]; omega)
            have HB99 := hide hb9
            clear hb9 hg9
            generalize hN8 : wr.heap.size = N8 at *
            have HN8 := hide hN8
            clear hN8
            go_wp2_with (first
              | (at_builtin; refine append_src _ rfl _ _ 26 rfl N8 32 i1 _ 64 Tryd.underlying26 hi1 zw sw bw rfl _ _ _ rfl hr9 _ _ _ rfl hS9 (by unfold maxLen; omega) (by omega) hz9 ?_; intro v10 W10 hown10 hgrow10; have hb10 := (unhide HB99).grown hgrow10 hz9 (fun r e => (row_turn hr9 r e).1); have hz10 : N8 ≤ W10.heap.size := Nat.le_trans hz9 hgrow10.size; have hS10 := unhide HSB W10 hb10; have HB10 := hide hb10; clear hr9 hS9 hb10)
              | (at_builtin; refine append_src _ rfl _ _ 26 rfl N8 32 i1 _ 64 Tryd.underlying26 hi1 zw sw bw rfl _ _ _ rfl hown10 _ _ _ rfl hS10 (by unfold maxLen; omega) (by omega) hz10 ?_; intro v11 W11 hown11 hgrow11)
              | (go_at_call 7; have hb11 := (unhide HB10).grown hgrow11 hz10 (fun r e => (row_turn hown10 r e).1); have HB11 := hide hb11; refine (rsame_eq _ v11 C _ _ W11 (by omega) (unhide HGW W11 hb11) (unhide HAL W11 v11 hown11)).mono ?_; rintro e W12 ⟨rfl, mm, hw12⟩; have HW12 := hide hw12; clear hw12 hb11))
            go_ret
            exact ⟨rfl, by rw [unhide HW12]; exact below_drewN ((unhide HBW).trans ((unhide HB11).mono hzw)) mm⟩
      · rw [ea, ec]
        go_wp2
        go_ret
        exact ⟨rfl, unhide HB7⟩
      · rw [ea, eb, ec]
        go_wp2
        go_ret
        exact ⟨rfl, unhide HB7⟩
    · have hnl0 : n - 1 < l.length := by rw [unhide HLN]; omega
      have hml0 : 0 < m.length := by rw [unhide HLK]; omega
      obtain ⟨pp, cp, hpp, hcs⟩ := (unhide HT).below (unhide HB1)
      obtain ⟨rfl, rfl⟩ : p = pp ∧ cap = cp := by simpa using hpp
      obtain ⟨g, o, rfl, hgB, a0, _⟩ := hcs (n - 1) hnl0
      obtain ⟨pq, cq, hpq, hcs2⟩ := (unhide HU).below (unhide HB1)
      obtain ⟨rfl, rfl⟩ : q = pq ∧ cbp = cq := by simpa using hpq
      obtain ⟨g2, o2, rfl, hgB2, b0, _⟩ := hcs2 0 hml0
      simp only [Nat.zero_mul, Nat.add_zero] at b0
      have z1 : (0 : Int) < (n : Int) := by omega
      have z2 : (0 : Int) < (k : Int) := by omega
      have z3 : (0 : Int) ≤ (n : Int) - 1 := by omega
      have z4 : (n : Int) - 1 < (n : Int) := by omega
      have z5 : ((n : Int) - 1).toNat = n - 1 := by omega
      have z6 : IntKind.i64.wrap ((n : Int) - 1) = (n : Int) - 1 := by rw [IntKind.wrap_i64]; omega
      have HLA : Hid (l.getLast? = some (l[n - 1]'hnl0)) := by
        rw [Hid, List.getLast?_eq_getElem?, unhide HLN, List.getElem?_eq_getElem hnl0]
      have HME : Hid (m.head? = some (m[0]'hml0)) := by
        rw [Hid, List.head?_eq_getElem?, List.getElem?_eq_getElem hml0]
      generalize l[n - 1] = tl at *
      generalize m[0] = tm at *
      clear hcs hcs2 hpp hpq hn hk
      cases kl : tl.kind == 4
      · have HSE : Hid (Seam l m) := fun t u ht _ h4 => by
          rw [unhide HLA] at ht
          obtain rfl := Option.some.inj ht
          rw [kl] at h4; cases h4
        clear HLA HME
        go_upto_region 6 with fail
        clear a0 b0
        have H1 := hide (unhide HW1 W1 (unhide HB1))
        clear HW1
        go_wp2_with fail
        refine (unhide H1).mono ?_
        rintro e W2 ⟨va, rfl, hra, hb2⟩
        have HRA := hide hra
        have HB2 : Hid (Below w.heap.size w W2) := (unhide HB1).trans (hb2.mono (unhide HB1).size)
        have H2 := hide (unhide HW2 W2 (unhide HB2))
        clear hra hb2 HB1 H1 HW2
        go_wp2_with fail
        refine (unhide H2).mono ?_
        rintro e W3 ⟨vb, rfl, hrb, hb3⟩
        have HRA3 := hide (row_below' (unhide HRA) hb3)
        have HRB3 := hide hrb
        have HB3 : Hid (Below w.heap.size w W3) := (unhide HB2).trans (hb3.mono (unhide HB2).size)
        have hz3 : w.heap.size ≤ W3.heap.size := (unhide HB3).size
        clear hrb hb3 HB2 H2 HRA
        obtain ⟨W4, hmk, hr4, hg4⟩ := run_make_own (P := Tryd.prog) W3 W3.heap.size 22 25 i0 _ 6 Tryd.underlying22 hi0 zt st .i64 .i64 (n + k) (by rw [bt]; omega) (by unfold maxLen; omega) (Nat.le_refl _)
        simp only [Int.natCast_add] at hmk
        have hb4 : Below W3.heap.size W3 W4 := (Below.refl _ _).grown hg4 (Nat.le_refl _) (fun r e => by cases e)
        have HB4 : Hid (Below w.heap.size w W4) := (unhide HB3).trans (hb4.mono hz3)
        have hz4 := hb4.size
        have HB34 := hide hb4
        have hS4 := unhide HSL W4 (unhide HB4)
        clear hb4 hg4
        generalize hN3 : W3.heap.size = N3 at *
        have HN3 := hide hN3
        clear hN3
        go_upto_region 8 with fail
        go_upto_region 9 with (first
          | (at_builtin; refine append_src _ rfl _ _ 22 rfl N3 25 i0 _ 56 Tryd.underlying22 hi0 zt st bt rfl _ _ _ rfl hr4 _ _ _ rfl hS4 (by unfold maxLen; omega) (by omega) hz4 ?_; intro v5 W5 hown5 hgrow5; have hb5 := (unhide HB34).grown hgrow5 hz4 (fun r e => (row_turn hr4 r e).1); have hz5 : N3 ≤ W5.heap.size := Nat.le_trans hz4 hgrow5.size; have hS5 := unhide HSM W5 ((unhide HB3).trans (hb5.mono hz3)); have HB35 := hide hb5; clear hr4 hS4 hb5)
          | (at_builtin; refine append_src _ rfl _ _ 22 rfl N3 25 i0 _ 56 Tryd.underlying22 hi0 zt st bt rfl _ _ _ rfl hown5 _ _ _ rfl hS5 (by unfold maxLen; omega) (by omega) hz5 ?_; intro v6 W6 hown6 hgrow6)
          | (go_at_call 5; have hb6 := (unhide HB35).grown hgrow6 hz5 (fun r e => (row_turn hown5 r e).1); have HB36 := hide hb6; have HB6 : Hid (Below w.heap.size w W6) := (unhide HB3).trans (hb6.mono hz3); refine (unhide HWC W6 v6 N3 hown6 (unhide HB6)).mono ?_; rintro e W7 ⟨vc, rfl, hrc, hb7⟩; clear hb6))
        have hz36 : W3.heap.size ≤ W6.heap.size := (unhide HB36).size
        have HRA7 := hide (row_below' (row_below' (unhide HRA3) (show Below W3.heap.size W3 W6 from (by rw [unhide HN3]; exact unhide HB36))) hb7)
        have HRB7 := hide (row_below' (row_below' (unhide HRB3) (show Below W3.heap.size W3 W6 from (by rw [unhide HN3]; exact unhide HB36))) hb7)
        have HB7 : Hid (Below w.heap.size w W7) := (unhide HB6).trans (hb7.mono (unhide HB6).size)
        have HGC := hide (WdG.of hrc rfl)
        clear hrc hb7 hown5 hgrow5 hown6 hgrow6 hz36 hS5 hmk
        rcases unhide HAP (unhide HSE) with ⟨ea, eb, ec, happ⟩ | ⟨ea | ⟨ea, eb⟩, ec⟩
        · rw [ea, eb, ec]
          have HCL : Hid (∀ x ∈ (wsM l).1 ++ (wsM m).1, ∀ W, Below w.heap.size w W → Calls Tryd.prog 6 #[wdV x] W fun e w' => e = .returned (.bool true) ∧ Below W.heap.size W w') := by rw [Hid, ← happ]; exact unhide HRI
          rw [happ] at HGC
          obtain ⟨hwa, hwb, _⟩ := unhide HWL
          clear HAP HSE HRI HWL HWC HSL HSM ea eb ec happ HB36 HB35 HB34 HB6 HB4 HB3 HRA3 HRB3
          generalize (wsM l).1 = A at *
          generalize (wsM m).1 = B at *
          have HCE : Hid (∃ C, C = A ++ B) := ⟨_, rfl⟩
          obtain ⟨C, hC⟩ := unhide HCE
          have hcl : C.length = A.length + B.length := by rw [hC, List.length_append]
          have HC := hide hC
          have hcb : C.length ≤ 2000 := by omega
          have HHCL := hide hcl
          clear hcl
          obtain ⟨pa, ca, rfl, _⟩ := WdG.of (unhide HRA7) rfl
          obtain ⟨pb, cb, rfl, _⟩ := WdG.of (unhide HRB7) rfl
          rw [← hC] at HGC HCL
          clear hC HCE
          obtain ⟨pc, cc, rfl, _⟩ := unhide HGC
          go_wp2
          go_loopg [18] C.length (fun gk i wr => ∃ j : Nat, gk = C.length - j ∧ i = .int .i64 (j : Int) ∧ j ≤ C.length ∧ Hid (Below W7.heap.size W7 wr))
          case atStart => exact ⟨0, rfl, rfl, Nat.zero_le _, Below.refl _ _⟩
          case round =>
            obtain ⟨j, rfl, rfl, hj, HBR⟩ := hrel
            have HBW : Hid (Below w.heap.size w wr) := (unhide HB7).trans ((unhide HBR).mono (unhide HB7).size)
            by_cases hlt : j < C.length
            · have i9 : (j : Int) < (C.length : Int) := by omega
              obtain ⟨g, o, rfl, hgB, a0, a1, a2, a3, a4, a5⟩ := ((unhide HGC).below (unhide HBR)).at (i := j) hlt
              have h1 := unhide HCL C[j] (List.getElem_mem hlt) wr (unhide HBW)
              generalize C[j] = x at *
              obtain ⟨xk, xs, xv, xt, xf, xl⟩ := x
              simp only [wdV, wdC] at h1
              simp only at a0 a1 a2 a3 a4 a5
              generalize (⟨xs.toArray⟩ : ByteArray) = XS at *
              generalize (⟨xf.toArray⟩ : ByteArray) = XF at *
              have H1 := hide h1
              clear h1
              go_wp2_with (go_at_call 6; refine (unhide H1).mono ?_; rintro e W8 ⟨rfl, hb8⟩)
              go_roundg (C.length - (j + 1))
              case measure => omega
              case rel => exact ⟨j + 1, rfl, by go_num, by omega, (unhide HBR).trans (hb8.mono (unhide HBR).size)⟩
            · have i9 : ¬ (j : Int) < (C.length : Int) := by omega
              obtain rfl : j = C.length := by omega
              have hzw : w.heap.size ≤ wr.heap.size := (unhide HBW).size
              obtain ⟨W9, hmk9, hr9, hg9⟩ := run_make_own (P := Tryd.prog) wr wr.heap.size 26 32 i1 _ 6 Tryd.underlying26 hi1 zw sw .i64 .i64 (A.length + B.length) (by rw [bw]; omega) (by unfold maxLen; omega) (Nat.le_refl _)
              simp only [Int.natCast_add] at hmk9
              have hb9 : Below wr.heap.size wr W9 := (Below.refl _ _).grown hg9 (Nat.le_refl _) (fun r e => by cases e)
              have HSB : Hid (∀ W, Below wr.heap.size wr W → Src W (.slice pb B.length cb) B.length (wdCells B)) := fun W hb => src_row (row_below' (row_below' (unhide HRB7) (unhide HBR)) hb) (wd_one B)
              have hS9 := src_row (row_below' (row_below' (unhide HRA7) (unhide HBR)) hb9) (wd_one A)
              have hz9 := hb9.size
              have HGW : Hid (∀ W, Below wr.heap.size wr W → WdG W.heap.size W (.slice pc C.length cc) C) := fun W hb => by
                have h1 := (unhide HGC).below (unhide HBR)
                have h2 := (h1.mono (unhide HBR).size).below hb
                exact h2.mono hb.size
              have HAL : Hid (∀ W v, W.ownsRow wr.heap.size 32 6 v (0 + A.length + B.length) ([] ++ wdCells A ++ wdCells B) → WdG W.heap.size W v C) := fun W v h => by
                rw [List.nil_append, ← wdCells_app, ← unhide HC] at h
                exact WdG.of h (by rw [unhide HHCL]; omega)
              have HB99 := hide hb9
              clear hb9 hg9
              generalize hN8 : wr.heap.size = N8 at *
              have HN8 := hide hN8
              clear hN8
              go_wp2_with (first
                | (at_builtin; refine append_src _ rfl _ _ 26 rfl N8 32 i1 _ 64 Tryd.underlying26 hi1 zw sw bw rfl _ _ _ rfl hr9 _ _ _ rfl hS9 (by unfold maxLen; omega) (by omega) hz9 ?_; intro v10 W10 hown10 hgrow10; have hb10 := (unhide HB99).grown hgrow10 hz9 (fun r e => (row_turn hr9 r e).1); have hz10 : N8 ≤ W10.heap.size := Nat.le_trans hz9 hgrow10.size; have hS10 := unhide HSB W10 hb10; have HB10 := hide hb10; clear hr9 hS9 hb10)
                | (at_builtin; refine append_src _ rfl _ _ 26 rfl N8 32 i1 _ 64 Tryd.underlying26 hi1 zw sw bw rfl _ _ _ rfl hown10 _ _ _ rfl hS10 (by unfold maxLen; omega) (by omega) hz10 ?_; intro v11 W11 hown11 hgrow11)
                | (go_at_call 7; have hb11 := (unhide HB10).grown hgrow11 hz10 (fun r e => (row_turn hown10 r e).1); have HB11 := hide hb11; refine (rsame_eq _ v11 C _ _ W11 (by omega) (unhide HGW W11 hb11) (unhide HAL W11 v11 hown11)).mono ?_; rintro e W12 ⟨rfl, mm, hw12⟩; have HW12 := hide hw12; clear hw12 hb11))
              go_ret
              exact ⟨rfl, by rw [unhide HW12]; exact below_drewN ((unhide HBW).trans ((unhide HB11).mono hzw)) mm⟩
        · rw [ea, ec]
          go_wp2
          go_ret
          exact ⟨rfl, unhide HB7⟩
        · rw [ea, eb, ec]
          go_wp2
          go_ret
          exact ⟨rfl, unhide HB7⟩
      · cases km : tm.kind == 4
        · have HSE : Hid (Seam l m) := fun t u _ hu _ => by
            rw [unhide HME] at hu
            obtain rfl := Option.some.inj hu
            exact km
          clear HLA HME
          go_upto_region 6 with fail
          clear a0 b0
          have H1 := hide (unhide HW1 W1 (unhide HB1))
          clear HW1
          go_wp2_with fail
          refine (unhide H1).mono ?_
          rintro e W2 ⟨va, rfl, hra, hb2⟩
          have HRA := hide hra
          have HB2 : Hid (Below w.heap.size w W2) := (unhide HB1).trans (hb2.mono (unhide HB1).size)
          have H2 := hide (unhide HW2 W2 (unhide HB2))
          clear hra hb2 HB1 H1 HW2
          go_wp2_with fail
          refine (unhide H2).mono ?_
          rintro e W3 ⟨vb, rfl, hrb, hb3⟩
          have HRA3 := hide (row_below' (unhide HRA) hb3)
          have HRB3 := hide hrb
          have HB3 : Hid (Below w.heap.size w W3) := (unhide HB2).trans (hb3.mono (unhide HB2).size)
          have hz3 : w.heap.size ≤ W3.heap.size := (unhide HB3).size
          clear hrb hb3 HB2 H2 HRA
          obtain ⟨W4, hmk, hr4, hg4⟩ := run_make_own (P := Tryd.prog) W3 W3.heap.size 22 25 i0 _ 6 Tryd.underlying22 hi0 zt st .i64 .i64 (n + k) (by rw [bt]; omega) (by unfold maxLen; omega) (Nat.le_refl _)
          simp only [Int.natCast_add] at hmk
          have hb4 : Below W3.heap.size W3 W4 := (Below.refl _ _).grown hg4 (Nat.le_refl _) (fun r e => by cases e)
          have HB4 : Hid (Below w.heap.size w W4) := (unhide HB3).trans (hb4.mono hz3)
          have hz4 := hb4.size
          have HB34 := hide hb4
          have hS4 := unhide HSL W4 (unhide HB4)
          clear hb4 hg4
          generalize hN3 : W3.heap.size = N3 at *
          have HN3 := hide hN3
          clear hN3
          go_upto_region 8 with fail
          go_upto_region 9 with (first
            | (at_builtin; refine append_src _ rfl _ _ 22 rfl N3 25 i0 _ 56 Tryd.underlying22 hi0 zt st bt rfl _ _ _ rfl hr4 _ _ _ rfl hS4 (by unfold maxLen; omega) (by omega) hz4 ?_; intro v5 W5 hown5 hgrow5; have hb5 := (unhide HB34).grown hgrow5 hz4 (fun r e => (row_turn hr4 r e).1); have hz5 : N3 ≤ W5.heap.size := Nat.le_trans hz4 hgrow5.size; have hS5 := unhide HSM W5 ((unhide HB3).trans (hb5.mono hz3)); have HB35 := hide hb5; clear hr4 hS4 hb5)
            | (at_builtin; refine append_src _ rfl _ _ 22 rfl N3 25 i0 _ 56 Tryd.underlying22 hi0 zt st bt rfl _ _ _ rfl hown5 _ _ _ rfl hS5 (by unfold maxLen; omega) (by omega) hz5 ?_; intro v6 W6 hown6 hgrow6)
            | (go_at_call 5; have hb6 := (unhide HB35).grown hgrow6 hz5 (fun r e => (row_turn hown5 r e).1); have HB36 := hide hb6; have HB6 : Hid (Below w.heap.size w W6) := (unhide HB3).trans (hb6.mono hz3); refine (unhide HWC W6 v6 N3 hown6 (unhide HB6)).mono ?_; rintro e W7 ⟨vc, rfl, hrc, hb7⟩; clear hb6))
          have hz36 : W3.heap.size ≤ W6.heap.size := (unhide HB36).size
          have HRA7 := hide (row_below' (row_below' (unhide HRA3) (show Below W3.heap.size W3 W6 from (by rw [unhide HN3]; exact unhide HB36))) hb7)
          have HRB7 := hide (row_below' (row_below' (unhide HRB3) (show Below W3.heap.size W3 W6 from (by rw [unhide HN3]; exact unhide HB36))) hb7)
          have HB7 : Hid (Below w.heap.size w W7) := (unhide HB6).trans (hb7.mono (unhide HB6).size)
          have HGC := hide (WdG.of hrc rfl)
          clear hrc hb7 hown5 hgrow5 hown6 hgrow6 hz36 hS5 hmk
          rcases unhide HAP (unhide HSE) with ⟨ea, eb, ec, happ⟩ | ⟨ea | ⟨ea, eb⟩, ec⟩
          · rw [ea, eb, ec]
            have HCL : Hid (∀ x ∈ (wsM l).1 ++ (wsM m).1, ∀ W, Below w.heap.size w W → Calls Tryd.prog 6 #[wdV x] W fun e w' => e = .returned (.bool true) ∧ Below W.heap.size W w') := by rw [Hid, ← happ]; exact unhide HRI
            rw [happ] at HGC
            obtain ⟨hwa, hwb, _⟩ := unhide HWL
            clear HAP HSE HRI HWL HWC HSL HSM ea eb ec happ HB36 HB35 HB34 HB6 HB4 HB3 HRA3 HRB3
            generalize (wsM l).1 = A at *
            generalize (wsM m).1 = B at *
            have HCE : Hid (∃ C, C = A ++ B) := ⟨_, rfl⟩
            obtain ⟨C, hC⟩ := unhide HCE
            have hcl : C.length = A.length + B.length := by rw [hC, List.length_append]
            have HC := hide hC
            have hcb : C.length ≤ 2000 := by omega
            have HHCL := hide hcl
            clear hcl
            obtain ⟨pa, ca, rfl, _⟩ := WdG.of (unhide HRA7) rfl
            obtain ⟨pb, cb, rfl, _⟩ := WdG.of (unhide HRB7) rfl
            rw [← hC] at HGC HCL
            clear hC HCE
            obtain ⟨pc, cc, rfl, _⟩ := unhide HGC
            go_wp2
            go_loopg [18] C.length (fun gk i wr => ∃ j : Nat, gk = C.length - j ∧ i = .int .i64 (j : Int) ∧ j ≤ C.length ∧ Hid (Below W7.heap.size W7 wr))
            case atStart => exact ⟨0, rfl, rfl, Nat.zero_le _, Below.refl _ _⟩
            case round =>
              obtain ⟨j, rfl, rfl, hj, HBR⟩ := hrel
              have HBW : Hid (Below w.heap.size w wr) := (unhide HB7).trans ((unhide HBR).mono (unhide HB7).size)
              by_cases hlt : j < C.length
              · have i9 : (j : Int) < (C.length : Int) := by omega
                obtain ⟨g, o, rfl, hgB, a0, a1, a2, a3, a4, a5⟩ := ((unhide HGC).below (unhide HBR)).at (i := j) hlt
                have h1 := unhide HCL C[j] (List.getElem_mem hlt) wr (unhide HBW)
                generalize C[j] = x at *
                obtain ⟨xk, xs, xv, xt, xf, xl⟩ := x
                simp only [wdV, wdC] at h1
                simp only at a0 a1 a2 a3 a4 a5
                generalize (⟨xs.toArray⟩ : ByteArray) = XS at *
                generalize (⟨xf.toArray⟩ : ByteArray) = XF at *
                have H1 := hide h1
                clear h1
                go_wp2_with (go_at_call 6; refine (unhide H1).mono ?_; rintro e W8 ⟨rfl, hb8⟩)
                go_roundg (C.length - (j + 1))
                case measure => omega
                case rel => exact ⟨j + 1, rfl, by go_num, by omega, (unhide HBR).trans (hb8.mono (unhide HBR).size)⟩
              · have i9 : ¬ (j : Int) < (C.length : Int) := by omega
                obtain rfl : j = C.length := by omega
                have hzw : w.heap.size ≤ wr.heap.size := (unhide HBW).size
                obtain ⟨W9, hmk9, hr9, hg9⟩ := run_make_own (P := Tryd.prog) wr wr.heap.size 26 32 i1 _ 6 Tryd.underlying26 hi1 zw sw .i64 .i64 (A.length + B.length) (by rw [bw]; omega) (by unfold maxLen; omega) (Nat.le_refl _)
                simp only [Int.natCast_add] at hmk9
                have hb9 : Below wr.heap.size wr W9 := (Below.refl _ _).grown hg9 (Nat.le_refl _) (fun r e => by cases e)
                have HSB : Hid (∀ W, Below wr.heap.size wr W → Src W (.slice pb B.length cb) B.length (wdCells B)) := fun W hb => src_row (row_below' (row_below' (unhide HRB7) (unhide HBR)) hb) (wd_one B)
                have hS9 := src_row (row_below' (row_below' (unhide HRA7) (unhide HBR)) hb9) (wd_one A)
                have hz9 := hb9.size
                have HGW : Hid (∀ W, Below wr.heap.size wr W → WdG W.heap.size W (.slice pc C.length cc) C) := fun W hb => by
                  have h1 := (unhide HGC).below (unhide HBR)
                  have h2 := (h1.mono (unhide HBR).size).below hb
                  exact h2.mono hb.size
                have HAL : Hid (∀ W v, W.ownsRow wr.heap.size 32 6 v (0 + A.length + B.length) ([] ++ wdCells A ++ wdCells B) → WdG W.heap.size W v C) := fun W v h => by
                  rw [List.nil_append, ← wdCells_app, ← unhide HC] at h
                  exact WdG.of h (by rw [unhide HHCL]; omega)
                have HB99 := hide hb9
                clear hb9 hg9
                generalize hN8 : wr.heap.size = N8 at *
                have HN8 := hide hN8
                clear hN8
                go_wp2_with (first
                  | (at_builtin; refine append_src _ rfl _ _ 26 rfl N8 32 i1 _ 64 Tryd.underlying26 hi1 zw sw bw rfl _ _ _ rfl hr9 _ _ _ rfl hS9 (by unfold maxLen; omega) (by omega) hz9 ?_; intro v10 W10 hown10 hgrow10; have hb10 := (unhide HB99).grown hgrow10 hz9 (fun r e => (row_turn hr9 r e).1); have hz10 : N8 ≤ W10.heap.size := Nat.le_trans hz9 hgrow10.size; have hS10 := unhide HSB W10 hb10; have HB10 := hide hb10; clear hr9 hS9 hb10)
                  | (at_builtin; refine append_src _ rfl _ _ 26 rfl N8 32 i1 _ 64 Tryd.underlying26 hi1 zw sw bw rfl _ _ _ rfl hown10 _ _ _ rfl hS10 (by unfold maxLen; omega) (by omega) hz10 ?_; intro v11 W11 hown11 hgrow11)
                  | (go_at_call 7; have hb11 := (unhide HB10).grown hgrow11 hz10 (fun r e => (row_turn hown10 r e).1); have HB11 := hide hb11; refine (rsame_eq _ v11 C _ _ W11 (by omega) (unhide HGW W11 hb11) (unhide HAL W11 v11 hown11)).mono ?_; rintro e W12 ⟨rfl, mm, hw12⟩; have HW12 := hide hw12; clear hw12 hb11))
                go_ret
                exact ⟨rfl, by rw [unhide HW12]; exact below_drewN ((unhide HBW).trans ((unhide HB11).mono hzw)) mm⟩
          · rw [ea, ec]
            go_wp2
            go_ret
            exact ⟨rfl, unhide HB7⟩
          · rw [ea, eb, ec]
            go_wp2
            go_ret
            exact ⟨rfl, unhide HB7⟩
        · go_wp2
          go_ret
          exact ⟨rfl, unhide HB1⟩
end Go.Proofs.YtnpjgamfjfmjjaaDoor
