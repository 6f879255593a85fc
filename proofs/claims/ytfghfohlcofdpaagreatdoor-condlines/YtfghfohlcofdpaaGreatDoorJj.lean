/-
  The document's parser: chain.
-/
import Derived.Test.YtfghfohlcofdpaaGreatDoorJm
namespace Go.Proofs.YtfghfohlcofdpaaGreatDoor
open Go Go.RowKit
set_option linter.unusedVariables false
set_option linter.unusedSimpArgs false

theorem zero_or (x : Int) : ((x == 0) = true ∧ (x != 0) = false ∧ decide (x = 0) = true ∧ x = 0) ∨ ((x == 0) = false ∧ (x != 0) = true ∧ decide (x = 0) = false ∧ ¬ x = 0) := by
  by_cases h : x = 0
  · exact .inl ⟨by simp [h], by simp [h], by simp [h], h⟩
  · exact .inr ⟨by simp [h], by simp [h], by simp [h], h⟩
set_option maxRecDepth 100000 in
set_option maxHeartbeats 16000000 in
theorem chain_any (n : Int) (hn0 : 0 ≤ n) (hn : n ≤ 20) (live : Bool) (b : Nat) (p : Option Addr) (cap : Nat) (l : List Gt) (k : Nat) (w : World) (hl : l.length ≤ 1000000) (hk : k ≤ l.length) (hP : Pb w b (.slice p l.length cap) k true) (hT : TkG b w (.slice p l.length cap) l) (HFr : FrH l k b (.slice p l.length cap)) (HCn : CnFF l k b (.slice p l.length cap)) :
    Calls Tryz.prog 18 #[.pointer (some ⟨b, 0, none⟩), .int .i64 n, .bool live] w (RP (.chain (n + 1)) live l k b (.slice p l.length cap) w) := by
  have HO := hide (on_made hP)
  have HT := hide (fun W (h : Fb b w W) => hT.fb h)
  have HF := hide HFr
  have HC := hide HCn
  have HTr := hide (fun b w => rtruth_any b w)
  clear hP hT HFr HCn
  go_enter Tryz.func18, Tryz.ntmps18
  go_wp2_with fail
  refine (unhide HF live _ (unhide HO).p (unhide HT _ (unhide HO).f)).mono ?_
  rintro e W1 ⟨⟨vb, vu⟩, rest, ok, k', rfl, hp, hf, hx, hpr, hr⟩
  have HL : Hid (LR w b W1.heap.size (.slice p l.length cap) n live l k (l.length + 2 - k) (W1.alloc (.cells #[.int .u64 vb, .bool vu] 44)) ⟨vb, vu⟩ k' ok) :=
    ⟨((unhide HO).step hf hp).new _, World.alloc_heap_new W1 _, hx, wy_start hk hpr hr⟩
  have hM : w.heap.size < W1.heap.size := ((unhide HO).step hf hp).r.lt
  have hMb : W1.heap.size ≠ b := rb_ne (unhide HL).rb (unhide HL).on.p
  clear hp hf HO hx hpr hr HF
  simp only [Vl.v] at *
  go_wp2
  generalize (W1.alloc (.cells #[.int .u64 vb, .bool vu] 44)) = W2 at *
  generalize W1.heap.size = M at *
  go_loopg [] (l.length + 2 - k) (fun gk wr => ∃ (x : Vl) (k1 : Int) (ok1 : Bool), Hid (LR w b M (.slice p l.length cap) n live l k gk wr x k1 ok1))
  case atStart => exact ⟨_, _, _, HL⟩
  case round =>
    clear HL
    obtain ⟨⟨xb, xu⟩, k1, ok1, HL⟩ := hrel
    cases ok1
    · obtain ⟨⟨r0, r1⟩, ⟨p0, p1, p2⟩, fr0, fr1, fp1, fp2, hne, hl1, hl2⟩ := (unhide HL).on.all
      obtain ⟨v0, v1⟩ := (unhide HL).rb.two
      go_upto_region 2 with fail
      go_quiet (fail)
      go_wp2
      have hO3 := ((unhide HL).on.next (drewNB wr nq)).put xb xu
      exact bodyPost_ret (res_x (f := Tryz.f18) rfl rfl hO3.r rfl) rfl (wy_no (x' := ⟨xb, xu⟩) (unhide HL).wy hO3.p hO3.f (unhide HL).ok)
    · obtain ⟨m, rfl, hkm, hml, hgk, hJ⟩ := (unhide HL).wy.2 rfl
      have HJ := hide hJ
      have HKM := hide hkm
      have HML := hide hml
      have HGK := hide hgk
      clear hJ hkm hml hgk
      by_cases hm : m < l.length
      · obtain ⟨t, HD, ht⟩ : ∃ t, Hid (l.drop m = t :: l.drop (m + 1)) ∧ l[m] = t := ⟨l[m], List.drop_eq_getElem_cons hm, rfl⟩
        have HTT : Hid (∀ W, Fb b w W → ∃ g o, p = some ⟨g, o, none⟩ ∧ W.cell? ⟨g, o + m * 6, none⟩ = some (.int .i64 t.kind) ∧ W.cell? ⟨g, o + m * 6 + 1, none⟩ = some (.string ⟨t.s.toArray⟩)) := by
          intro W hW
          obtain ⟨p', cap', hp', hcs⟩ := unhide HT W hW
          obtain ⟨g, o, rfl, hg, t0, t1, _⟩ := hcs m hm
          obtain ⟨rfl, rfl⟩ : p = some ⟨g, o, none⟩ ∧ cap = cap' := by simpa using hp'
          rw [ht] at t0 t1
          exact ⟨g, o, rfl, t0, t1⟩
        obtain ⟨kind, ts, tf, tl, tsp, tfi⟩ := t
        clear ht
        simp only at HTT
        have hd : decide ((m : Int) < (l.length : Int)) = true := by simpa using hm
        have i1 : (m : Int) < (l.length : Int) := by omega
        cases h5 : kind == 5
        · obtain ⟨⟨r0, r1⟩, ⟨p0, p1, p2⟩, fr0, fr1, fp1, fp2, hne, hl1, hl2⟩ := (unhide HL).on.all
          obtain ⟨v0, v1⟩ := (unhide HL).rb.two
          obtain ⟨g, o, rfl, t0, t1⟩ := unhide HTT wr (unhide HL).on.f
          go_upto_region 2 with fail
          go_quiet (fail)
          go_wp2
          have hO3 := ((unhide HL).on.next (drewNB wr nq)).put xb xu
          exact bodyPost_ret (res_x (f := Tryz.f18) rfl rfl hO3.r rfl) rfl (wy_end (x := ⟨xb, xu⟩) (unhide HKM) (unhide HML) (unhide HJ) (.inl (nx_kind (unhide HD) h5)) hO3.p hO3.f (unhide HL).ok)
        · have h5' : kind = 5 := by simpa using h5
          obtain ⟨⟨r0, r1⟩, ⟨p0, p1, p2⟩, fr0, fr1, fp1, fp2, hne, hl1, hl2⟩ := (unhide HL).on.all
          obtain ⟨v0, v1⟩ := (unhide HL).rb.two
          obtain ⟨g, o, rfl, t0, t1⟩ := unhide HTT wr (unhide HL).on.f
          go_upto_region 2 with fail
          go_quiet (fail)
          have HLa := hide ((unhide HL).next (drewNB wr nq))
          generalize wr.drewN nq = Wa at *
          clear HL r0 r1 p0 p1 p2 fr0 fr1 fp1 fp2 hl1 hl2 v0 v1 t0 t1 nq
          obtain ⟨⟨r0, r1⟩, ⟨p0, p1, p2⟩, fr0, fr1, fp1, fp2, hne, hl1, hl2⟩ := (unhide HLa).on.all
          obtain ⟨v0, v1⟩ := (unhide HLa).rb.two
          obtain ⟨g', o', hgo, t0, t1⟩ := unhide HTT Wa (unhide HLa).on.f
          obtain ⟨rfl, rfl⟩ : g = g' ∧ o = o' := by simpa using hgo
          clear hgo
          go_upto_region 3 with fail
          go_quiet (fail)
          have HLb := hide ((unhide HLa).next (drewNB Wa nq))
          generalize Wa.drewN nq = Wb at *
          clear HLa r0 r1 p0 p1 p2 fr0 fr1 fp1 fp2 hl1 hl2 v0 v1 t0 t1 nq hne
          obtain ⟨⟨r0, r1⟩, ⟨p0, p1, p2⟩, fr0, fr1, fp1, fp2, hne, hl1, hl2⟩ := (unhide HLb).on.all
          obtain ⟨v0, v1⟩ := (unhide HLb).rb.two
          have fv0 := (unhide HLb).rb.frozen 0
          have fv1 := (unhide HLb).rb.frozen 1
          have HNX := hide (nx_lev (unhide HD) h5)
          simp only at HNX
          clear HTT
          by_cases hlev : levM ts = 0
          · have HLV := hide (level_zero hlev)
            have HLE := hide hlev
            clear hlev
            go_wp2_with fail
            refine (unhide HLV _).mono ?_
            rintro e W3 ⟨rfl, rfl⟩
            go_wp2
            have hO3 := (unhide HLb).on.put xb xu
            exact bodyPost_ret (res_x (f := Tryz.f18) rfl rfl hO3.r rfl) rfl (wy_end (x := ⟨xb, xu⟩) (unhide HKM) (unhide HML) (unhide HJ) (.inl ((unhide HNX).trans (unhide HLE))) hO3.p hO3.f (unhide HLb).ok)
          · obtain ⟨q, hq, hq1, hq2, hLV⟩ := level_one hlev
            have HLV := hide hLV
            have HLE := hide hq
            have hq0 : (q == 0) = false := by simp; omega
            clear hlev hLV hq
            by_cases hqn : q < n
            · have hqn' : decide (q < n) = true := by simpa using hqn
              go_wp2_with fail
              refine (unhide HLV _).mono ?_
              rintro e W3 ⟨rfl, rfl⟩
              go_wp2
              have hO3 := (unhide HLb).on.put xb xu
              exact bodyPost_ret (res_x (f := Tryz.f18) rfl rfl hO3.r rfl) rfl (wy_end (x := ⟨xb, xu⟩) (unhide HKM) (unhide HML) (unhide HJ) (.inr (by rw [unhide HNX, unhide HLE]; omega)) hO3.p hO3.f (unhide HLb).ok)
            · have hqn' : decide (q < n) = false := by simpa using hqn
              have HO7 : Hid (On w (Wb.setCell ⟨b, 1, none⟩ (.int .i64 ((m : Int) + 1))) b (.slice (some ⟨g, o, none⟩) l.length cap) ((m + 1 : Nat) : Int) true 0 false) := by
                have := (unhide HLb).on.set1 ((m : Int) + 1)
                rw [show ((m + 1 : Nat) : Int) = (m : Int) + 1 by omega]
                exact this
              have HV7 : Hid (RB (Wb.setCell ⟨b, 1, none⟩ (.int .i64 ((m : Int) + 1))) M xb xu) := (unhide HLb).rb.other hMb
              have HX := hide (unhide HLb).ok
              cases ha : ts == [38, 38]
              · cases ho : ts == [124, 124]
                · have HA := hide (show ts ≠ [38, 38] by simpa using ha)
                  have HB := hide (show ts ≠ [124, 124] by simpa using ho)
                  go_wp2_with fail
                  refine (unhide HLV _).mono ?_
                  rintro e W3 ⟨rfl, rfl⟩
                  go_wp2_with fail
                  refine (unhide HC (m + 1) (by have := unhide HKM; omega) (by omega) (q + 1) live _ (by omega) (by omega) (unhide HO7).p (unhide HT _ (unhide HO7).f)).mono ?_
                  rintro e W8 ⟨⟨yb, yu⟩, rest2, ok2, k2, rfl, hp, hf, hy, hpr, hr⟩
                  have HO8 := hide (((unhide HO7).step hf hp).new (.cells #[.int .u64 yb, .bool yu] 44))
                  have HV8 := hide (((unhide HV7).fb hf hMb).next (below_new W8 (.cells #[.int .u64 yb, .bool yu] 44)))
                  have HY8 : Hid (RB (W8.alloc (.cells #[.int .u64 yb, .bool yu] 44)) W8.heap.size yb yu) := World.alloc_heap_new W8 _
                  have HY := hide hy
                  have HPR := hide hpr
                  have HR := hide hr
                  clear hp hf hy hpr hr r0 r1 p0 p1 p2 fr0 fr1 fp1 fp2 hl1 hl2 v0 v1 fv0 fv1 hne
                  obtain ⟨v0, v1⟩ := (unhide HV8).two
                  obtain ⟨y0, y1⟩ := (unhide HY8).two
                  have HAP := hide (apply_any ts (sixteen_of (by have := unhide HLE; omega) (unhide HB) (unhide HA)) ⟨xb, xu⟩ ⟨yb, yu⟩ (unhide HX) (unhide HY) live b _ k2 ok2 _ (unhide HO8).p)
                  obtain ⟨R, hR⟩ : ∃ R, ofM ⟨ts, levM ts, ⟨xb, xu⟩, false, false⟩ ⟨yb, yu⟩ = R := ⟨_, rfl⟩
                  rw [hR] at HAP
                  obtain ⟨⟨ob, ou⟩, od⟩ := R
                  have HRR := hide hR
                  clear hR
                  simp only [Vl.v] at *
                  go_wp2_with fail
                  refine (unhide HAP).mono ?_
                  rintro e W10 ⟨rfl, hp, hf⟩
                  have hO10 := (unhide HO8).step hf hp
                  have hV10 := (unhide HV8).fb hf hMb
                  have fv0 := hV10.frozen 0
                  have fv1 := hV10.frozen 1
                  obtain ⟨v0', v1'⟩ := hV10.two
                  have HO10 := hide hO10
                  have HV10 := hide hV10
                  clear hp hf hO10 hV10
                  have HLN : Hid (LR w b M (.slice (some ⟨g, o, none⟩) l.length cap) n live l k (gk - 1) ((W10.setCell ⟨M, 0, none⟩ (.int .u64 ob)).setCell ⟨M, 1, none⟩ (.bool ou)) ⟨ob, ou⟩ k2 (ok2 && (!live || od))) := by
                    refine ⟨((unhide HO10).oth hMb hM).oth hMb hM, (unhide HV10).put ob ou, ?_, wy_op (R := (⟨ob, ou⟩, od)) (unhide HD) (unhide HGK) (unhide HKM) hm (unhide HJ) h5' (unhide HLE) hq1 (unhide HA) (unhide HB) (by omega) (unhide HPR) (unhide HR) (unhide HRR)⟩
                    have := ok_of (x := ⟨ts, levM ts, ⟨xb, xu⟩, false, false⟩) (unhide HX) (unhide HY)
                    rw [unhide HRR] at this
                    exact this
                  go_wp2
                  go_roundg (gk - 1)
                  case measure => have := unhide HGK; omega
                  case rel => exact ⟨_, _, _, HLN⟩
                · have HTS := hide (show ts = [124, 124] by simpa using ho)
                  have HQ : Hid (q = 1) := by
                    have h1 := unhide HLE
                    rw [unhide HTS] at h1
                    have h2 : levM [124, 124] = 1 + 1 := rfl
                    show q = 1
                    omega
                  rcases zero_or xb with ⟨hz, hz', hz0, hz1⟩ | ⟨hz, hz', hz0, hz1⟩ <;> cases live
                  all_goals (
                    go_wp2_with fail
                    refine (unhide HLV _).mono ?_
                    rintro e W3 ⟨rfl, rfl⟩
                    go_wp2_with fail
                    refine (unhide HC (m + 1) (by have := unhide HKM; omega) (by omega) (q + 1) _ _ (by omega) (by omega) (unhide HO7).p (unhide HT _ (unhide HO7).f)).mono ?_
                    rintro e W8 ⟨⟨yb, yu⟩, rest2, ok2, k2, rfl, hp, hf, hy, hpr, hr⟩
                    have HO8 := hide (((unhide HO7).step hf hp).new (.cells #[.int .u64 yb, .bool yu] 44))
                    have HV8 := hide (((unhide HV7).fb hf hMb).next (below_new W8 (.cells #[.int .u64 yb, .bool yu] 44)))
                    have HY8 : Hid (RB (W8.alloc (.cells #[.int .u64 yb, .bool yu] 44)) W8.heap.size yb yu) := World.alloc_heap_new W8 _
                    have HPR := hide hpr
                    have HR := hide hr
                    clear hp hf hy hpr hr r0 r1 p0 p1 p2 fr0 fr1 fp1 fp2 hl1 hl2 v0 v1 fv0 fv1 hne
                    simp only [Vl.v] at *
                    go_upto_region 13 with fail
                    generalize (W8.alloc (.cells #[.int .u64 yb, .bool yu] 44)) = W9 at *
                    generalize W8.heap.size = M2 at *
                    obtain ⟨v0, v1⟩ := (unhide HV8).two
                    obtain ⟨y0, y1⟩ := (unhide HY8).two
                    go_wp2_with fail
                    refine (unhide HTr _ _).mono ?_
                    rintro e W10 ⟨rfl, hb⟩
                    have hO10 := (unhide HO8).next hb
                    have hV10 := (unhide HV8).next hb
                    have fv0 := hV10.frozen 0
                    have fv1 := hV10.frozen 1
                    obtain ⟨v0', v1'⟩ := hV10.two
                    have HO10 := hide hO10
                    have HV10 := hide hV10
                    clear hb hO10 hV10
                    go_wp2
                    go_roundg (gk - 1)
                    case measure => have := unhide HGK; omega
                    case rel =>
                      refine ⟨_, _, _, ((unhide HO10).oth hMb hM).oth hMb hM, (unhide HV10).put _ _, ok_truth _, wy_or (y := ⟨yb, yu⟩) (unhide HD) (unhide HGK) (unhide HKM) hm (unhide HJ) h5' (unhide HTS) (by have := unhide HQ; omega) ?_ (unhide HR) ?_⟩
                      · have := unhide HPR
                        rw [unhide HQ] at this
                        simpa [hz, hz'] using this
                      · simp [hz, hz'])
              · have HTS := hide (show ts = [38, 38] by simpa using ha)
                have HQ : Hid (q = 2) := by
                  have h1 := unhide HLE
                  rw [unhide HTS] at h1
                  have h2 : levM [38, 38] = 2 + 1 := rfl
                  show q = 2
                  omega
                rcases zero_or xb with ⟨hz, hz', hz0, hz1⟩ | ⟨hz, hz', hz0, hz1⟩ <;> cases live
                all_goals (
                  go_wp2_with fail
                  refine (unhide HLV _).mono ?_
                  rintro e W3 ⟨rfl, rfl⟩
                  go_wp2_with fail
                  refine (unhide HC (m + 1) (by have := unhide HKM; omega) (by omega) (q + 1) _ _ (by omega) (by omega) (unhide HO7).p (unhide HT _ (unhide HO7).f)).mono ?_
                  rintro e W8 ⟨⟨yb, yu⟩, rest2, ok2, k2, rfl, hp, hf, hy, hpr, hr⟩
                  have HO8 := hide (((unhide HO7).step hf hp).new (.cells #[.int .u64 yb, .bool yu] 44))
                  have HV8 := hide (((unhide HV7).fb hf hMb).next (below_new W8 (.cells #[.int .u64 yb, .bool yu] 44)))
                  have HY8 : Hid (RB (W8.alloc (.cells #[.int .u64 yb, .bool yu] 44)) W8.heap.size yb yu) := World.alloc_heap_new W8 _
                  have HPR := hide hpr
                  have HR := hide hr
                  clear hp hf hy hpr hr r0 r1 p0 p1 p2 fr0 fr1 fp1 fp2 hl1 hl2 v0 v1 fv0 fv1 hne
                  simp only [Vl.v] at *
                  go_upto_region 10 with fail
                  generalize (W8.alloc (.cells #[.int .u64 yb, .bool yu] 44)) = W9 at *
                  generalize W8.heap.size = M2 at *
                  obtain ⟨v0, v1⟩ := (unhide HV8).two
                  obtain ⟨y0, y1⟩ := (unhide HY8).two
                  go_wp2_with fail
                  refine (unhide HTr _ _).mono ?_
                  rintro e W10 ⟨rfl, hb⟩
                  have hO10 := (unhide HO8).next hb
                  have hV10 := (unhide HV8).next hb
                  have fv0 := hV10.frozen 0
                  have fv1 := hV10.frozen 1
                  obtain ⟨v0', v1'⟩ := hV10.two
                  have HO10 := hide hO10
                  have HV10 := hide hV10
                  clear hb hO10 hV10
                  go_wp2
                  go_roundg (gk - 1)
                  case measure => have := unhide HGK; omega
                  case rel =>
                    refine ⟨_, _, _, ((unhide HO10).oth hMb hM).oth hMb hM, (unhide HV10).put _ _, ok_truth _, wy_and (y := ⟨yb, yu⟩) (unhide HD) (unhide HGK) (unhide HKM) hm (unhide HJ) h5' (unhide HTS) (by have := unhide HQ; omega) ?_ (unhide HR) ?_⟩
                    · have := unhide HPR
                      rw [unhide HQ] at this
                      simpa [hz, hz'] using this
                    · simp [hz, hz'])
      · have hd : decide ((m : Int) < (l.length : Int)) = false := by simpa using hm
        obtain ⟨⟨r0, r1⟩, ⟨p0, p1, p2⟩, fr0, fr1, fp1, fp2, hne, hl1, hl2⟩ := (unhide HL).on.all
        obtain ⟨v0, v1⟩ := (unhide HL).rb.two
        go_upto_region 2 with fail
        go_quiet (fail)
        go_wp2
        have hO3 := ((unhide HL).on.next (drewNB wr nq)).put xb xu
        exact bodyPost_ret (res_x (f := Tryz.f18) rfl rfl hO3.r rfl) rfl (wy_end (x := ⟨xb, xu⟩) (unhide HKM) (unhide HML) (unhide HJ) (.inl (nx_none hm)) hO3.p hO3.f (unhide HL).ok)
end Go.Proofs.YtfghfohlcofdpaaGreatDoor
