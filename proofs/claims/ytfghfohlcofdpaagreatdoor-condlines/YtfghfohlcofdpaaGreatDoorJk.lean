/-
  The document's parser: choice.
-/
import Derived.Test.YtfghfohlcofdpaaGreatDoorJj
namespace Go.Proofs.YtfghfohlcofdpaaGreatDoor
open Go Go.RowKit
set_option linter.unusedVariables false
set_option linter.unusedSimpArgs false

/-- What lies when the second answer and its copy are made. -/
structure Tl (w W W9 : World) (b : Nat) (sl : Value) (k : Int) (ok : Bool) (M1 M2 : Nat) (v a x : Vl) : Prop where
  fo : On w W9 b sl k ok 0 false
  fv : RB W9 M1 v.b v.u
  fa : RB W9 M2 a.b a.u
  fx : RB W9 W.heap.size x.b x.u
  fu : RB W9 (W.heap.size + 1) x.b x.u
theorem tl_made {w W : World} {b M1 M2 : Nat} {sl : Value} {k : Int} {ok : Bool} {v a : Vl} (hO : On w W b sl k ok 0 false) (hV : RB W M1 v.b v.u) (hA : RB W M2 a.b a.u) (xb : Int) (xu : Bool) : Tl w W ((W.alloc (.cells #[.int .u64 xb, .bool xu] 44)).alloc (.cells #[.int .u64 xb, .bool xu] 44)) b sl k ok M1 M2 v a ⟨xb, xu⟩ := by
  have z1 : (W.alloc (.cells #[.int .u64 xb, .bool xu] 44)).heap.size = W.heap.size + 1 := by simp
  have b1 := below_new W (.cells #[.int .u64 xb, .bool xu] 44)
  have b2 := below_new (W.alloc (.cells #[.int .u64 xb, .bool xu] 44)) (.cells #[.int .u64 xb, .bool xu] 44)
  have n1 : RB (W.alloc (.cells #[.int .u64 xb, .bool xu] 44)) W.heap.size xb xu := World.alloc_heap_new W _
  have n2 := World.alloc_heap_new (W.alloc (.cells #[.int .u64 xb, .bool xu] 44)) (.cells #[.int .u64 xb, .bool xu] 44)
  rw [z1] at n2
  exact ⟨(hO.next b1).next b2, (hV.next b1).next b2, (hA.next b1).next b2, n1.next b2, n2⟩
theorem RP.ask {live : Bool} {l : List Gt} {k b m2 : Nat} {sl : Value} {w W' : World} {x : Vl} {rest : List Gt} {ok : Bool} {k' : Int} (hr : ok = true → ∃ m : Nat, k' = m ∧ rest = l.drop m ∧ m2 + 1 ≤ m ∧ m ≤ l.length) (hp : Pb W' b sl k' ok) (hf : Fb b w W') (hx : okV x) (hpr : Pr .choice live (l.drop k) x rest ok) (hk : k ≤ m2) : RP .choice live l k b sl w (.returned x.v) W' := by
  unfold RP
  exact ⟨x, rest, ok, k', rfl, hp, hf, hx, hpr, fun h => by obtain ⟨m, e1, e2, e3, e4⟩ := hr h; exact ⟨m, e1, e2, by omega, e4⟩⟩
theorem ok_out {v a x : Vl} (ha : okV a) (hx : okV x) : okV (outM v a x) := by
  unfold outM okV
  split
  · exact ha
  · exact hx
theorem tl_put {w W W9 : World} {b M1 M2 : Nat} {sl : Value} {k : Int} {ok : Bool} {v a x : Vl} (h : Tl w W W9 b sl k ok M1 M2 v a x) (hub : W.heap.size + 1 ≠ b) (hur : w.heap.size < W.heap.size + 1) (h2 : M2 ≠ W.heap.size + 1) :
    On w ((W9.setCell ⟨W.heap.size + 1, 0, none⟩ (.int .u64 a.b)).setCell ⟨W.heap.size + 1, 1, none⟩ (.bool a.u)) b sl k ok 0 false ∧ RB ((W9.setCell ⟨W.heap.size + 1, 0, none⟩ (.int .u64 a.b)).setCell ⟨W.heap.size + 1, 1, none⟩ (.bool a.u)) M2 a.b a.u ∧ RB ((W9.setCell ⟨W.heap.size + 1, 0, none⟩ (.int .u64 a.b)).setCell ⟨W.heap.size + 1, 1, none⟩ (.bool a.u)) W.heap.size x.b x.u ∧ RB ((W9.setCell ⟨W.heap.size + 1, 0, none⟩ (.int .u64 a.b)).setCell ⟨W.heap.size + 1, 1, none⟩ (.bool a.u)) (W.heap.size + 1) a.b a.u :=
  ⟨(h.fo.oth hub hur).oth hub hur, (h.fa.other h2).other h2, (h.fx.other (by omega)).other (by omega), h.fu.put a.b a.u⟩
theorem ask_pr {live : Bool} {l : List Gt} {k m m2 : Nat} {v a x o : Vl} {rest : List Gt} {ok : Bool} (hc : Pr (.chain 2) live (l.drop k) v (l.drop m) true) (hq : ∃ hk : m < l.length, isS [63] l[m] = true ∧ l.drop m = l[m] :: l.drop (m + 1)) (ha : Pr .choice (live && v.b != 0) (l.drop (m + 1)) a (l.drop m2) true) (hq2 : ∃ hk : m2 < l.length, isS [58] l[m2] = true ∧ l.drop m2 = l[m2] :: l.drop (m2 + 1)) (hb : Pr .choice (live && v.b == 0) (l.drop (m2 + 1)) x rest ok) (ho : outM v a x = o) : Pr .choice live (l.drop k) o rest ok := by
  obtain ⟨h, g1, g2⟩ := hq
  obtain ⟨h', f1, f2⟩ := hq2
  rw [g2] at hc
  rw [f2] at ha
  rw [← ho]
  exact Pr.ask hc g1 ha f1 hb
set_option maxRecDepth 100000 in
set_option maxHeartbeats 16000000 in
theorem choice_any (live : Bool) (b : Nat) (p : Option Addr) (cap : Nat) (l : List Gt) (k : Nat) (w : World) (hl : l.length ≤ 1000000) (hP : Pb w b (.slice p l.length cap) k true) (hT : TkG b w (.slice p l.length cap) l) (IH : ChF l k b (.slice p l.length cap)) (HCn : CnF l k b (.slice p l.length cap)) :
    Calls Tryz.prog 11 #[.pointer (some ⟨b, 0, none⟩), .bool live] w (RP .choice live l k b (.slice p l.length cap) w) := by
  have HO := hide (on_made hP)
  have HT := hide (fun W (h : Fb b w W) => hT.fb h)
  have HI := hide IH
  have HC := hide HCn
  clear hP hT IH HCn
  go_enter Tryz.func11, Tryz.ntmps11
  go_wp2_with fail
  refine (unhide HC 1 live _ (by omega) (by omega) (unhide HO).p (unhide HT _ (unhide HO).f)).mono ?_
  rintro e W1 ⟨⟨vb, vu⟩, rest, ok, k', rfl, hp, hf, hx, hpr, hr⟩
  have HO2 := hide (((unhide HO).step hf hp).new (.cells #[.int .u64 vb, .bool vu] 44))
  have HV2 : Hid (RB (W1.alloc (.cells #[.int .u64 vb, .bool vu] 44)) W1.heap.size vb vu) := World.alloc_heap_new W1 _
  have HX := hide hx
  have HPR : Hid (Pr (.chain 2) live (l.drop k) ⟨vb, vu⟩ rest ok) := hpr
  have HR := hide hr
  clear hp hf HO hx hpr hr
  simp only [Vl.v] at *
  cases ok
  · go_wp2_with fail
    refine (takes_no [63] b _ k' _ (unhide HO2).p).mono ?_
    rintro e W2 ⟨rfl, hb⟩
    have hO3 := (unhide HO2).next hb
    obtain ⟨⟨r0, r1⟩, ⟨p0, p1, p2⟩, fr0, fr1, fp1, fp2, hne, hl1, hl2⟩ := hO3.all
    obtain ⟨v0, v1⟩ := ((unhide HV2).next hb).two
    have HO3 := hide hO3
    clear hb hO3
    go_wp2
    have hO4 := (unhide HO3).put vb vu
    exact bodyPost_ret (res_x (f := Tryz.f11) rfl rfl hO4.r rfl) rfl (RP.no (x := ⟨vb, vu⟩) (rest := []) hO4.p hO4.f (unhide HX) (Pr.no (unhide HPR)))
  · obtain ⟨m, rfl, rfl, hkm, hml⟩ := unhide HR rfl
    clear HR
    cases hq : seesM [63] l m
    · have HQ := hide hq
      clear hq
      go_wp2_with fail
      refine (takes_not [63] b p cap l m _ hl (unhide HO2).p (unhide HT _ (unhide HO2).f) (unhide HQ)).mono ?_
      rintro e W2 ⟨rfl, hb⟩
      have hO3 := (unhide HO2).next hb
      obtain ⟨⟨r0, r1⟩, ⟨p0, p1, p2⟩, fr0, fr1, fp1, fp2, hne, hl1, hl2⟩ := hO3.all
      obtain ⟨v0, v1⟩ := ((unhide HV2).next hb).two
      have HO3 := hide hO3
      clear hb hO3
      go_wp2
      have hO4 := (unhide HO3).put vb vu
      exact bodyPost_ret (res_x (f := Tryz.f11) rfl rfl hO4.r rfl) rfl (RP.yes m (x := ⟨vb, vu⟩) hO4.p hO4.f (unhide HX) (Pr.plain (unhide HPR) ((sees_nx _ _ _).symm.trans (unhide HQ))) hkm hml)
    · have HQ := hide (sees_lt hq)
      have HQ0 := hide hq
      clear hq
      go_wp2_with fail
      refine (takes_yes [63] b p cap l m _ hl (unhide HO2).p (unhide HT _ (unhide HO2).f) (unhide HQ0)).mono ?_
      rintro e W2 ⟨rfl, hp, hf⟩
      have hO3 := (unhide HO2).step hf hp
      have hV3 := (unhide HV2).fb hf (rb_ne (unhide HV2) (unhide HO2).p)
      obtain ⟨v0, v1⟩ := hV3.two
      have HO3 := hide hO3
      have HV3 := hide hV3
      clear hp hf hO3 hV3 HO2 HV2
      generalize W1.heap.size = M1 at *
      rcases zero_or vb with ⟨hz, hz', hz0, hz1⟩ | ⟨hz, hz', hz0, hz1⟩
      · cases live
        all_goals (
          go_wp2_with fail
          refine (unhide HI (m + 1) _ _ (by omega) (by obtain ⟨h, _⟩ := unhide HQ; omega) (unhide HO3).p (unhide HT _ (unhide HO3).f)).mono ?_
          rintro e W4 ⟨⟨ab, au⟩, rest2, ok2, k2, rfl, hp, hf, hxa, hpa, hra⟩
          have hO4 := (unhide HO3).step hf hp
          have HO5 := hide (hO4.new (.cells #[.int .u64 ab, .bool au] 44))
          have HV5 := hide (((unhide HV3).fb hf (rb_ne (unhide HV3) (unhide HO3).p)).next (below_new W4 (.cells #[.int .u64 ab, .bool au] 44)))
          have HA5 : Hid (RB (W4.alloc (.cells #[.int .u64 ab, .bool au] 44)) W4.heap.size ab au) := World.alloc_heap_new W4 _
          have HXA := hide hxa
          have HPA := hide hpa
          have HRA := hide hra
          clear hp hf hO4 hxa hpa hra v0 v1
          simp only [Vl.v] at *
          cases ok2
          · go_wp2_with fail
            refine (takes_no [58] b _ k2 _ (unhide HO5).p).mono ?_
            rintro e W6 ⟨rfl, hb⟩
            have hO6 := (unhide HO5).next hb
            have HV6 := hide ((unhide HV5).next hb)
            have HA6 := hide ((unhide HA5).next hb)
            clear hb
            have HO7 := hide (hO6.set2 false)
            have HV7 := hide ((unhide HV6).other (i := 2) (v := .bool false) (rb_ne (unhide HV6) hO6.p))
            have HA7 := hide ((unhide HA6).other (i := 2) (v := .bool false) (rb_ne (unhide HA6) hO6.p))
            obtain ⟨⟨r0, r1⟩, ⟨p0, p1, p2⟩, fr0, fr1, fp1, fp2, hne, hl1, hl2⟩ := hO6.all
            obtain ⟨v0, v1⟩ := (unhide HV6).two
            have hvb := rb_ne (unhide HV6) hO6.p
            clear hO6
            go_wp2_with fail
            refine (choice_no _ b _ _ _ (unhide HO7).p).mono ?_
            rintro e W8 ⟨rfl, hp, hf⟩
            have hO8 := (unhide HO7).step hf hp
            have hV8 := (unhide HV7).fb hf (rb_ne (unhide HV7) (unhide HO7).p)
            have hA8 := (unhide HA7).fb hf (rb_ne (unhide HA7) (unhide HO7).p)
            have hne2 : W8.heap.size + 1 ≠ W4.heap.size := by have := hA8.lt; omega
            have hne3 : W4.heap.size ≠ W8.heap.size + 1 := fun h => hne2 h.symm
            have HTL := hide (tl_made (v := ⟨vb, vu⟩) (a := ⟨ab, au⟩) hO8 hV8 hA8 0 false)
            have hw8 : w.heap.size < W8.heap.size := hO8.r.lt
            clear hp hf hO8 hV8 hA8 r0 r1 p0 p1 p2 fr0 fr1 fp1 fp2 hne hl1 hl2 v0 v1 hvb
            simp only [Vl.v] at *
            go_upto_region 9 with fail
            generalize ((W8.alloc (.cells #[.int .u64 0, .bool false] 44)).alloc (.cells #[.int .u64 0, .bool false] 44)) = W9 at *
            obtain ⟨⟨r0, r1⟩, ⟨p0, p1, p2⟩, fr0, fr1, fp1, fp2, hne, hl1, hl2⟩ := (unhide HTL).fo.all
            obtain ⟨v0, v1⟩ := (unhide HTL).fv.two
            obtain ⟨a0, a1⟩ := (unhide HTL).fa.two
            obtain ⟨x0, x1⟩ := (unhide HTL).fx.two
            obtain ⟨u0, u1⟩ := (unhide HTL).fu.two
            have fu0 := (unhide HTL).fu.frozen 0
            have fu1 := (unhide HTL).fu.frozen 1
            have hub := rb_ne (unhide HTL).fu (unhide HTL).fo.p
            have hur : w.heap.size < W8.heap.size + 1 := by omega
            cases au
            · go_wp2
              have hO10 := ((unhide HTL).fo.oth (M := W8.heap.size + 1) (i := 1) (y := .bool false) hub hur).put 0 false
              exact bodyPost_ret (res_x (f := Tryz.f11) rfl rfl hO10.r rfl) rfl (RP.no (rest := []) (x := ⟨0, false⟩) hO10.p hO10.f ⟨by decide, by decide⟩ (by
                     obtain ⟨h, g1, g2⟩ := unhide HQ
                     have hc := unhide HPR
                     rw [g2] at hc
                     exact Pr.askNo hc g1 (by simpa [hz, hz'] using unhide HPA) (.inl rfl)))
            · go_wp2
              have hO10 := ((unhide HTL).fo.oth (M := W8.heap.size + 1) (i := 1) (y := .bool true) hub hur).put 0 true
              exact bodyPost_ret (res_x (f := Tryz.f11) rfl rfl hO10.r rfl) rfl (RP.no (rest := []) (x := ⟨0, true⟩) hO10.p hO10.f ⟨by decide, by decide⟩ (by
                     obtain ⟨h, g1, g2⟩ := unhide HQ
                     have hc := unhide HPR
                     rw [g2] at hc
                     exact Pr.askNo hc g1 (by simpa [hz, hz'] using unhide HPA) (.inl rfl)))
          · obtain ⟨m2, rfl, rfl, hkm2, hml2⟩ := unhide HRA rfl
            clear HRA
            cases hq2 : seesM [58] l m2
            · have HQ2 := hide hq2
              clear hq2
              go_wp2_with fail
              refine (takes_not [58] b p cap l m2 _ hl (unhide HO5).p (unhide HT _ (unhide HO5).f) (unhide HQ2)).mono ?_
              rintro e W6 ⟨rfl, hb⟩
              have hO6 := (unhide HO5).next hb
              have HV6 := hide ((unhide HV5).next hb)
              have HA6 := hide ((unhide HA5).next hb)
              clear hb
              have HO7 := hide (hO6.set2 false)
              have HV7 := hide ((unhide HV6).other (i := 2) (v := .bool false) (rb_ne (unhide HV6) hO6.p))
              have HA7 := hide ((unhide HA6).other (i := 2) (v := .bool false) (rb_ne (unhide HA6) hO6.p))
              obtain ⟨⟨r0, r1⟩, ⟨p0, p1, p2⟩, fr0, fr1, fp1, fp2, hne, hl1, hl2⟩ := hO6.all
              obtain ⟨v0, v1⟩ := (unhide HV6).two
              have hvb := rb_ne (unhide HV6) hO6.p
              clear hO6
              go_wp2_with fail
              refine (choice_no _ b _ _ _ (unhide HO7).p).mono ?_
              rintro e W8 ⟨rfl, hp, hf⟩
              have hO8 := (unhide HO7).step hf hp
              have hV8 := (unhide HV7).fb hf (rb_ne (unhide HV7) (unhide HO7).p)
              have hA8 := (unhide HA7).fb hf (rb_ne (unhide HA7) (unhide HO7).p)
              have hne2 : W8.heap.size + 1 ≠ W4.heap.size := by have := hA8.lt; omega
              have hne3 : W4.heap.size ≠ W8.heap.size + 1 := fun h => hne2 h.symm
              have HTL := hide (tl_made (v := ⟨vb, vu⟩) (a := ⟨ab, au⟩) hO8 hV8 hA8 0 false)
              have hw8 : w.heap.size < W8.heap.size := hO8.r.lt
              clear hp hf hO8 hV8 hA8 r0 r1 p0 p1 p2 fr0 fr1 fp1 fp2 hne hl1 hl2 v0 v1 hvb
              simp only [Vl.v] at *
              go_upto_region 9 with fail
              generalize ((W8.alloc (.cells #[.int .u64 0, .bool false] 44)).alloc (.cells #[.int .u64 0, .bool false] 44)) = W9 at *
              obtain ⟨⟨r0, r1⟩, ⟨p0, p1, p2⟩, fr0, fr1, fp1, fp2, hne, hl1, hl2⟩ := (unhide HTL).fo.all
              obtain ⟨v0, v1⟩ := (unhide HTL).fv.two
              obtain ⟨a0, a1⟩ := (unhide HTL).fa.two
              obtain ⟨x0, x1⟩ := (unhide HTL).fx.two
              obtain ⟨u0, u1⟩ := (unhide HTL).fu.two
              have fu0 := (unhide HTL).fu.frozen 0
              have fu1 := (unhide HTL).fu.frozen 1
              have hub := rb_ne (unhide HTL).fu (unhide HTL).fo.p
              have hur : w.heap.size < W8.heap.size + 1 := by omega
              cases au
              · go_wp2
                have hO10 := ((unhide HTL).fo.oth (M := W8.heap.size + 1) (i := 1) (y := .bool false) hub hur).put 0 false
                exact bodyPost_ret (res_x (f := Tryz.f11) rfl rfl hO10.r rfl) rfl (RP.no (rest := []) (x := ⟨0, false⟩) hO10.p hO10.f ⟨by decide, by decide⟩ (by
                       obtain ⟨h, g1, g2⟩ := unhide HQ
                       have hc := unhide HPR
                       rw [g2] at hc
                       exact Pr.askNo hc g1 (by simpa [hz, hz'] using unhide HPA) (.inr ((sees_nx _ _ _).symm.trans (unhide HQ2)))))
              · go_wp2
                have hO10 := ((unhide HTL).fo.oth (M := W8.heap.size + 1) (i := 1) (y := .bool true) hub hur).put 0 true
                exact bodyPost_ret (res_x (f := Tryz.f11) rfl rfl hO10.r rfl) rfl (RP.no (rest := []) (x := ⟨0, true⟩) hO10.p hO10.f ⟨by decide, by decide⟩ (by
                       obtain ⟨h, g1, g2⟩ := unhide HQ
                       have hc := unhide HPR
                       rw [g2] at hc
                       exact Pr.askNo hc g1 (by simpa [hz, hz'] using unhide HPA) (.inr ((sees_nx _ _ _).symm.trans (unhide HQ2)))))
            · have HQ2 := hide (sees_lt hq2)
              have HQ3 := hide hq2
              clear hq2
              go_wp2_with fail
              refine (takes_yes [58] b p cap l m2 _ hl (unhide HO5).p (unhide HT _ (unhide HO5).f) (unhide HQ3)).mono ?_
              rintro e W6 ⟨rfl, hp, hf⟩
              have hO6 := (unhide HO5).step hf hp
              have HV6 := hide ((unhide HV5).fb hf (rb_ne (unhide HV5) (unhide HO5).p))
              have HA6 := hide ((unhide HA5).fb hf (rb_ne (unhide HA5) (unhide HO5).p))
              clear hp hf
              have HO7 := hide (hO6.set2 true)
              have HV7 := hide ((unhide HV6).other (i := 2) (v := .bool true) (rb_ne (unhide HV6) hO6.p))
              have HA7 := hide ((unhide HA6).other (i := 2) (v := .bool true) (rb_ne (unhide HA6) hO6.p))
              obtain ⟨⟨r0, r1⟩, ⟨p0, p1, p2⟩, fr0, fr1, fp1, fp2, hne, hl1, hl2⟩ := hO6.all
              obtain ⟨v0, v1⟩ := (unhide HV6).two
              have hvb := rb_ne (unhide HV6) hO6.p
              clear hO6
              go_wp2_with fail
              refine (unhide HI (m2 + 1) _ _ (by omega) (by obtain ⟨h, _⟩ := unhide HQ2; omega) (unhide HO7).p (unhide HT _ (unhide HO7).f)).mono ?_
              rintro e W8 ⟨⟨bb, bu⟩, rest3, ok3, k3, rfl, hp, hf, hxb, hpb, hrb⟩
              have HXB := hide hxb
              have HPB := hide hpb
              have HRB := hide hrb
              clear hxb hpb hrb
              have hO8 := (unhide HO7).step hf hp
              have hV8 := (unhide HV7).fb hf (rb_ne (unhide HV7) (unhide HO7).p)
              have hA8 := (unhide HA7).fb hf (rb_ne (unhide HA7) (unhide HO7).p)
              have hne2 : W8.heap.size + 1 ≠ W4.heap.size := by have := hA8.lt; omega
              have hne3 : W4.heap.size ≠ W8.heap.size + 1 := fun h => hne2 h.symm
              have HTL := hide (tl_made (v := ⟨vb, vu⟩) (a := ⟨ab, au⟩) hO8 hV8 hA8 bb bu)
              have hw8 : w.heap.size < W8.heap.size := hO8.r.lt
              clear hp hf hO8 hV8 hA8 r0 r1 p0 p1 p2 fr0 fr1 fp1 fp2 hne hl1 hl2 v0 v1 hvb
              simp only [Vl.v] at *
              go_upto_region 9 with fail
              generalize ((W8.alloc (.cells #[.int .u64 bb, .bool bu] 44)).alloc (.cells #[.int .u64 bb, .bool bu] 44)) = W9 at *
              obtain ⟨⟨r0, r1⟩, ⟨p0, p1, p2⟩, fr0, fr1, fp1, fp2, hne, hl1, hl2⟩ := (unhide HTL).fo.all
              obtain ⟨v0, v1⟩ := (unhide HTL).fv.two
              obtain ⟨a0, a1⟩ := (unhide HTL).fa.two
              obtain ⟨x0, x1⟩ := (unhide HTL).fx.two
              obtain ⟨u0, u1⟩ := (unhide HTL).fu.two
              have fu0 := (unhide HTL).fu.frozen 0
              have fu1 := (unhide HTL).fu.frozen 1
              have hub := rb_ne (unhide HTL).fu (unhide HTL).fo.p
              have hur : w.heap.size < W8.heap.size + 1 := by omega
              cases au
              · go_wp2
                have hO10 := ((unhide HTL).fo.oth (M := W8.heap.size + 1) (i := 1) (y := .bool bu) hub hur).put bb bu
                refine bodyPost_ret (res_x (f := Tryz.f11) rfl rfl hO10.r rfl) rfl (RP.ask (unhide HRB) (x := ⟨bb, bu⟩) hO10.p hO10.f ⟨(unhide HXB).1, (unhide HXB).2⟩ ?_ (by omega))
                exact ask_pr (unhide HPR) (unhide HQ) (by simpa [hz, hz'] using unhide HPA) (unhide HQ2) (by simpa [hz, hz'] using unhide HPB) (by simp [outM, hz'])
              · go_wp2
                have hO10 := ((unhide HTL).fo.oth (M := W8.heap.size + 1) (i := 1) (y := .bool true) hub hur).put bb true
                refine bodyPost_ret (res_x (f := Tryz.f11) rfl rfl hO10.r rfl) rfl (RP.ask (unhide HRB) (x := ⟨bb, true⟩) hO10.p hO10.f ⟨(unhide HXB).1, (unhide HXB).2⟩ ?_ (by omega))
                exact ask_pr (unhide HPR) (unhide HQ) (by simpa [hz, hz'] using unhide HPA) (unhide HQ2) (by simpa [hz, hz'] using unhide HPB) (by simp [outM, hz']))
      · cases live
        all_goals (
          go_wp2_with fail
          refine (unhide HI (m + 1) _ _ (by omega) (by obtain ⟨h, _⟩ := unhide HQ; omega) (unhide HO3).p (unhide HT _ (unhide HO3).f)).mono ?_
          rintro e W4 ⟨⟨ab, au⟩, rest2, ok2, k2, rfl, hp, hf, hxa, hpa, hra⟩
          have hO4 := (unhide HO3).step hf hp
          have HO5 := hide (hO4.new (.cells #[.int .u64 ab, .bool au] 44))
          have HV5 := hide (((unhide HV3).fb hf (rb_ne (unhide HV3) (unhide HO3).p)).next (below_new W4 (.cells #[.int .u64 ab, .bool au] 44)))
          have HA5 : Hid (RB (W4.alloc (.cells #[.int .u64 ab, .bool au] 44)) W4.heap.size ab au) := World.alloc_heap_new W4 _
          have HXA := hide hxa
          have HPA := hide hpa
          have HRA := hide hra
          clear hp hf hO4 hxa hpa hra v0 v1
          simp only [Vl.v] at *
          cases ok2
          · go_wp2_with fail
            refine (takes_no [58] b _ k2 _ (unhide HO5).p).mono ?_
            rintro e W6 ⟨rfl, hb⟩
            have hO6 := (unhide HO5).next hb
            have HV6 := hide ((unhide HV5).next hb)
            have HA6 := hide ((unhide HA5).next hb)
            clear hb
            have HO7 := hide (hO6.set2 false)
            have HV7 := hide ((unhide HV6).other (i := 2) (v := .bool false) (rb_ne (unhide HV6) hO6.p))
            have HA7 := hide ((unhide HA6).other (i := 2) (v := .bool false) (rb_ne (unhide HA6) hO6.p))
            obtain ⟨⟨r0, r1⟩, ⟨p0, p1, p2⟩, fr0, fr1, fp1, fp2, hne, hl1, hl2⟩ := hO6.all
            obtain ⟨v0, v1⟩ := (unhide HV6).two
            have hvb := rb_ne (unhide HV6) hO6.p
            clear hO6
            go_wp2_with fail
            refine (choice_no _ b _ _ _ (unhide HO7).p).mono ?_
            rintro e W8 ⟨rfl, hp, hf⟩
            have hO8 := (unhide HO7).step hf hp
            have hV8 := (unhide HV7).fb hf (rb_ne (unhide HV7) (unhide HO7).p)
            have hA8 := (unhide HA7).fb hf (rb_ne (unhide HA7) (unhide HO7).p)
            have hne2 : W8.heap.size + 1 ≠ W4.heap.size := by have := hA8.lt; omega
            have hne3 : W4.heap.size ≠ W8.heap.size + 1 := fun h => hne2 h.symm
            have HTL := hide (tl_made (v := ⟨vb, vu⟩) (a := ⟨ab, au⟩) hO8 hV8 hA8 0 false)
            have hw8 : w.heap.size < W8.heap.size := hO8.r.lt
            clear hp hf hO8 hV8 hA8 r0 r1 p0 p1 p2 fr0 fr1 fp1 fp2 hne hl1 hl2 v0 v1 hvb
            simp only [Vl.v] at *
            go_upto_region 9 with fail
            generalize ((W8.alloc (.cells #[.int .u64 0, .bool false] 44)).alloc (.cells #[.int .u64 0, .bool false] 44)) = W9 at *
            obtain ⟨⟨r0, r1⟩, ⟨p0, p1, p2⟩, fr0, fr1, fp1, fp2, hne, hl1, hl2⟩ := (unhide HTL).fo.all
            obtain ⟨v0, v1⟩ := (unhide HTL).fv.two
            obtain ⟨a0, a1⟩ := (unhide HTL).fa.two
            obtain ⟨x0, x1⟩ := (unhide HTL).fx.two
            obtain ⟨u0, u1⟩ := (unhide HTL).fu.two
            have fu0 := (unhide HTL).fu.frozen 0
            have fu1 := (unhide HTL).fu.frozen 1
            have hub := rb_ne (unhide HTL).fu (unhide HTL).fo.p
            have hur : w.heap.size < W8.heap.size + 1 := by omega
            go_upto_region 11 with fail
            have HTM := hide (tl_put (unhide HTL) hub hur hne3)
            simp only at HTM
            generalize ((W9.setCell ⟨W8.heap.size + 1, 0, none⟩ (.int .u64 ab)).setCell ⟨W8.heap.size + 1, 1, none⟩ (.bool au)) = W10 at *
            clear r0 r1 p0 p1 p2 fr0 fr1 fp1 fp2 hne hl1 hl2 v0 v1 a0 a1 x0 x1 u0 u1 fu0 fu1 HTL
            obtain ⟨⟨r0, r1⟩, ⟨p0, p1, p2⟩, fr0, fr1, fp1, fp2, hne, hl1, hl2⟩ := (unhide HTM).1.all
            obtain ⟨a0, a1⟩ := (unhide HTM).2.1.two
            obtain ⟨x0, x1⟩ := (unhide HTM).2.2.1.two
            obtain ⟨u0, u1⟩ := (unhide HTM).2.2.2.two
            have fu0 := (unhide HTM).2.2.2.frozen 0
            have fu1 := (unhide HTM).2.2.2.frozen 1
            cases au
            · go_wp2
              have hO10 := ((unhide HTM).1.oth (M := W8.heap.size + 1) (i := 1) (y := .bool false) hub hur).put ab false
              exact bodyPost_ret (res_x (f := Tryz.f11) rfl rfl hO10.r rfl) rfl (RP.no (rest := []) (x := ⟨ab, false⟩) hO10.p hO10.f ⟨(unhide HXA).1, (unhide HXA).2⟩ (by
                     obtain ⟨h, g1, g2⟩ := unhide HQ
                     have hc := unhide HPR
                     rw [g2] at hc
                     exact Pr.askNo hc g1 (by simpa [hz, hz'] using unhide HPA) (.inl rfl)))
            · go_wp2
              have hO10 := ((unhide HTM).1.oth (M := W8.heap.size + 1) (i := 1) (y := .bool true) hub hur).put ab true
              exact bodyPost_ret (res_x (f := Tryz.f11) rfl rfl hO10.r rfl) rfl (RP.no (rest := []) (x := ⟨ab, true⟩) hO10.p hO10.f ⟨(unhide HXA).1, (unhide HXA).2⟩ (by
                     obtain ⟨h, g1, g2⟩ := unhide HQ
                     have hc := unhide HPR
                     rw [g2] at hc
                     exact Pr.askNo hc g1 (by simpa [hz, hz'] using unhide HPA) (.inl rfl)))
          · obtain ⟨m2, rfl, rfl, hkm2, hml2⟩ := unhide HRA rfl
            clear HRA
            cases hq2 : seesM [58] l m2
            · have HQ2 := hide hq2
              clear hq2
              go_wp2_with fail
              refine (takes_not [58] b p cap l m2 _ hl (unhide HO5).p (unhide HT _ (unhide HO5).f) (unhide HQ2)).mono ?_
              rintro e W6 ⟨rfl, hb⟩
              have hO6 := (unhide HO5).next hb
              have HV6 := hide ((unhide HV5).next hb)
              have HA6 := hide ((unhide HA5).next hb)
              clear hb
              have HO7 := hide (hO6.set2 false)
              have HV7 := hide ((unhide HV6).other (i := 2) (v := .bool false) (rb_ne (unhide HV6) hO6.p))
              have HA7 := hide ((unhide HA6).other (i := 2) (v := .bool false) (rb_ne (unhide HA6) hO6.p))
              obtain ⟨⟨r0, r1⟩, ⟨p0, p1, p2⟩, fr0, fr1, fp1, fp2, hne, hl1, hl2⟩ := hO6.all
              obtain ⟨v0, v1⟩ := (unhide HV6).two
              have hvb := rb_ne (unhide HV6) hO6.p
              clear hO6
              go_wp2_with fail
              refine (choice_no _ b _ _ _ (unhide HO7).p).mono ?_
              rintro e W8 ⟨rfl, hp, hf⟩
              have hO8 := (unhide HO7).step hf hp
              have hV8 := (unhide HV7).fb hf (rb_ne (unhide HV7) (unhide HO7).p)
              have hA8 := (unhide HA7).fb hf (rb_ne (unhide HA7) (unhide HO7).p)
              have hne2 : W8.heap.size + 1 ≠ W4.heap.size := by have := hA8.lt; omega
              have hne3 : W4.heap.size ≠ W8.heap.size + 1 := fun h => hne2 h.symm
              have HTL := hide (tl_made (v := ⟨vb, vu⟩) (a := ⟨ab, au⟩) hO8 hV8 hA8 0 false)
              have hw8 : w.heap.size < W8.heap.size := hO8.r.lt
              clear hp hf hO8 hV8 hA8 r0 r1 p0 p1 p2 fr0 fr1 fp1 fp2 hne hl1 hl2 v0 v1 hvb
              simp only [Vl.v] at *
              go_upto_region 9 with fail
              generalize ((W8.alloc (.cells #[.int .u64 0, .bool false] 44)).alloc (.cells #[.int .u64 0, .bool false] 44)) = W9 at *
              obtain ⟨⟨r0, r1⟩, ⟨p0, p1, p2⟩, fr0, fr1, fp1, fp2, hne, hl1, hl2⟩ := (unhide HTL).fo.all
              obtain ⟨v0, v1⟩ := (unhide HTL).fv.two
              obtain ⟨a0, a1⟩ := (unhide HTL).fa.two
              obtain ⟨x0, x1⟩ := (unhide HTL).fx.two
              obtain ⟨u0, u1⟩ := (unhide HTL).fu.two
              have fu0 := (unhide HTL).fu.frozen 0
              have fu1 := (unhide HTL).fu.frozen 1
              have hub := rb_ne (unhide HTL).fu (unhide HTL).fo.p
              have hur : w.heap.size < W8.heap.size + 1 := by omega
              go_upto_region 11 with fail
              have HTM := hide (tl_put (unhide HTL) hub hur hne3)
              simp only at HTM
              generalize ((W9.setCell ⟨W8.heap.size + 1, 0, none⟩ (.int .u64 ab)).setCell ⟨W8.heap.size + 1, 1, none⟩ (.bool au)) = W10 at *
              clear r0 r1 p0 p1 p2 fr0 fr1 fp1 fp2 hne hl1 hl2 v0 v1 a0 a1 x0 x1 u0 u1 fu0 fu1 HTL
              obtain ⟨⟨r0, r1⟩, ⟨p0, p1, p2⟩, fr0, fr1, fp1, fp2, hne, hl1, hl2⟩ := (unhide HTM).1.all
              obtain ⟨a0, a1⟩ := (unhide HTM).2.1.two
              obtain ⟨x0, x1⟩ := (unhide HTM).2.2.1.two
              obtain ⟨u0, u1⟩ := (unhide HTM).2.2.2.two
              have fu0 := (unhide HTM).2.2.2.frozen 0
              have fu1 := (unhide HTM).2.2.2.frozen 1
              cases au
              · go_wp2
                have hO10 := ((unhide HTM).1.oth (M := W8.heap.size + 1) (i := 1) (y := .bool false) hub hur).put ab false
                exact bodyPost_ret (res_x (f := Tryz.f11) rfl rfl hO10.r rfl) rfl (RP.no (rest := []) (x := ⟨ab, false⟩) hO10.p hO10.f ⟨(unhide HXA).1, (unhide HXA).2⟩ (by
                       obtain ⟨h, g1, g2⟩ := unhide HQ
                       have hc := unhide HPR
                       rw [g2] at hc
                       exact Pr.askNo hc g1 (by simpa [hz, hz'] using unhide HPA) (.inr ((sees_nx _ _ _).symm.trans (unhide HQ2)))))
              · go_wp2
                have hO10 := ((unhide HTM).1.oth (M := W8.heap.size + 1) (i := 1) (y := .bool true) hub hur).put ab true
                exact bodyPost_ret (res_x (f := Tryz.f11) rfl rfl hO10.r rfl) rfl (RP.no (rest := []) (x := ⟨ab, true⟩) hO10.p hO10.f ⟨(unhide HXA).1, (unhide HXA).2⟩ (by
                       obtain ⟨h, g1, g2⟩ := unhide HQ
                       have hc := unhide HPR
                       rw [g2] at hc
                       exact Pr.askNo hc g1 (by simpa [hz, hz'] using unhide HPA) (.inr ((sees_nx _ _ _).symm.trans (unhide HQ2)))))
            · have HQ2 := hide (sees_lt hq2)
              have HQ3 := hide hq2
              clear hq2
              go_wp2_with fail
              refine (takes_yes [58] b p cap l m2 _ hl (unhide HO5).p (unhide HT _ (unhide HO5).f) (unhide HQ3)).mono ?_
              rintro e W6 ⟨rfl, hp, hf⟩
              have hO6 := (unhide HO5).step hf hp
              have HV6 := hide ((unhide HV5).fb hf (rb_ne (unhide HV5) (unhide HO5).p))
              have HA6 := hide ((unhide HA5).fb hf (rb_ne (unhide HA5) (unhide HO5).p))
              clear hp hf
              have HO7 := hide (hO6.set2 true)
              have HV7 := hide ((unhide HV6).other (i := 2) (v := .bool true) (rb_ne (unhide HV6) hO6.p))
              have HA7 := hide ((unhide HA6).other (i := 2) (v := .bool true) (rb_ne (unhide HA6) hO6.p))
              obtain ⟨⟨r0, r1⟩, ⟨p0, p1, p2⟩, fr0, fr1, fp1, fp2, hne, hl1, hl2⟩ := hO6.all
              obtain ⟨v0, v1⟩ := (unhide HV6).two
              have hvb := rb_ne (unhide HV6) hO6.p
              clear hO6
              go_wp2_with fail
              refine (unhide HI (m2 + 1) _ _ (by omega) (by obtain ⟨h, _⟩ := unhide HQ2; omega) (unhide HO7).p (unhide HT _ (unhide HO7).f)).mono ?_
              rintro e W8 ⟨⟨bb, bu⟩, rest3, ok3, k3, rfl, hp, hf, hxb, hpb, hrb⟩
              have HXB := hide hxb
              have HPB := hide hpb
              have HRB := hide hrb
              clear hxb hpb hrb
              have hO8 := (unhide HO7).step hf hp
              have hV8 := (unhide HV7).fb hf (rb_ne (unhide HV7) (unhide HO7).p)
              have hA8 := (unhide HA7).fb hf (rb_ne (unhide HA7) (unhide HO7).p)
              have hne2 : W8.heap.size + 1 ≠ W4.heap.size := by have := hA8.lt; omega
              have hne3 : W4.heap.size ≠ W8.heap.size + 1 := fun h => hne2 h.symm
              have HTL := hide (tl_made (v := ⟨vb, vu⟩) (a := ⟨ab, au⟩) hO8 hV8 hA8 bb bu)
              have hw8 : w.heap.size < W8.heap.size := hO8.r.lt
              clear hp hf hO8 hV8 hA8 r0 r1 p0 p1 p2 fr0 fr1 fp1 fp2 hne hl1 hl2 v0 v1 hvb
              simp only [Vl.v] at *
              go_upto_region 9 with fail
              generalize ((W8.alloc (.cells #[.int .u64 bb, .bool bu] 44)).alloc (.cells #[.int .u64 bb, .bool bu] 44)) = W9 at *
              obtain ⟨⟨r0, r1⟩, ⟨p0, p1, p2⟩, fr0, fr1, fp1, fp2, hne, hl1, hl2⟩ := (unhide HTL).fo.all
              obtain ⟨v0, v1⟩ := (unhide HTL).fv.two
              obtain ⟨a0, a1⟩ := (unhide HTL).fa.two
              obtain ⟨x0, x1⟩ := (unhide HTL).fx.two
              obtain ⟨u0, u1⟩ := (unhide HTL).fu.two
              have fu0 := (unhide HTL).fu.frozen 0
              have fu1 := (unhide HTL).fu.frozen 1
              have hub := rb_ne (unhide HTL).fu (unhide HTL).fo.p
              have hur : w.heap.size < W8.heap.size + 1 := by omega
              go_upto_region 11 with fail
              have HTM := hide (tl_put (unhide HTL) hub hur hne3)
              simp only at HTM
              generalize ((W9.setCell ⟨W8.heap.size + 1, 0, none⟩ (.int .u64 ab)).setCell ⟨W8.heap.size + 1, 1, none⟩ (.bool au)) = W10 at *
              clear r0 r1 p0 p1 p2 fr0 fr1 fp1 fp2 hne hl1 hl2 v0 v1 a0 a1 x0 x1 u0 u1 fu0 fu1 HTL
              obtain ⟨⟨r0, r1⟩, ⟨p0, p1, p2⟩, fr0, fr1, fp1, fp2, hne, hl1, hl2⟩ := (unhide HTM).1.all
              obtain ⟨a0, a1⟩ := (unhide HTM).2.1.two
              obtain ⟨x0, x1⟩ := (unhide HTM).2.2.1.two
              obtain ⟨u0, u1⟩ := (unhide HTM).2.2.2.two
              have fu0 := (unhide HTM).2.2.2.frozen 0
              have fu1 := (unhide HTM).2.2.2.frozen 1
              cases au
              · go_wp2
                have hO10 := ((unhide HTM).1.oth (M := W8.heap.size + 1) (i := 1) (y := .bool bu) hub hur).put ab bu
                refine bodyPost_ret (res_x (f := Tryz.f11) rfl rfl hO10.r rfl) rfl (RP.ask (unhide HRB) (x := ⟨ab, bu⟩) hO10.p hO10.f ⟨(unhide HXA).1, (unhide HXA).2⟩ ?_ (by omega))
                exact ask_pr (unhide HPR) (unhide HQ) (by simpa [hz, hz'] using unhide HPA) (unhide HQ2) (by simpa [hz, hz'] using unhide HPB) (by simp [outM, hz'])
              · go_wp2
                have hO10 := ((unhide HTM).1.oth (M := W8.heap.size + 1) (i := 1) (y := .bool true) hub hur).put ab true
                refine bodyPost_ret (res_x (f := Tryz.f11) rfl rfl hO10.r rfl) rfl (RP.ask (unhide HRB) (x := ⟨ab, true⟩) hO10.p hO10.f ⟨(unhide HXA).1, (unhide HXA).2⟩ ?_ (by omega))
                exact ask_pr (unhide HPR) (unhide HQ) (by simpa [hz, hz'] using unhide HPA) (unhide HQ2) (by simpa [hz, hz'] using unhide HPB) (by simp [outM, hz']))
end Go.Proofs.YtfghfohlcofdpaaGreatDoor
