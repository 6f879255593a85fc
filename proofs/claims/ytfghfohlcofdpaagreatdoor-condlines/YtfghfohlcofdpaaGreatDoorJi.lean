/-
  The document's parser: front.
-/
import Derived.Test.YtfghfohlcofdpaaGreatDoorJg
namespace Go.Proofs.YtfghfohlcofdpaaGreatDoor
open Go Go.RowKit
set_option linter.unusedVariables false
set_option linter.unusedSimpArgs false

/-- What the parser's front tells, further on. -/
def FrF (l : List Gt) (k b : Nat) (sl : Value) : Prop := ∀ (k' : Nat) (live : Bool) (W : World), k < k' → k' ≤ l.length → Pb W b sl k' true → TkG b W sl l → Calls Tryz.prog 31 #[.pointer (some ⟨b, 0, none⟩), .bool live] W (RP .front live l k' b sl W)
/-- What atom tells here. -/
def AtF (l : List Gt) (k b : Nat) (sl : Value) : Prop := ∀ (live : Bool) (W : World), Pb W b sl k true → TkG b W sl l → Calls Tryz.prog 51 #[.pointer (some ⟨b, 0, none⟩), .bool live] W (RP .atom live l k b sl W)
theorem RP.pre {live : Bool} {l : List Gt} {k b : Nat} {sl : Value} {w W W' : World} {s : List UInt8} (hs : seesM s l k = true) (hpre : ∀ t : Gt, isS s t = true → preS t = true) {x : Vl} {rest : List Gt} {ok : Bool} {k' : Int} (hp : Pb W' b sl k' ok) (hf : Fb b w W') (hx : okV x) (hpr : Pr .front live (l.drop (k + 1)) x rest ok) (hr : ok = true → ∃ m : Nat, k' = m ∧ rest = l.drop m ∧ k + 1 ≤ m ∧ m ≤ l.length) :
    RP .front live l k b sl w (.returned (prefM s x).v) W' := by
  obtain ⟨hk, h1, h2⟩ := sees_lt hs
  have hts : l[k].s = s := (isS_iff h1).2
  have hP : Pr .front live (l.drop k) (prefM s x) rest ok := by
    rw [h2, ← hts]
    exact Pr.frontPre (hpre _ h1) hpr
  unfold RP
  exact ⟨_, rest, ok, k', rfl, hp, hf, ok_pref s hx, hP, fun h => by obtain ⟨m, e1, e2, e3, e4⟩ := hr h; exact ⟨m, e1, e2, by omega, e4⟩⟩
set_option maxRecDepth 100000 in
set_option maxHeartbeats 8000000 in
theorem front_any (live : Bool) (b : Nat) (p : Option Addr) (cap : Nat) (l : List Gt) (k : Nat) (w : World) (hl : l.length ≤ 1000000) (hP : Pb w b (.slice p l.length cap) k true) (hT : TkG b w (.slice p l.length cap) l) (IH : FrF l k b (.slice p l.length cap)) (HAt : AtF l k b (.slice p l.length cap)) :
    Calls Tryz.prog 31 #[.pointer (some ⟨b, 0, none⟩), .bool live] w (RP .front live l k b (.slice p l.length cap) w) := by
  have HO := hide (on_made hP)
  have HT := hide (fun W (h : Fb b w W) => hT.fb h)
  have HI := hide IH
  have HA := hide HAt
  have HTr := hide (fun b w => rtruth_any b w)
  clear hP hT IH HAt
  cases h1 : seesM [43] l k
  · cases h2 : seesM [45] l k
    · cases h3 : seesM [126] l k
      · cases h4 : seesM [33] l k
        · have H1 := hide h1
          have H2 := hide h2
          have H3 := hide h3
          have H4 := hide h4
          clear h1 h2 h3 h4
          go_enter Tryz.func31, Tryz.ntmps31
          go_wp2_with fail
          refine (takes_not [43] b p cap l k _ hl (unhide HO).p (unhide HT _ (unhide HO).f) (unhide H1)).mono ?_
          rintro e W1 ⟨rfl, hb1⟩
          have HO1 := hide ((unhide HO).next hb1)
          clear hb1 HO
          go_wp2_with fail
          refine (takes_not [45] b p cap l k _ hl (unhide HO1).p (unhide HT _ (unhide HO1).f) (unhide H2)).mono ?_
          rintro e W2 ⟨rfl, hb1⟩
          have HO2 := hide ((unhide HO1).next hb1)
          clear hb1 HO1
          go_wp2_with fail
          refine (takes_not [126] b p cap l k _ hl (unhide HO2).p (unhide HT _ (unhide HO2).f) (unhide H3)).mono ?_
          rintro e W3 ⟨rfl, hb1⟩
          have HO3 := hide ((unhide HO2).next hb1)
          clear hb1 HO2
          go_wp2_with fail
          refine (takes_not [33] b p cap l k _ hl (unhide HO3).p (unhide HT _ (unhide HO3).f) (unhide H4)).mono ?_
          rintro e W4 ⟨rfl, hb1⟩
          have HO4 := hide ((unhide HO3).next hb1)
          clear hb1 HO3
          go_wp2_with fail
          refine (unhide HA live _ (unhide HO4).p (unhide HT _ (unhide HO4).f)).mono ?_
          rintro e W5 ⟨⟨xb, xu⟩, rest, ok, k', rfl, hp, hf, hx, hpr, hr⟩
          have hO5 := (unhide HO4).step hf hp
          obtain ⟨⟨r0, r1⟩, ⟨p0, p1, p2⟩, fr0, fr1, fp1, fp2, hne, hl1, hl2⟩ := hO5.all
          have HO5 := hide hO5
          have HX := hide hx
          have HPR := hide hpr
          have HR := hide hr
          clear hp hf hO5 HO4 hx hpr hr
          simp only [Vl.v] at *
          go_wp2
          have hO6 := (unhide HO5).put xb xu
          refine bodyPost_ret (res_x (f := Tryz.f31) rfl rfl hO6.r rfl) rfl ?_
          show RP .front live l k b _ w (.returned (Vl.v ⟨xb, xu⟩)) _
          unfold RP
          refine ⟨⟨xb, xu⟩, rest, ok, k', rfl, hO6.p, hO6.f, unhide HX, Pr.frontAtom (fun t r e => ?_) (unhide HPR), unhide HR⟩
          have q1 := (sees_nx [43] l k).symm.trans (unhide H1)
          have q2 := (sees_nx [45] l k).symm.trans (unhide H2)
          have q3 := (sees_nx [126] l k).symm.trans (unhide H3)
          have q4 := (sees_nx [33] l k).symm.trans (unhide H4)
          rw [e] at q1 q2 q3 q4
          simp only [nxS] at q1 q2 q3 q4
          simp [preS, q1, q2, q3, q4]
        · have H1 := hide h1
          have H2 := hide h2
          have H3 := hide h3
          have H4 := hide h4
          clear h1 h2 h3 h4
          go_enter Tryz.func31, Tryz.ntmps31
          go_wp2_with fail
          refine (takes_not [43] b p cap l k _ hl (unhide HO).p (unhide HT _ (unhide HO).f) (unhide H1)).mono ?_
          rintro e W1 ⟨rfl, hb1⟩
          have HO1 := hide ((unhide HO).next hb1)
          clear hb1 HO
          go_wp2_with fail
          refine (takes_not [45] b p cap l k _ hl (unhide HO1).p (unhide HT _ (unhide HO1).f) (unhide H2)).mono ?_
          rintro e W2 ⟨rfl, hb1⟩
          have HO2 := hide ((unhide HO1).next hb1)
          clear hb1 HO1
          go_wp2_with fail
          refine (takes_not [126] b p cap l k _ hl (unhide HO2).p (unhide HT _ (unhide HO2).f) (unhide H3)).mono ?_
          rintro e W3 ⟨rfl, hb1⟩
          have HO3 := hide ((unhide HO2).next hb1)
          clear hb1 HO2
          go_wp2_with fail
          refine (takes_yes [33] b p cap l k _ hl (unhide HO3).p (unhide HT _ (unhide HO3).f) (unhide H4)).mono ?_
          rintro e W4 ⟨rfl, hp, hf⟩
          have HO4 := hide ((unhide HO3).step hf hp)
          clear hp hf HO3
          go_wp2_with fail
          refine (unhide HI (k + 1) live _ (by omega) (by obtain ⟨h, _⟩ := sees_lt (unhide H4); omega) (unhide HO4).p (unhide HT _ (unhide HO4).f)).mono ?_
          rintro e W5 ⟨⟨xb, xu⟩, rest, ok, k', rfl, hp, hf, hx, hpr, hr⟩
          have hO5 := (unhide HO4).step hf hp
          have HO5 := hide (hO5.new (.cells #[.int .u64 xb, .bool xu] 44))
          have HV5 : Hid (RB (W5.alloc (.cells #[.int .u64 xb, .bool xu] 44)) W5.heap.size xb xu) := World.alloc_heap_new W5 _
          have HX := hide hx
          have HPR := hide hpr
          have HR := hide hr
          clear hp hf hO5 HO4 hx hpr hr
          simp only [Vl.v] at *
          go_wp2_with fail
          refine (unhide HTr _ _).mono ?_
          rintro e W6 ⟨rfl, hb6⟩
          have hO6 := (unhide HO5).next hb6
          obtain ⟨⟨r0, r1⟩, ⟨p0, p1, p2⟩, fr0, fr1, fp1, fp2, hne, hl1, hl2⟩ := hO6.all
          have HO6 := hide hO6
          clear hb6 hO6
          go_wp2
          have hO7 := (unhide HO6).put (truthM (xb == 0)).b (truthM (xb == 0)).u
          exact bodyPost_ret (res_x (f := Tryz.f31) rfl rfl hO7.r rfl) rfl (RP.pre (s := [33]) (x := ⟨xb, xu⟩) (W := w) (unhide H4) (fun t h => by simp [preS, h]) hO7.p hO7.f (unhide HX) (unhide HPR) (unhide HR))
      · have H1 := hide h1
        have H2 := hide h2
        have H3 := hide h3
        clear h1 h2 h3
        go_enter Tryz.func31, Tryz.ntmps31
        go_wp2_with fail
        refine (takes_not [43] b p cap l k _ hl (unhide HO).p (unhide HT _ (unhide HO).f) (unhide H1)).mono ?_
        rintro e W1 ⟨rfl, hb1⟩
        have HO1 := hide ((unhide HO).next hb1)
        clear hb1 HO
        go_wp2_with fail
        refine (takes_not [45] b p cap l k _ hl (unhide HO1).p (unhide HT _ (unhide HO1).f) (unhide H2)).mono ?_
        rintro e W2 ⟨rfl, hb1⟩
        have HO3 := hide ((unhide HO1).next hb1)
        clear hb1 HO1
        go_wp2_with fail
        refine (takes_yes [126] b p cap l k _ hl (unhide HO3).p (unhide HT _ (unhide HO3).f) (unhide H3)).mono ?_
        rintro e W4 ⟨rfl, hp, hf⟩
        have HO4 := hide ((unhide HO3).step hf hp)
        clear hp hf HO3
        go_wp2_with fail
        refine (unhide HI (k + 1) live _ (by omega) (by obtain ⟨h, _⟩ := sees_lt (unhide H3); omega) (unhide HO4).p (unhide HT _ (unhide HO4).f)).mono ?_
        rintro e W5 ⟨⟨xb, xu⟩, rest, ok, k', rfl, hp, hf, hx, hpr, hr⟩
        have hO5 := ((unhide HO4).step hf hp).new (.cells #[.int .u64 xb, .bool xu] 44)
        have hV5 : RB (W5.alloc (.cells #[.int .u64 xb, .bool xu] 44)) W5.heap.size xb xu := World.alloc_heap_new W5 _
        have HO5 := hide hO5
        have HX := hide hx
        have HPR := hide hpr
        have HR := hide hr
        obtain ⟨⟨r0, r1⟩, ⟨p0, p1, p2⟩, fr0, fr1, fp1, fp2, hne, hl1, hl2⟩ := hO5.all
        obtain ⟨v0, v1⟩ := hV5.two
        clear hp hf hO5 HO4 hx hpr hr hV5
        simp only [Vl.v] at *
        go_wp2
        have hO7 := (unhide HO5).put (bits .xor .u64 IntKind.u64.max xb) xu
        exact bodyPost_ret (res_x (f := Tryz.f31) rfl rfl hO7.r rfl) rfl (RP.pre (s := [126]) (x := ⟨xb, xu⟩) (W := w) (unhide H3) (fun t h => by simp [preS, h]) hO7.p hO7.f (unhide HX) (unhide HPR) (unhide HR))
    · have H1 := hide h1
      have H2 := hide h2
      clear h1 h2
      go_enter Tryz.func31, Tryz.ntmps31
      go_wp2_with fail
      refine (takes_not [43] b p cap l k _ hl (unhide HO).p (unhide HT _ (unhide HO).f) (unhide H1)).mono ?_
      rintro e W1 ⟨rfl, hb1⟩
      have HO3 := hide ((unhide HO).next hb1)
      clear hb1 HO
      go_wp2_with fail
      refine (takes_yes [45] b p cap l k _ hl (unhide HO3).p (unhide HT _ (unhide HO3).f) (unhide H2)).mono ?_
      rintro e W4 ⟨rfl, hp, hf⟩
      have HO4 := hide ((unhide HO3).step hf hp)
      clear hp hf HO3
      go_wp2_with fail
      refine (unhide HI (k + 1) live _ (by omega) (by obtain ⟨h, _⟩ := sees_lt (unhide H2); omega) (unhide HO4).p (unhide HT _ (unhide HO4).f)).mono ?_
      rintro e W5 ⟨⟨xb, xu⟩, rest, ok, k', rfl, hp, hf, hx, hpr, hr⟩
      have hO5 := ((unhide HO4).step hf hp).new (.cells #[.int .u64 xb, .bool xu] 44)
      have hV5 : RB (W5.alloc (.cells #[.int .u64 xb, .bool xu] 44)) W5.heap.size xb xu := World.alloc_heap_new W5 _
      have HO5 := hide hO5
      have HX := hide hx
      have HPR := hide hpr
      have HR := hide hr
      obtain ⟨⟨r0, r1⟩, ⟨p0, p1, p2⟩, fr0, fr1, fp1, fp2, hne, hl1, hl2⟩ := hO5.all
      obtain ⟨v0, v1⟩ := hV5.two
      clear hp hf hO5 HO4 hx hpr hr hV5
      simp only [Vl.v] at *
      go_wp2
      have hO7 := (unhide HO5).put (IntKind.u64.wrap (-xb)) xu
      exact bodyPost_ret (res_x (f := Tryz.f31) rfl rfl hO7.r rfl) rfl (RP.pre (s := [45]) (x := ⟨xb, xu⟩) (W := w) (unhide H2) (fun t h => by simp [preS, h]) hO7.p hO7.f (unhide HX) (unhide HPR) (unhide HR))
  · have H1 := hide h1
    clear h1
    go_enter Tryz.func31, Tryz.ntmps31
    go_wp2_with fail
    refine (takes_yes [43] b p cap l k _ hl (unhide HO).p (unhide HT _ (unhide HO).f) (unhide H1)).mono ?_
    rintro e W4 ⟨rfl, hp, hf⟩
    have HO4 := hide ((unhide HO).step hf hp)
    clear hp hf HO
    go_wp2_with fail
    refine (unhide HI (k + 1) live _ (by omega) (by obtain ⟨h, _⟩ := sees_lt (unhide H1); omega) (unhide HO4).p (unhide HT _ (unhide HO4).f)).mono ?_
    rintro e W5 ⟨⟨xb, xu⟩, rest, ok, k', rfl, hp, hf, hx, hpr, hr⟩
    have hO5 := (unhide HO4).step hf hp
    have HO5 := hide hO5
    have HX := hide hx
    have HPR := hide hpr
    have HR := hide hr
    obtain ⟨⟨r0, r1⟩, ⟨p0, p1, p2⟩, fr0, fr1, fp1, fp2, hne, hl1, hl2⟩ := hO5.all
    clear hp hf hO5 HO4 hx hpr hr
    simp only [Vl.v] at *
    go_wp2
    have hO7 := (unhide HO5).put xb xu
    exact bodyPost_ret (res_x (f := Tryz.f31) rfl rfl hO7.r rfl) rfl (RP.pre (s := [43]) (x := ⟨xb, xu⟩) (W := w) (unhide H1) (fun t h => by simp [preS, h]) hO7.p hO7.f (unhide HX) (unhide HPR) (unhide HR))
end Go.Proofs.YtfghfohlcofdpaaGreatDoor
