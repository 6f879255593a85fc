/-
  The document's parser: atom.
-/
import Derived.Test.YtfghfohlcofdpaaGreatDoorJf
import Derived.Test.YtfghfohlcofdpaaGreatDoorIb
import Derived.Test.YtfghfohlcofdpaaGreatDoorEd
import Derived.BigRegion
namespace Go.Proofs.YtfghfohlcofdpaaGreatDoor
open Go Go.RowKit
set_option linter.unusedVariables false
set_option linter.unusedSimpArgs false

/-- What a call of the document's parser tells: one way through the tokens. -/
def RP (kd : Kd) (live : Bool) (l : List Gt) (k b : Nat) (sl : Value) (w : World) (e : Ending) (w' : World) : Prop :=
  ∃ (x : Vl) (rest : List Gt) (ok : Bool) (k' : Int), e = .returned x.v ∧ Pb w' b sl k' ok ∧ Fb b w w' ∧ okV x ∧ Pr kd live (l.drop k) x rest ok ∧ (ok = true → ∃ m : Nat, k' = m ∧ rest = l.drop m ∧ k ≤ m ∧ m ≤ l.length)
theorem RP.yes {kd : Kd} {live : Bool} {l : List Gt} {k b : Nat} {sl : Value} {w w' : World} (m : Nat) {x : Vl} (hp : Pb w' b sl m true) (hf : Fb b w w') (hx : okV x) (hr : Pr kd live (l.drop k) x (l.drop m) true) (h1 : k ≤ m) (h2 : m ≤ l.length) : RP kd live l k b sl w (.returned x.v) w' := by
  unfold RP
  exact ⟨x, _, true, _, rfl, hp, hf, hx, hr, fun _ => ⟨m, rfl, rfl, h1, h2⟩⟩
theorem RP.no {kd : Kd} {live : Bool} {l : List Gt} {k b : Nat} {sl : Value} {w w' : World} {k' : Int} {x : Vl} {rest : List Gt} (hp : Pb w' b sl k' false) (hf : Fb b w w') (hx : okV x) (hr : Pr kd live (l.drop k) x rest false) : RP kd live l k b sl w (.returned x.v) w' := by
  unfold RP
  exact ⟨x, rest, false, k', rfl, hp, hf, hx, hr, fun h => by cases h⟩
theorem sees_nx (s : List UInt8) (l : List Gt) (k : Nat) : seesM s l k = nxS s (l.drop k) := by
  unfold seesM
  by_cases hk : k < l.length
  · rw [List.getElem?_eq_getElem hk, List.drop_eq_getElem_cons hk]; rfl
  · rw [List.getElem?_eq_none (by omega), List.drop_eq_nil_of_le (by omega)]; rfl
theorem sees_lt {s : List UInt8} {l : List Gt} {k : Nat} (h : seesM s l k = true) : ∃ hk : k < l.length, isS s l[k] = true ∧ l.drop k = l[k] :: l.drop (k + 1) := by
  have hk : k < l.length := by
    unfold seesM at h
    rcases Nat.lt_or_ge k l.length with h' | h'
    · exact h'
    · rw [List.getElem?_eq_none h'] at h; cases h
  refine ⟨hk, ?_, List.drop_eq_getElem_cons hk⟩
  unfold seesM at h
  rw [List.getElem?_eq_getElem hk] at h
  exact h
theorem rb_ne {W : World} {M b : Nat} {x k : Int} {u ok : Bool} {v : Value} (h1 : RB W M x u) (h2 : Pb W b v k ok) : M ≠ b := by
  intro h
  subst h
  rw [RB] at h1
  rw [Pb, h1] at h2
  simp at h2
theorem ok0 : okV ⟨0, false⟩ := ⟨by decide, by decide⟩
/-- What the parser's choice tells, further on. -/
def ChF (l : List Gt) (k b : Nat) (sl : Value) : Prop := ∀ (k' : Nat) (live : Bool) (W : World), k < k' → k' ≤ l.length → Pb W b sl k' true → TkG b W sl l → Calls Tryz.prog 11 #[.pointer (some ⟨b, 0, none⟩), .bool live] W (RP .choice live l k' b sl W)
set_option maxRecDepth 100000 in
set_option maxHeartbeats 8000000 in
theorem atom_open (live : Bool) (b : Nat) (p : Option Addr) (cap : Nat) (l : List Gt) (k : Nat) (w : World) (hl : l.length ≤ 1000000) (hP : Pb w b (.slice p l.length cap) k true) (hT : TkG b w (.slice p l.length cap) l) (hs : seesM [40] l k = true) (IH : ChF l k b (.slice p l.length cap)) :
    Calls Tryz.prog 51 #[.pointer (some ⟨b, 0, none⟩), .bool live] w (RP .atom live l k b (.slice p l.length cap) w) := by
  have HO := hide (on_made hP)
  have HT := hide (fun W (h : Fb b w W) => hT.fb h)
  have HS := hide hs
  have HI := hide IH
  have HQ := hide (sees_lt hs)
  clear hP hT hs IH
  go_enter Tryz.func51, Tryz.ntmps51
  go_wp2_with fail
  refine (takes_yes [40] b p cap l k _ hl (unhide HO).p (unhide HT _ (unhide HO).f) (unhide HS)).mono ?_
  rintro e W1 ⟨rfl, hp1, hf1⟩
  have HO1 := hide ((unhide HO).step hf1 hp1)
  clear hp1 hf1 HO
  go_wp2_with fail
  refine (unhide HI (k + 1) live _ (by omega) (by obtain ⟨h, _⟩ := unhide HQ; omega) (unhide HO1).p (unhide HT _ (unhide HO1).f)).mono ?_
  rintro e W2 ⟨⟨xb, xu⟩, rest, ok, k', rfl, hp2, hf2, hx, hpr, hr⟩
  have hO2 := (unhide HO1).step hf2 hp2
  have HO3 := hide (hO2.new (.cells #[.int .u64 xb, .bool xu] 44))
  have HV3 : Hid (RB (W2.alloc (.cells #[.int .u64 xb, .bool xu] 44)) W2.heap.size xb xu) := World.alloc_heap_new W2 _
  have HX := hide hx
  have HPR := hide hpr
  have HR := hide hr
  clear hp2 hf2 hO2 HO1 hx hpr hr
  simp only [Vl.v] at *
  cases ok
  · go_wp2_with fail
    refine (takes_no [41] b _ k' _ (unhide HO3).p).mono ?_
    rintro e W4 ⟨rfl, hb4⟩
    have hO4 := (unhide HO3).next hb4
    obtain ⟨⟨r0, r1⟩, ⟨p0, p1, p2⟩, fr0, fr1, fp1, fp2, hne, hl1, hl2⟩ := hO4.all
    obtain ⟨v0, v1⟩ := ((unhide HV3).next hb4).two
    have HO4 := hide hO4
    clear hb4 hO4
    go_wp2
    have hO5 := ((unhide HO4).set2 false).put xb xu
    refine bodyPost_ret (res_x (f := Tryz.f51) rfl rfl hO5.r rfl) rfl (RP.no (x := ⟨xb, xu⟩) (rest := []) hO5.p hO5.f (unhide HX) ?_)
    obtain ⟨h, h1, h2⟩ := unhide HQ
    rw [h2]
    exact Pr.atomBrNo h1 (unhide HPR) (.inl rfl)
  · obtain ⟨m, rfl, rfl, hkm, hml⟩ := unhide HR rfl
    clear HR
    cases hs2 : seesM [41] l m
    · have HS2 := hide hs2
      clear hs2
      go_wp2_with fail
      refine (takes_not [41] b p cap l m _ hl (unhide HO3).p (unhide HT _ (unhide HO3).f) (unhide HS2)).mono ?_
      rintro e W4 ⟨rfl, hb4⟩
      have hO4 := (unhide HO3).next hb4
      obtain ⟨⟨r0, r1⟩, ⟨p0, p1, p2⟩, fr0, fr1, fp1, fp2, hne, hl1, hl2⟩ := hO4.all
      obtain ⟨v0, v1⟩ := ((unhide HV3).next hb4).two
      have HO4 := hide hO4
      clear hb4 hO4
      go_wp2
      have hO5 := ((unhide HO4).set2 false).put xb xu
      refine bodyPost_ret (res_x (f := Tryz.f51) rfl rfl hO5.r rfl) rfl (RP.no (x := ⟨xb, xu⟩) (rest := []) hO5.p hO5.f (unhide HX) ?_)
      obtain ⟨h, h1, h2⟩ := unhide HQ
      rw [h2]
      exact Pr.atomBrNo h1 (unhide HPR) (.inr ((sees_nx _ _ _).symm.trans (unhide HS2)))
    · have HS2 := hide hs2
      clear hs2
      go_wp2_with fail
      refine (takes_yes [41] b p cap l m _ hl (unhide HO3).p (unhide HT _ (unhide HO3).f) (unhide HS2)).mono ?_
      rintro e W4 ⟨rfl, hp4, hf4⟩
      have hO4 := (unhide HO3).step hf4 hp4
      obtain ⟨⟨r0, r1⟩, ⟨p0, p1, p2⟩, fr0, fr1, fp1, fp2, hne, hl1, hl2⟩ := hO4.all
      obtain ⟨v0, v1⟩ := ((unhide HV3).fb hf4 (rb_ne (unhide HV3) (unhide HO3).p)).two
      have HO4 := hide hO4
      clear hf4 hp4 hO4
      go_wp2
      have hO5 := ((unhide HO4).set2 true).put xb xu
      obtain ⟨h, h1, h2⟩ := unhide HQ
      obtain ⟨g, g1, g2⟩ := sees_lt (unhide HS2)
      refine bodyPost_ret (res_x (f := Tryz.f51) rfl rfl hO5.r rfl) rfl (RP.yes (m + 1) (x := ⟨xb, xu⟩) hO5.p hO5.f (unhide HX) ?_ (by omega) (by omega))
      rw [h2]
      have := unhide HPR
      rw [g2] at this
      exact Pr.atomBr h1 g1 this
set_option maxRecDepth 100000 in
set_option maxHeartbeats 8000000 in
theorem atom_end (live : Bool) (b : Nat) (p : Option Addr) (cap : Nat) (l : List Gt) (k : Nat) (w : World) (hl : l.length ≤ 1000000) (hP : Pb w b (.slice p l.length cap) k true) (hT : TkG b w (.slice p l.length cap) l) (hs : l.length ≤ k) :
    Calls Tryz.prog 51 #[.pointer (some ⟨b, 0, none⟩), .bool live] w (RP .atom live l k b (.slice p l.length cap) w) := by
  have HO := hide (on_made hP)
  have HT := hide (hT.fb (on_made hP).f)
  have hno : seesM [40] l k = false := by unfold seesM; rw [List.getElem?_eq_none hs]
  have HN := hide hno
  have HD := hide (List.drop_eq_nil_of_le hs)
  have hd : decide ((l.length : Int) ≤ (k : Int)) = true := by simpa using hs
  clear hP hT hno
  go_enter Tryz.func51, Tryz.ntmps51
  go_wp2_with fail
  refine (takes_not [40] b p cap l k _ hl (unhide HO).p (unhide HT) (unhide HN)).mono ?_
  rintro e W1 ⟨rfl, hb1⟩
  have hO1 := (unhide HO).next hb1
  obtain ⟨⟨r0, r1⟩, ⟨p0, p1, p2⟩, fr0, fr1, fp1, fp2, hne, hl1, hl2⟩ := hO1.all
  have HO1 := hide hO1
  clear hb1 HO hO1 HT
  go_upto_region 7 with fail
  go_quiet (fail)
  go_wp2
  have hO2 := (((unhide HO1).next (drewNB W1 nq)).set2 false).put 0 false
  refine bodyPost_ret (res_x (f := Tryz.f51) rfl rfl hO2.r rfl) rfl (RP.no (x := ⟨0, false⟩) (rest := []) hO2.p hO2.f ok0 ?_)
  rw [unhide HD]
  exact Pr.atomNil
end Go.Proofs.YtfghfohlcofdpaaGreatDoor
