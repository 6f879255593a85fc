/-
  The document's parser: atom, at an operand.
-/
import Derived.Test.YtfghfohlcofdpaaGreatDoorJg
namespace Go.Proofs.YtfghfohlcofdpaaGreatDoor
open Go Go.RowKit
set_option linter.unusedVariables false
set_option linter.unusedSimpArgs false

set_option maxRecDepth 100000 in
set_option maxHeartbeats 8000000 in
theorem atom_name (live : Bool) (b : Nat) (p : Option Addr) (cap : Nat) (l : List Gt) (k : Nat) (w : World) (hl : l.length ≤ 1000000) (hls : ∀ t ∈ l, t.s.length ≤ 140737488355328) (hP : Pb w b (.slice p l.length cap) k true) (hT : TkG b w (.slice p l.length cap) l) (hk : k < l.length) (hno : seesM [40] l k = false) (hkind : l[k].kind = 1) :
    Calls Tryz.prog 51 #[.pointer (some ⟨b, 0, none⟩), .bool live] w (RP .atom live l k b (.slice p l.length cap) w) := by
  have HO := hide (on_made hP)
  have HT := hide (hT.fb (on_made hP).f)
  have HN := hide hno
  obtain ⟨p', cap', hp', hcs⟩ := hT
  obtain ⟨g, o, rfl, hgb, _⟩ := hcs k hk
  obtain ⟨rfl, rfl⟩ : p = some ⟨g, o, none⟩ ∧ cap = cap' := by simpa using hp'
  clear hcs hp'
  have HD := hide (List.drop_eq_getElem_cons hk)
  have HST : Hid (isS [40] l[k] = false) := by
    have h := sees_nx [40] l k
    rw [hno, unhide HD] at h
    exact h.symm
  have HCE : Hid (∀ W, TkG b W (.slice (some ⟨g, o, none⟩) l.length cap) l → W.cell? ⟨g, o + k * 6, none⟩ = some (.int .i64 l[k].kind) ∧ W.cell? ⟨g, o + k * 6 + 1, none⟩ = some (.string ⟨l[k].s.toArray⟩) ∧ W.cell? ⟨g, o + k * 6 + 2, none⟩ = some (.string ⟨l[k].f.toArray⟩) ∧
    W.cell? ⟨g, o + k * 6 + 3, none⟩ = some (.int .i64 l[k].line) ∧ W.cell? ⟨g, o + k * 6 + 4, none⟩ = some (.bool l[k].sp) ∧ W.cell? ⟨g, o + k * 6 + 5, none⟩ = some (.bool l[k].fi)) := fun W h => by
    obtain ⟨q', c', hq, hc⟩ := h
    obtain ⟨g', o', hgo, _, hr⟩ := hc k hk
    cases hq
    cases hgo
    exact hr
  have hd : decide ((l.length : Int) ≤ (k : Int)) = false := by simpa using hk
  have i1 : (k : Int) < (l.length : Int) := by omega
  have i2 : (0 : Int) ≤ (k : Int) := by omega
  have HOT : Hid (∀ x ok, opT l[k] = (x, ok) → ∀ W2 : World, ∀ k' : Int, (ok = true → k' = ((k + 1 : Nat) : Int)) → Pb W2 b (.slice (some ⟨g, o, none⟩) l.length cap) k' ok → Fb b w W2 → ∀ y : Vl, (ok = true → y = x) → okV y → RP .atom live l k b (.slice (some ⟨g, o, none⟩) l.length cap) w (.returned y.v) W2) := fun x ok ho W2 k' hk' hp hf y hy hoy => by
    cases ok
    · refine RP.no (rest := []) hp hf hoy ?_
      rw [unhide HD]
      exact Pr.atomOpNo (unhide HST) (by rw [ho])
    · obtain rfl := hk' rfl
      obtain rfl := hy rfl
      refine RP.yes (k + 1) hp hf hoy ?_ (by omega) (by omega)
      rw [unhide HD]
      have := Pr.atomOp (live := live) (r := l.drop (k + 1)) (unhide HST) (by rw [ho])
      rw [ho] at this
      exact this
  have hsz := hls l[k] (List.getElem_mem hk)
  have HKD : Hid (l[k].kind = 1) := hkind
  clear hP hno hkind
  generalize l[k] = t at *
  obtain ⟨kind, s, f, line, sp, fi⟩ := t
  simp only at HCE hsz HKD
  obtain rfl := unhide HKD
  have HOP := hide (unhide HOT ⟨0, false⟩ true rfl)
  clear HKD HOT
  go_enter Tryz.func51, Tryz.ntmps51
  go_wp2_with fail
  refine (takes_not [40] b (some ⟨g, o, none⟩) cap l k _ hl (unhide HO).p (unhide HT) (unhide HN)).mono ?_
  rintro e W1 ⟨rfl, hb1⟩
  have hO1 := (unhide HO).next hb1
  obtain ⟨⟨r0, r1⟩, ⟨p0, p1, p2⟩, fr0, fr1, fp1, fp2, hne, hl1, hl2⟩ := hO1.all
  have HO1 := hide hO1
  have HT1 := hide ((unhide HT).below (hb1.mono (Nat.le_of_lt (unhide HO).p.lt)))
  clear hb1 HO hO1 HT
  go_upto_region 7 with fail
  go_quiet (fail)
  have hO2 := (unhide HO1).next (drewNB W1 nq)
  have hT2 := (unhide HT1).below ((drewNB W1 nq).mono (Nat.le_of_lt (unhide HO1).p.lt))
  have HO2 := hide hO2
  have HT2 := hide hT2
  clear hO2 hT2 r0 r1 p0 p1 p2 fr0 fr1 fp1 fp2 hl1 hl2 HO1 HT1
  generalize (W1.drewN nq) = W2 at *
  obtain ⟨⟨r0, r1⟩, ⟨p0, p1, p2⟩, fr0, fr1, fp1, fp2, _, hl1, hl2⟩ := (unhide HO2).all
  obtain ⟨t0, t1, t2, t3, t4, t5⟩ := unhide HCE W2 (unhide HT2)
  have hgl := World.block_lt_of_cell? _ _ t0
  simp only at hgl
  go_upto_region 10 with fail
  go_region
  all_goals (
    have HO3 : Hid (On w (W2.alloc (.cells #[.int .i64 1, .string ⟨s.toArray⟩, .string ⟨f.toArray⟩, .int .i64 line, .bool sp, .bool fi] 50)).drew b (.slice (some ⟨g, o, none⟩) l.length cap) k true 0 false) := (unhide HO2).next (drewB (below_new W2 _))
    have HB3 : Hid ((W2.alloc (.cells #[.int .i64 1, .string ⟨s.toArray⟩, .string ⟨f.toArray⟩, .int .i64 line, .bool sp, .bool fi] 50)).drew.heap[W2.heap.size]? = some (.cells #[.int .i64 1, .string ⟨s.toArray⟩, .string ⟨f.toArray⟩, .int .i64 line, .bool sp, .bool fi] 50)) := World.alloc_heap_new W2 _
    clear r0 r1 p0 p1 p2 fr0 fr1 fp1 fp2 hl1 hl2 t0 t1 t2 t3 t4 t5
    generalize (W2.alloc (.cells #[.int .i64 1, .string ⟨s.toArray⟩, .string ⟨f.toArray⟩, .int .i64 line, .bool sp, .bool fi] 50)).drew = W3 at *
    obtain ⟨⟨r0, r1⟩, ⟨p0, p1, p2⟩, fr0, fr1, fp1, fp2, _, hl1, hl2⟩ := (unhide HO3).all
    have u0 : W3.cell? ⟨W2.heap.size, 0, none⟩ = some (.int .i64 1) := by rw [World.cell?, unhide HB3]; rfl
    have u1 : W3.cell? ⟨W2.heap.size, 1, none⟩ = some (.string ⟨s.toArray⟩) := by rw [World.cell?, unhide HB3]; rfl
    have hnb : W2.heap.size ≠ b := by
      intro h
      have h1 := unhide HB3
      have h2 := (unhide HO3).p
      rw [h] at h1
      rw [Pb, h1] at h2
      simp at h2
    have HO4 := hide ((unhide HO3).set1 ((k : Int) + 1))
    have HCK : Hid (((k : Int) + 1) = ((k + 1 : Nat) : Int)) := by show (k : Int) + 1 = _; omega
    go_wp2
    have hO5 := (unhide HO4).put 0 false
    exact bodyPost_ret (res_x (f := Tryz.f51) rfl rfl hO5.r rfl) rfl (unhide HOP _ _ (fun _ => unhide HCK) hO5.p hO5.f ⟨0, false⟩ (fun _ => rfl) ok0))
set_option maxRecDepth 100000 in
set_option maxHeartbeats 8000000 in
theorem atom_number (live : Bool) (b : Nat) (p : Option Addr) (cap : Nat) (l : List Gt) (k : Nat) (w : World) (hl : l.length ≤ 1000000) (hls : ∀ t ∈ l, t.s.length ≤ 140737488355328) (hP : Pb w b (.slice p l.length cap) k true) (hT : TkG b w (.slice p l.length cap) l) (hk : k < l.length) (hno : seesM [40] l k = false) (hkind : l[k].kind = 2) :
    Calls Tryz.prog 51 #[.pointer (some ⟨b, 0, none⟩), .bool live] w (RP .atom live l k b (.slice p l.length cap) w) := by
  have HO := hide (on_made hP)
  have HT := hide (hT.fb (on_made hP).f)
  have HN := hide hno
  obtain ⟨p', cap', hp', hcs⟩ := hT
  obtain ⟨g, o, rfl, hgb, _⟩ := hcs k hk
  obtain ⟨rfl, rfl⟩ : p = some ⟨g, o, none⟩ ∧ cap = cap' := by simpa using hp'
  clear hcs hp'
  have HD := hide (List.drop_eq_getElem_cons hk)
  have HST : Hid (isS [40] l[k] = false) := by
    have h := sees_nx [40] l k
    rw [hno, unhide HD] at h
    exact h.symm
  have HCE : Hid (∀ W, TkG b W (.slice (some ⟨g, o, none⟩) l.length cap) l → W.cell? ⟨g, o + k * 6, none⟩ = some (.int .i64 l[k].kind) ∧ W.cell? ⟨g, o + k * 6 + 1, none⟩ = some (.string ⟨l[k].s.toArray⟩) ∧ W.cell? ⟨g, o + k * 6 + 2, none⟩ = some (.string ⟨l[k].f.toArray⟩) ∧
    W.cell? ⟨g, o + k * 6 + 3, none⟩ = some (.int .i64 l[k].line) ∧ W.cell? ⟨g, o + k * 6 + 4, none⟩ = some (.bool l[k].sp) ∧ W.cell? ⟨g, o + k * 6 + 5, none⟩ = some (.bool l[k].fi)) := fun W h => by
    obtain ⟨q', c', hq, hc⟩ := h
    obtain ⟨g', o', hgo, _, hr⟩ := hc k hk
    cases hq
    cases hgo
    exact hr
  have hd : decide ((l.length : Int) ≤ (k : Int)) = false := by simpa using hk
  have i1 : (k : Int) < (l.length : Int) := by omega
  have i2 : (0 : Int) ≤ (k : Int) := by omega
  have HOT : Hid (∀ x ok, opT l[k] = (x, ok) → ∀ W2 : World, ∀ k' : Int, (ok = true → k' = ((k + 1 : Nat) : Int)) → Pb W2 b (.slice (some ⟨g, o, none⟩) l.length cap) k' ok → Fb b w W2 → ∀ y : Vl, (ok = true → y = x) → okV y → RP .atom live l k b (.slice (some ⟨g, o, none⟩) l.length cap) w (.returned y.v) W2) := fun x ok ho W2 k' hk' hp hf y hy hoy => by
    cases ok
    · refine RP.no (rest := []) hp hf hoy ?_
      rw [unhide HD]
      exact Pr.atomOpNo (unhide HST) (by rw [ho])
    · obtain rfl := hk' rfl
      obtain rfl := hy rfl
      refine RP.yes (k + 1) hp hf hoy ?_ (by omega) (by omega)
      rw [unhide HD]
      have := Pr.atomOp (live := live) (r := l.drop (k + 1)) (unhide HST) (by rw [ho])
      rw [ho] at this
      exact this
  have hsz := hls l[k] (List.getElem_mem hk)
  have HKD : Hid (l[k].kind = 2) := hkind
  clear hP hno hkind
  generalize l[k] = t at *
  obtain ⟨kind, s, f, line, sp, fi⟩ := t
  simp only at HCE hsz HKD
  obtain rfl := unhide HKD
  have HOP : Hid (∀ ok, ((numM s).2 && ((numM s).1.u || decide ((numM s).1.b < 9223372036854775808))) = ok → _) := fun ok e => unhide HOT (numM s).1 ok (by rw [← e]; rfl)
  have HNU := hide (fun W => rNumber_any s hsz W)
  rw [rnum_is] at HNU
  have HNO := hide (numM_ok s)
  clear HKD HOT
  generalize numM s = Z at *
  obtain ⟨⟨nb, nu⟩, nk⟩ := Z
  simp only [evalV] at HNU HOP HNO
  go_enter Tryz.func51, Tryz.ntmps51
  go_wp2_with fail
  refine (takes_not [40] b (some ⟨g, o, none⟩) cap l k _ hl (unhide HO).p (unhide HT) (unhide HN)).mono ?_
  rintro e W1 ⟨rfl, hb1⟩
  have hO1 := (unhide HO).next hb1
  obtain ⟨⟨r0, r1⟩, ⟨p0, p1, p2⟩, fr0, fr1, fp1, fp2, hne, hl1, hl2⟩ := hO1.all
  have HO1 := hide hO1
  have HT1 := hide ((unhide HT).below (hb1.mono (Nat.le_of_lt (unhide HO).p.lt)))
  clear hb1 HO hO1 HT
  go_upto_region 7 with fail
  go_quiet (fail)
  have hO2 := (unhide HO1).next (drewNB W1 nq)
  have hT2 := (unhide HT1).below ((drewNB W1 nq).mono (Nat.le_of_lt (unhide HO1).p.lt))
  have HO2 := hide hO2
  have HT2 := hide hT2
  clear hO2 hT2 r0 r1 p0 p1 p2 fr0 fr1 fp1 fp2 hl1 hl2 HO1 HT1
  generalize (W1.drewN nq) = W2 at *
  obtain ⟨⟨r0, r1⟩, ⟨p0, p1, p2⟩, fr0, fr1, fp1, fp2, _, hl1, hl2⟩ := (unhide HO2).all
  obtain ⟨t0, t1, t2, t3, t4, t5⟩ := unhide HCE W2 (unhide HT2)
  have hgl := World.block_lt_of_cell? _ _ t0
  simp only at hgl
  go_upto_region 10 with fail
  go_region
  all_goals (
    have HO3 : Hid (On w (W2.alloc (.cells #[.int .i64 2, .string ⟨s.toArray⟩, .string ⟨f.toArray⟩, .int .i64 line, .bool sp, .bool fi] 50)).drew b (.slice (some ⟨g, o, none⟩) l.length cap) k true 0 false) := (unhide HO2).next (drewB (below_new W2 _))
    have HB3 : Hid ((W2.alloc (.cells #[.int .i64 2, .string ⟨s.toArray⟩, .string ⟨f.toArray⟩, .int .i64 line, .bool sp, .bool fi] 50)).drew.heap[W2.heap.size]? = some (.cells #[.int .i64 2, .string ⟨s.toArray⟩, .string ⟨f.toArray⟩, .int .i64 line, .bool sp, .bool fi] 50)) := World.alloc_heap_new W2 _
    clear r0 r1 p0 p1 p2 fr0 fr1 fp1 fp2 hl1 hl2 t0 t1 t2 t3 t4 t5
    generalize (W2.alloc (.cells #[.int .i64 2, .string ⟨s.toArray⟩, .string ⟨f.toArray⟩, .int .i64 line, .bool sp, .bool fi] 50)).drew = W3 at *
    obtain ⟨⟨r0, r1⟩, ⟨p0, p1, p2⟩, fr0, fr1, fp1, fp2, _, hl1, hl2⟩ := (unhide HO3).all
    have u0 : W3.cell? ⟨W2.heap.size, 0, none⟩ = some (.int .i64 2) := by rw [World.cell?, unhide HB3]; rfl
    have u1 : W3.cell? ⟨W2.heap.size, 1, none⟩ = some (.string ⟨s.toArray⟩) := by rw [World.cell?, unhide HB3]; rfl
    have hnb : W2.heap.size ≠ b := by
      intro h
      have h1 := unhide HB3
      have h2 := (unhide HO3).p
      rw [h] at h1
      rw [Pb, h1] at h2
      simp at h2
    have HO4 := hide ((unhide HO3).set1 ((k : Int) + 1))
    have HCK : Hid (((k : Int) + 1) = ((k + 1 : Nat) : Int)) := by show (k : Int) + 1 = _; omega
    have HX := hide (unhide HNU)
    cases nk
    · simp only [Bool.false_eq_true, if_false] at HX
      go_wp2_with fail
      refine (unhide HX _).mono ?_
      rintro e W5 ⟨rfl, hb5⟩
      have hO5 := (unhide HO4).next hb5
      clear r0 r1 p0 p1 p2 fr0 fr1 fp1 fp2 u0 u1 hl1 hl2
      obtain ⟨⟨r0, r1⟩, ⟨p0, p1, p2⟩, fr0, fr1, fp1, fp2, _, hl1, hl2⟩ := hO5.all
      have HO5 := hide hO5
      clear hb5 hO5
      go_wp2
      have hO6 := ((unhide HO5).set2 false).put 0 false
      exact bodyPost_ret (res_x (f := Tryz.f51) rfl rfl hO6.r rfl) rfl (unhide HOP false rfl _ _ (fun h => by cases h) hO6.p hO6.f ⟨0, false⟩ (fun h => by cases h) ok0)
    · simp only [if_true] at HX
      cases nu
      · cases hq : decide (nb < 9223372036854775808)
        all_goals (
          go_wp2_with fail
          refine (unhide HX _).mono ?_
          rintro e W5 ⟨rfl, hb5⟩
          have hO5 := (unhide HO4).next hb5
          clear r0 r1 p0 p1 p2 fr0 fr1 fp1 fp2 u0 u1 hl1 hl2
          obtain ⟨⟨r0, r1⟩, ⟨p0, p1, p2⟩, fr0, fr1, fp1, fp2, _, hl1, hl2⟩ := hO5.all
          have HO5 := hide hO5
          clear hb5 hO5
          go_wp2)
        · have hO6 := ((unhide HO5).set2 false).put nb false
          exact bodyPost_ret (res_x (f := Tryz.f51) rfl rfl hO6.r rfl) rfl (unhide HOP false (by simp [hq]) _ _ (fun h => by cases h) hO6.p hO6.f ⟨nb, false⟩ (fun h => by cases h) (unhide HNO))
        · have hO6 := ((unhide HO5).set2 true).put nb false
          exact bodyPost_ret (res_x (f := Tryz.f51) rfl rfl hO6.r rfl) rfl (unhide HOP true (by simp [hq]) _ _ (fun _ => unhide HCK) hO6.p hO6.f ⟨nb, false⟩ (fun _ => rfl) (unhide HNO))
      · go_wp2_with fail
        refine (unhide HX _).mono ?_
        rintro e W5 ⟨rfl, hb5⟩
        have hO5 := (unhide HO4).next hb5
        clear r0 r1 p0 p1 p2 fr0 fr1 fp1 fp2 u0 u1 hl1 hl2
        obtain ⟨⟨r0, r1⟩, ⟨p0, p1, p2⟩, fr0, fr1, fp1, fp2, _, hl1, hl2⟩ := hO5.all
        have HO5 := hide hO5
        clear hb5 hO5
        go_wp2
        have hO6 := ((unhide HO5).set2 true).put nb true
        exact bodyPost_ret (res_x (f := Tryz.f51) rfl rfl hO6.r rfl) rfl (unhide HOP true rfl _ _ (fun _ => unhide HCK) hO6.p hO6.f ⟨nb, true⟩ (fun _ => rfl) (unhide HNO)))
set_option maxRecDepth 100000 in
set_option maxHeartbeats 8000000 in
theorem atom_char (live : Bool) (b : Nat) (p : Option Addr) (cap : Nat) (l : List Gt) (k : Nat) (w : World) (hl : l.length ≤ 1000000) (hls : ∀ t ∈ l, t.s.length ≤ 140737488355328) (hP : Pb w b (.slice p l.length cap) k true) (hT : TkG b w (.slice p l.length cap) l) (hk : k < l.length) (hno : seesM [40] l k = false) (hkind : l[k].kind = 3) :
    Calls Tryz.prog 51 #[.pointer (some ⟨b, 0, none⟩), .bool live] w (RP .atom live l k b (.slice p l.length cap) w) := by
  have HO := hide (on_made hP)
  have HT := hide (hT.fb (on_made hP).f)
  have HN := hide hno
  obtain ⟨p', cap', hp', hcs⟩ := hT
  obtain ⟨g, o, rfl, hgb, _⟩ := hcs k hk
  obtain ⟨rfl, rfl⟩ : p = some ⟨g, o, none⟩ ∧ cap = cap' := by simpa using hp'
  clear hcs hp'
  have HD := hide (List.drop_eq_getElem_cons hk)
  have HST : Hid (isS [40] l[k] = false) := by
    have h := sees_nx [40] l k
    rw [hno, unhide HD] at h
    exact h.symm
  have HCE : Hid (∀ W, TkG b W (.slice (some ⟨g, o, none⟩) l.length cap) l → W.cell? ⟨g, o + k * 6, none⟩ = some (.int .i64 l[k].kind) ∧ W.cell? ⟨g, o + k * 6 + 1, none⟩ = some (.string ⟨l[k].s.toArray⟩) ∧ W.cell? ⟨g, o + k * 6 + 2, none⟩ = some (.string ⟨l[k].f.toArray⟩) ∧
    W.cell? ⟨g, o + k * 6 + 3, none⟩ = some (.int .i64 l[k].line) ∧ W.cell? ⟨g, o + k * 6 + 4, none⟩ = some (.bool l[k].sp) ∧ W.cell? ⟨g, o + k * 6 + 5, none⟩ = some (.bool l[k].fi)) := fun W h => by
    obtain ⟨q', c', hq, hc⟩ := h
    obtain ⟨g', o', hgo, _, hr⟩ := hc k hk
    cases hq
    cases hgo
    exact hr
  have hd : decide ((l.length : Int) ≤ (k : Int)) = false := by simpa using hk
  have i1 : (k : Int) < (l.length : Int) := by omega
  have i2 : (0 : Int) ≤ (k : Int) := by omega
  have HOT : Hid (∀ x ok, opT l[k] = (x, ok) → ∀ W2 : World, ∀ k' : Int, (ok = true → k' = ((k + 1 : Nat) : Int)) → Pb W2 b (.slice (some ⟨g, o, none⟩) l.length cap) k' ok → Fb b w W2 → ∀ y : Vl, (ok = true → y = x) → okV y → RP .atom live l k b (.slice (some ⟨g, o, none⟩) l.length cap) w (.returned y.v) W2) := fun x ok ho W2 k' hk' hp hf y hy hoy => by
    cases ok
    · refine RP.no (rest := []) hp hf hoy ?_
      rw [unhide HD]
      exact Pr.atomOpNo (unhide HST) (by rw [ho])
    · obtain rfl := hk' rfl
      obtain rfl := hy rfl
      refine RP.yes (k + 1) hp hf hoy ?_ (by omega) (by omega)
      rw [unhide HD]
      have := Pr.atomOp (live := live) (r := l.drop (k + 1)) (unhide HST) (by rw [ho])
      rw [ho] at this
      exact this
  have hsz := hls l[k] (List.getElem_mem hk)
  have HKD : Hid (l[k].kind = 3) := hkind
  clear hP hno hkind
  generalize l[k] = t at *
  obtain ⟨kind, s, f, line, sp, fi⟩ := t
  simp only at HCE hsz HKD
  obtain rfl := unhide HKD
  have HOP : Hid (∀ x ok, (if (rdM s).2 then ((⟨IntKind.u64.wrap (wrap64 (IntKind.i8.wrap (rdM s).1)), false⟩ : Vl), true) else (⟨0, false⟩, false)) = (x, ok) → _) := fun x ok e => unhide HOT x ok e
  have HNU := hide (fun W => rChar_any s hsz W)
  rw [rchar_is] at HNU
  clear HKD HOT
  generalize rdM s = Z at *
  obtain ⟨c, nk⟩ := Z
  simp only [charV] at HNU HOP
  go_enter Tryz.func51, Tryz.ntmps51
  go_wp2_with fail
  refine (takes_not [40] b (some ⟨g, o, none⟩) cap l k _ hl (unhide HO).p (unhide HT) (unhide HN)).mono ?_
  rintro e W1 ⟨rfl, hb1⟩
  have hO1 := (unhide HO).next hb1
  obtain ⟨⟨r0, r1⟩, ⟨p0, p1, p2⟩, fr0, fr1, fp1, fp2, hne, hl1, hl2⟩ := hO1.all
  have HO1 := hide hO1
  have HT1 := hide ((unhide HT).below (hb1.mono (Nat.le_of_lt (unhide HO).p.lt)))
  clear hb1 HO hO1 HT
  go_upto_region 7 with fail
  go_quiet (fail)
  have hO2 := (unhide HO1).next (drewNB W1 nq)
  have hT2 := (unhide HT1).below ((drewNB W1 nq).mono (Nat.le_of_lt (unhide HO1).p.lt))
  have HO2 := hide hO2
  have HT2 := hide hT2
  clear hO2 hT2 r0 r1 p0 p1 p2 fr0 fr1 fp1 fp2 hl1 hl2 HO1 HT1
  generalize (W1.drewN nq) = W2 at *
  obtain ⟨⟨r0, r1⟩, ⟨p0, p1, p2⟩, fr0, fr1, fp1, fp2, _, hl1, hl2⟩ := (unhide HO2).all
  obtain ⟨t0, t1, t2, t3, t4, t5⟩ := unhide HCE W2 (unhide HT2)
  have hgl := World.block_lt_of_cell? _ _ t0
  simp only at hgl
  go_upto_region 10 with fail
  go_region
  all_goals (
    have HO3 : Hid (On w (W2.alloc (.cells #[.int .i64 3, .string ⟨s.toArray⟩, .string ⟨f.toArray⟩, .int .i64 line, .bool sp, .bool fi] 50)).drew b (.slice (some ⟨g, o, none⟩) l.length cap) k true 0 false) := (unhide HO2).next (drewB (below_new W2 _))
    have HB3 : Hid ((W2.alloc (.cells #[.int .i64 3, .string ⟨s.toArray⟩, .string ⟨f.toArray⟩, .int .i64 line, .bool sp, .bool fi] 50)).drew.heap[W2.heap.size]? = some (.cells #[.int .i64 3, .string ⟨s.toArray⟩, .string ⟨f.toArray⟩, .int .i64 line, .bool sp, .bool fi] 50)) := World.alloc_heap_new W2 _
    clear r0 r1 p0 p1 p2 fr0 fr1 fp1 fp2 hl1 hl2 t0 t1 t2 t3 t4 t5
    generalize (W2.alloc (.cells #[.int .i64 3, .string ⟨s.toArray⟩, .string ⟨f.toArray⟩, .int .i64 line, .bool sp, .bool fi] 50)).drew = W3 at *
    obtain ⟨⟨r0, r1⟩, ⟨p0, p1, p2⟩, fr0, fr1, fp1, fp2, _, hl1, hl2⟩ := (unhide HO3).all
    have u0 : W3.cell? ⟨W2.heap.size, 0, none⟩ = some (.int .i64 3) := by rw [World.cell?, unhide HB3]; rfl
    have u1 : W3.cell? ⟨W2.heap.size, 1, none⟩ = some (.string ⟨s.toArray⟩) := by rw [World.cell?, unhide HB3]; rfl
    have hnb : W2.heap.size ≠ b := by
      intro h
      have h1 := unhide HB3
      have h2 := (unhide HO3).p
      rw [h] at h1
      rw [Pb, h1] at h2
      simp at h2
    have HO4 := hide ((unhide HO3).set1 ((k : Int) + 1))
    have HCK : Hid (((k : Int) + 1) = ((k + 1 : Nat) : Int)) := by show (k : Int) + 1 = _; omega
    have HX := hide (unhide HNU)
    cases nk
    · simp only [Bool.false_eq_true, if_false] at HX
      go_wp2_with fail
      refine (unhide HX _).mono ?_
      rintro e W5 ⟨rfl, hb5⟩
      have hO5 := (unhide HO4).next hb5
      clear r0 r1 p0 p1 p2 fr0 fr1 fp1 fp2 u0 u1 hl1 hl2
      obtain ⟨⟨r0, r1⟩, ⟨p0, p1, p2⟩, fr0, fr1, fp1, fp2, _, hl1, hl2⟩ := hO5.all
      have HO5 := hide hO5
      clear hb5 hO5
      go_wp2
      have hO6 := ((unhide HO5).set2 false).put 0 false
      exact bodyPost_ret (res_x (f := Tryz.f51) rfl rfl hO6.r rfl) rfl (unhide HOP _ false rfl _ _ (fun h => by cases h) hO6.p hO6.f ⟨0, false⟩ (fun h => by cases h) ok0)
    · simp only [if_true] at HX
      generalize hce : wrap64 (IntKind.i8.wrap c) = cc at *
      have HCE2 := hide hce
      clear hce
      go_wp2_with fail
      refine (unhide HX _).mono ?_
      rintro e W5 ⟨rfl, hb5⟩
      have hO5 := (unhide HO4).next hb5
      clear r0 r1 p0 p1 p2 fr0 fr1 fp1 fp2 u0 u1 hl1 hl2
      obtain ⟨⟨r0, r1⟩, ⟨p0, p1, p2⟩, fr0, fr1, fp1, fp2, _, hl1, hl2⟩ := hO5.all
      have HO5 := hide hO5
      clear hb5 hO5
      go_wp2
      have hO6 := ((unhide HO5).set2 true).put (IntKind.u64.wrap cc) false
      exact bodyPost_ret (res_x (f := Tryz.f51) rfl rfl hO6.r rfl) rfl (unhide HOP _ true rfl _ _ (fun _ => unhide HCK) hO6.p hO6.f ⟨IntKind.u64.wrap cc, false⟩ (fun _ => rfl) (wrapU _)))
set_option maxRecDepth 100000 in
set_option maxHeartbeats 8000000 in
theorem atom_other (live : Bool) (b : Nat) (p : Option Addr) (cap : Nat) (l : List Gt) (k : Nat) (w : World) (hl : l.length ≤ 1000000) (hls : ∀ t ∈ l, t.s.length ≤ 140737488355328) (hP : Pb w b (.slice p l.length cap) k true) (hT : TkG b w (.slice p l.length cap) l) (hk : k < l.length) (hno : seesM [40] l k = false) (hk1 : (l[k].kind == 1) = false) (hk2 : (l[k].kind == 2) = false) (hk3 : (l[k].kind == 3) = false) :
    Calls Tryz.prog 51 #[.pointer (some ⟨b, 0, none⟩), .bool live] w (RP .atom live l k b (.slice p l.length cap) w) := by
  have HO := hide (on_made hP)
  have HT := hide (hT.fb (on_made hP).f)
  have HN := hide hno
  obtain ⟨p', cap', hp', hcs⟩ := hT
  obtain ⟨g, o, rfl, hgb, _⟩ := hcs k hk
  obtain ⟨rfl, rfl⟩ : p = some ⟨g, o, none⟩ ∧ cap = cap' := by simpa using hp'
  clear hcs hp'
  have HD := hide (List.drop_eq_getElem_cons hk)
  have HST : Hid (isS [40] l[k] = false) := by
    have h := sees_nx [40] l k
    rw [hno, unhide HD] at h
    exact h.symm
  have HCE : Hid (∀ W, TkG b W (.slice (some ⟨g, o, none⟩) l.length cap) l → W.cell? ⟨g, o + k * 6, none⟩ = some (.int .i64 l[k].kind) ∧ W.cell? ⟨g, o + k * 6 + 1, none⟩ = some (.string ⟨l[k].s.toArray⟩) ∧ W.cell? ⟨g, o + k * 6 + 2, none⟩ = some (.string ⟨l[k].f.toArray⟩) ∧
    W.cell? ⟨g, o + k * 6 + 3, none⟩ = some (.int .i64 l[k].line) ∧ W.cell? ⟨g, o + k * 6 + 4, none⟩ = some (.bool l[k].sp) ∧ W.cell? ⟨g, o + k * 6 + 5, none⟩ = some (.bool l[k].fi)) := fun W h => by
    obtain ⟨q', c', hq, hc⟩ := h
    obtain ⟨g', o', hgo, _, hr⟩ := hc k hk
    cases hq
    cases hgo
    exact hr
  have hd : decide ((l.length : Int) ≤ (k : Int)) = false := by simpa using hk
  have i1 : (k : Int) < (l.length : Int) := by omega
  have i2 : (0 : Int) ≤ (k : Int) := by omega
  have HOT : Hid (∀ x ok, opT l[k] = (x, ok) → ∀ W2 : World, ∀ k' : Int, (ok = true → k' = ((k + 1 : Nat) : Int)) → Pb W2 b (.slice (some ⟨g, o, none⟩) l.length cap) k' ok → Fb b w W2 → ∀ y : Vl, (ok = true → y = x) → okV y → RP .atom live l k b (.slice (some ⟨g, o, none⟩) l.length cap) w (.returned y.v) W2) := fun x ok ho W2 k' hk' hp hf y hy hoy => by
    cases ok
    · refine RP.no (rest := []) hp hf hoy ?_
      rw [unhide HD]
      exact Pr.atomOpNo (unhide HST) (by rw [ho])
    · obtain rfl := hk' rfl
      obtain rfl := hy rfl
      refine RP.yes (k + 1) hp hf hoy ?_ (by omega) (by omega)
      rw [unhide HD]
      have := Pr.atomOp (live := live) (r := l.drop (k + 1)) (unhide HST) (by rw [ho])
      rw [ho] at this
      exact this
  have hsz := hls l[k] (List.getElem_mem hk)
  clear hP hno
  generalize l[k] = t at *
  obtain ⟨kind, s, f, line, sp, fi⟩ := t
  simp only at HCE hsz hk1 hk2 hk3
  have HOP : Hid (_) := unhide HOT ⟨0, false⟩ false (by unfold opT; simp [hk1, hk2, hk3])
  clear HOT
  go_enter Tryz.func51, Tryz.ntmps51
  go_wp2_with fail
  refine (takes_not [40] b (some ⟨g, o, none⟩) cap l k _ hl (unhide HO).p (unhide HT) (unhide HN)).mono ?_
  rintro e W1 ⟨rfl, hb1⟩
  have hO1 := (unhide HO).next hb1
  obtain ⟨⟨r0, r1⟩, ⟨p0, p1, p2⟩, fr0, fr1, fp1, fp2, hne, hl1, hl2⟩ := hO1.all
  have HO1 := hide hO1
  have HT1 := hide ((unhide HT).below (hb1.mono (Nat.le_of_lt (unhide HO).p.lt)))
  clear hb1 HO hO1 HT
  go_upto_region 7 with fail
  go_quiet (fail)
  have hO2 := (unhide HO1).next (drewNB W1 nq)
  have hT2 := (unhide HT1).below ((drewNB W1 nq).mono (Nat.le_of_lt (unhide HO1).p.lt))
  have HO2 := hide hO2
  have HT2 := hide hT2
  clear hO2 hT2 r0 r1 p0 p1 p2 fr0 fr1 fp1 fp2 hl1 hl2 HO1 HT1
  generalize (W1.drewN nq) = W2 at *
  obtain ⟨⟨r0, r1⟩, ⟨p0, p1, p2⟩, fr0, fr1, fp1, fp2, _, hl1, hl2⟩ := (unhide HO2).all
  obtain ⟨t0, t1, t2, t3, t4, t5⟩ := unhide HCE W2 (unhide HT2)
  have hgl := World.block_lt_of_cell? _ _ t0
  simp only at hgl
  go_upto_region 10 with fail
  go_region
  all_goals (
    have HO3 : Hid (On w (W2.alloc (.cells #[.int .i64 kind, .string ⟨s.toArray⟩, .string ⟨f.toArray⟩, .int .i64 line, .bool sp, .bool fi] 50)).drew b (.slice (some ⟨g, o, none⟩) l.length cap) k true 0 false) := (unhide HO2).next (drewB (below_new W2 _))
    have HB3 : Hid ((W2.alloc (.cells #[.int .i64 kind, .string ⟨s.toArray⟩, .string ⟨f.toArray⟩, .int .i64 line, .bool sp, .bool fi] 50)).drew.heap[W2.heap.size]? = some (.cells #[.int .i64 kind, .string ⟨s.toArray⟩, .string ⟨f.toArray⟩, .int .i64 line, .bool sp, .bool fi] 50)) := World.alloc_heap_new W2 _
    clear r0 r1 p0 p1 p2 fr0 fr1 fp1 fp2 hl1 hl2 t0 t1 t2 t3 t4 t5
    generalize (W2.alloc (.cells #[.int .i64 kind, .string ⟨s.toArray⟩, .string ⟨f.toArray⟩, .int .i64 line, .bool sp, .bool fi] 50)).drew = W3 at *
    obtain ⟨⟨r0, r1⟩, ⟨p0, p1, p2⟩, fr0, fr1, fp1, fp2, _, hl1, hl2⟩ := (unhide HO3).all
    have u0 : W3.cell? ⟨W2.heap.size, 0, none⟩ = some (.int .i64 kind) := by rw [World.cell?, unhide HB3]; rfl
    have u1 : W3.cell? ⟨W2.heap.size, 1, none⟩ = some (.string ⟨s.toArray⟩) := by rw [World.cell?, unhide HB3]; rfl
    have hnb : W2.heap.size ≠ b := by
      intro h
      have h1 := unhide HB3
      have h2 := (unhide HO3).p
      rw [h] at h1
      rw [Pb, h1] at h2
      simp at h2
    have HO4 := hide ((unhide HO3).set1 ((k : Int) + 1))
    have HCK : Hid (((k : Int) + 1) = ((k + 1 : Nat) : Int)) := by show (k : Int) + 1 = _; omega
    go_wp2
    have hO5 := ((unhide HO4).set2 false).put 0 false
    exact bodyPost_ret (res_x (f := Tryz.f51) rfl rfl hO5.r rfl) rfl (unhide HOP _ _ (fun h => by cases h) hO5.p hO5.f ⟨0, false⟩ (fun h => by cases h) ok0))
theorem atom_any (live : Bool) (b : Nat) (p : Option Addr) (cap : Nat) (l : List Gt) (k : Nat) (w : World) (hl : l.length ≤ 1000000) (hls : ∀ t ∈ l, t.s.length ≤ 140737488355328) (hP : Pb w b (.slice p l.length cap) k true) (hT : TkG b w (.slice p l.length cap) l) (IH : ChF l k b (.slice p l.length cap)) :
    Calls Tryz.prog 51 #[.pointer (some ⟨b, 0, none⟩), .bool live] w (RP .atom live l k b (.slice p l.length cap) w) := by
  cases hs : seesM [40] l k
  · by_cases hk : k < l.length
    · cases h1 : l[k].kind == 1
      · cases h2 : l[k].kind == 2
        · cases h3 : l[k].kind == 3
          · exact atom_other live b p cap l k w hl hls hP hT hk hs h1 h2 h3
          · exact atom_char live b p cap l k w hl hls hP hT hk hs (by simpa using h3)
        · exact atom_number live b p cap l k w hl hls hP hT hk hs (by simpa using h2)
      · exact atom_name live b p cap l k w hl hls hP hT hk hs (by simpa using h1)
    · exact atom_end live b p cap l k w hl hP hT (by omega)
  · exact atom_open live b p cap l k w hl hP hT hs IH
end Go.Proofs.YtfghfohlcofdpaaGreatDoor
