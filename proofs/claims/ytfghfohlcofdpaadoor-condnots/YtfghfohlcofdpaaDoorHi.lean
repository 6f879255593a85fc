/-
  burinlaw05.CondNots: the walk.
-/
import Derived.Test.YtfghfohlcofdpaaDoorHh
namespace Go.Proofs.YtfghfohlcofdpaaDoor
open Go Go.RowKit
set_option linter.unusedVariables false
set_option linter.unusedSimpArgs false

set_option maxRecDepth 100000 in
set_option maxHeartbeats 8000000 in
theorem nots_walk (s t : List UInt8) (hs : s.length ≤ 140737488355328) (ht : t.length ≤ 140737488355328) (w : World) (hg : Gl w) :
    Calls Tryd.prog 7 #[.string ⟨s.toArray⟩, .string ⟨t.toArray⟩] w fun e w' => e = .returned (.bool true) ∧ Below w.heap.size w w' := by
  have HG := hide hg
  have HSH := hide (shown_any w hg)
  have hsz : (⟨s.toArray⟩ : ByteArray).size = s.length := by show s.toArray.size = _; simp
  have htz : (⟨t.toArray⟩ : ByteArray).size = t.length := by show t.toArray.size = _; simp
  have hsl : ∀ W : World, (Instr.slice 9 (.string ⟨s.toArray⟩) none (some (.int .i64 (min (s.length : Int) 500))) none).run Tryd.prog W = .ok (.string ⟨(s.take 500).toArray⟩) W := fun W => slice_to s 500 W
  have htl : ∀ W : World, (Instr.slice 9 (.string ⟨t.toArray⟩) none (some (.int .i64 (min (t.length : Int) 500))) none).run Tryd.prog W = .ok (.string ⟨(t.take 500).toArray⟩) W := fun W => slice_to t 500 W
  have lens : ∀ u : List UInt8, u.length ≤ 140737488355328 → (lx (u.take 500)).length ≤ 20000 ∧ ∀ x ∈ lx (u.take 500), x.s.length ≤ 140737488355328 := fun u hu =>
    ⟨by have := Tk.lex_len [(1, u.take 500)]; unfold lx; simpa using this, fun x hx => Nat.le_trans (lx_short (u.take 500) x hx) (by simp; omega)⟩
  obtain ⟨hAl, hAs⟩ := lens s hs
  obtain ⟨hBl, hBs⟩ := lens t ht
  have hAk := lx_br (s.take 500)
  have hBk := lx_br (t.take 500)
  have HLA := hide (fun W (hb : Below w.heap.size w W) => lexedR_any (s.take 500) W (by simp; omega) (hg.next hb))
  have HLB := hide (fun W (hb : Below w.heap.size w W) => lexedR_any (t.take 500) W (by simp; omega) (hg.next hb))
  generalize (⟨(s.take 500).toArray⟩ : ByteArray) = S1 at *
  generalize (⟨(t.take 500).toArray⟩ : ByteArray) = T1 at *
  generalize lx (s.take 500) = A at *
  generalize lx (t.take 500) = B at *
  clear lens
  have HAL := hide hAl
  have HBL := hide hBl
  have HAS := hide hAs
  have HBS := hide hBs
  have HAK := hide hAk
  have HBK := hide hBk
  clear hAl hBl hAs hBs hAk hBk hg
  go_enter Tryd.func7, Tryd.ntmps7
  go_wp2_with fail
  refine (unhide HSH).mono ?_
  rintro e W1 ⟨rfl, hb1⟩
  have HB1 := hide hb1
  clear hb1 HSH
  go_wp2_with fail
  refine (unhide HLA _ (unhide HB1)).mono ?_
  rintro e W2 ⟨pa, ca, rfl, hra, hb2⟩
  have HB2 := hide ((unhide HB1).trans (hb2.mono (unhide HB1).size))
  have HRA := hide hra
  clear hb2 HB1 HLA hsl hsz hra
  go_wp2_with fail
  refine (unhide HLB _ (unhide HB2)).mono ?_
  rintro e W3 ⟨pb, cb, rfl, hrb, hb3⟩
  have HB3 := hide ((unhide HB2).trans (hb3.mono (unhide HB2).size))
  have hRA3 := ((unhide HRA).below hb3).mono hb3.size
  have HW : Hid (∀ (ws : List UInt8), ws.length ≤ 20 → ∀ W, Below W3.heap.size W3 W → Calls Tryd.prog 18 #[.string ⟨ws.toArray⟩, .slice pa A.length ca, .slice pb B.length cb] W fun e w' => e = .returned (evalV (evM (saidT A B ws))) ∧ Below W.heap.size W w') := fun ws hws W hb =>
    said_any ws hws A B (unhide HAL) (unhide HBL) (unhide HAS) (unhide HBS) pa pb ca cb W ((hRA3.below hb).mono hb.size) ((hrb.below hb).mono hb.size) ((unhide HG).next ((unhide HB3).trans (hb.mono (unhide HB3).size)))
  have HCA : Hid (∀ W, Below W3.heap.size W3 W → Calls Tryd.prog 14 #[.slice pa A.length ca] W fun e w' => e = .returned (.bool (clF 0 A)) ∧ w' = W) := fun W hb => closed_any pa ca A W (by have := unhide HAL; omega) ((hRA3.below hb).mono hb.size).tk
  have HCB : Hid (∀ W, Below W3.heap.size W3 W → Calls Tryd.prog 14 #[.slice pb B.length cb] W fun e w' => e = .returned (.bool (clF 0 B)) ∧ w' = W) := fun W hb => closed_any pb cb B W (by have := unhide HBL; omega) ((hrb.below hb).mono hb.size).tk
  clear hRA3 hrb HRA HLB htl htz hb3 HAL HBL HAS HBS
  have hvv : ∀ Z : Vl × Bool, ∃ (x : Int) (y : Bool) (z : Int), evalV Z = .tuple #[.int .u64 x, .bool y, .int .i64 z] ∧ ((z != 0) = true ∨ ((z != 0) = false ∧ Z.2 = true ∧ x = Z.1.b)) := fun Z => by
    cases h : Z.2
    · exact ⟨_, _, _, evalV_no h, .inl rfl⟩
    · exact ⟨_, _, _, evalV_ok h, .inr ⟨rfl, rfl, rfl⟩⟩
  have wA := fun W hb => unhide HW [65] (by decide) W hb
  have wB := fun W hb => unhide HW [66] (by decide) W hb
  have w1 := fun W hb => unhide HW [33, 40, 65, 38, 66, 41] (by decide) W hb
  have w2 := fun W hb => unhide HW [33, 65, 124, 33, 66] (by decide) W hb
  have w3 := fun W hb => unhide HW [33, 40, 65, 124, 66, 41] (by decide) W hb
  have w4 := fun W hb => unhide HW [33, 65, 38, 33, 66] (by decide) W hb
  have w5 := fun W hb => unhide HW [40, 65, 61, 66, 41, 43, 40, 65, 35, 66, 41] (by decide) W hb
  rw [saidA] at wA
  rw [saidB] at wB
  clear HW
  obtain ⟨xa, ya, za, eA, hA⟩ := hvv (evM (inT A))
  obtain ⟨xb, yb, zb, eB, hB⟩ := hvv (evM (inT B))
  rw [eA] at wA
  rw [eB] at wB
  have WA := hide wA
  have WB := hide wB
  have H1 := hide w1
  have H2 := hide w2
  have H3 := hide w3
  have H4 := hide w4
  have H5 := hide w5
  have EA := hide eA
  have EB := hide eB
  clear wA wB w1 w2 w3 w4 w5 hvv eA eB
  go_wp2_with fail
  refine (unhide WA _ (Below.refl _ _)).mono ?_
  rintro e W4 ⟨rfl, hb4⟩
  have HB4 := hide hb4
  clear hb4 WA
  go_wp2_with fail
  refine (unhide WB _ (unhide HB4)).mono ?_
  rintro e W5 ⟨rfl, hb5⟩
  have HB5 := hide ((unhide HB4).trans (hb5.mono (unhide HB4).size))
  have HF := hide ((unhide HB3).trans ((unhide HB5).mono (unhide HB3).size))
  clear hb5 WB HB4
  rcases hA with hA | ⟨hA, hA2, hA3⟩
  · go_wp2
    go_ret
    exact ⟨rfl, unhide HF⟩
  · rcases hB with hB | ⟨hB, hB2, hB3⟩
    · go_wp2
      go_ret
      exact ⟨rfl, unhide HF⟩
    · have HA2 := hide hA2
      have HB2' := hide hB2
      clear hA2 hA3 hB2 hB3
      obtain ⟨clA, hcA⟩ : ∃ x, clF 0 A = x := ⟨_, rfl⟩
      obtain ⟨clB, hcB⟩ : ∃ x, clF 0 B = x := ⟨_, rfl⟩
      have CA := hide (unhide HCA W5 (unhide HB5))
      have CB := hide (unhide HCB W5 (unhide HB5))
      rw [hcA] at CA
      rw [hcB] at CB
      have KA := hide hcA
      have KB := hide hcB
      clear hcA hcB HCA HCB
      cases clA
      · go_wp2_with (go_at_call 14; refine (unhide CA).mono ?_; rintro e w' ⟨rfl, hw'⟩; obtain rfl := hw'.symm)
        go_ret
        exact ⟨rfl, unhide HF⟩
      · cases clB
        · go_wp2_with (first
            | (go_at_call 14; refine (unhide CA).mono ?_; rintro e w' ⟨rfl, hw'⟩; obtain rfl := hw'.symm; clear CA)
            | (go_at_call 14; refine (unhide CB).mono ?_; rintro e w' ⟨rfl, hw'⟩; obtain rfl := hw'.symm))
          go_ret
          exact ⟨rfl, unhide HF⟩
        · have key : ∀ (L : List Gt) (x : Int) (y : Bool) (z : Int), clF 0 L = true → (∀ t ∈ L, t.s = [40] ∨ t.s = [41] → t.kind = 5) → evalV (evM (inT L)) = .tuple #[.int .u64 x, .bool y, .int .i64 z] → (z != 0) = false → (evM L).2 = true ∧ x = (evM L).1.b := fun L x y z h1 h2 h3 h4 => by
            rw [br_plain L h1 h2] at h3
            cases h : (evM L).2
            · rw [evalV_no h] at h3
              simp at h3
              simp at h4
              omega
            · rw [evalV_ok h] at h3
              simp at h3
              exact ⟨rfl, h3.1.symm⟩
          obtain ⟨okA, exA⟩ := key A xa ya za (unhide KA) (unhide HAK) (unhide EA) hA
          obtain ⟨okB, exB⟩ := key B xb yb zb (unhide KB) (unhide HBK) (unhide EB) hB
          have asA := as_of A (unhide KA) (unhide HAK) okA
          have asB := as_of B (unhide KB) (unhide HBK) okB
          have n1 := nots1 asA asB
          have n2 := nots2 asA asB
          have n3 := nots3 asA asB
          have n4 := nots4 asA asB
          have n5 := nots5 asA asB
          rw [← exA, ← exB] at n1 n2 n3 n4
          rw [n1, evalV_ok rfl] at H1
          rw [n2, evalV_ok rfl] at H2
          rw [n3, evalV_ok rfl] at H3
          rw [n4, evalV_ok rfl] at H4
          rw [n5, evalV_ok rfl] at H5
          simp only [truthM] at H1 H2 H3 H4 H5
          clear n1 n2 n3 n4 n5 asA asB okA okB exA exB key KA KB EA EB HA2 HB2' HAK HBK HG
          cases c1 : (xa != 0) <;> cases c2 : (xb != 0)
          all_goals (
            rw [c1, c2] at H1 H2 H3 H4
            simp only [Bool.and_true, Bool.and_false, Bool.and_self, Bool.or_true, Bool.or_false, Bool.or_self, Bool.true_or, Bool.false_or, Bool.false_and, Bool.true_and, Bool.not_true, Bool.not_false, Bool.false_eq_true, if_true, if_false] at H1 H2 H3 H4
            go_wp2_with (first
              | (go_at_call 14; refine (unhide CA).mono ?_; rintro e w' ⟨rfl, hw'⟩; obtain rfl := hw'.symm; clear CA)
              | (go_at_call 14; refine (unhide CB).mono ?_; rintro e w' ⟨rfl, hw'⟩; obtain rfl := hw'.symm; clear CB)
              | fail)
            refine (unhide H1 _ (unhide HB5)).mono ?_
            rintro e V1 ⟨rfl, hv1⟩
            have HV1 := hide ((unhide HB5).trans (hv1.mono (unhide HB5).size))
            clear hv1 H1
            go_wp2_with fail
            refine (unhide H2 _ (unhide HV1)).mono ?_
            rintro e V2 ⟨rfl, hv2⟩
            have HV2 := hide ((unhide HV1).trans (hv2.mono (unhide HV1).size))
            clear hv2 H2
            go_wp2_with fail
            refine (unhide H3 _ (unhide HV2)).mono ?_
            rintro e V3 ⟨rfl, hv3⟩
            have HV3 := hide ((unhide HV2).trans (hv3.mono (unhide HV2).size))
            clear hv3 H3
            go_wp2_with fail
            refine (unhide H4 _ (unhide HV3)).mono ?_
            rintro e V4 ⟨rfl, hv4⟩
            have HV4 := hide ((unhide HV3).trans (hv4.mono (unhide HV3).size))
            clear hv4 H4
            go_wp2_with fail
            refine (unhide H5 _ (unhide HV4)).mono ?_
            rintro e V5 ⟨rfl, hv5⟩
            have HV5 := hide ((unhide HV4).trans (hv5.mono (unhide HV4).size))
            clear hv5 H5
            have HFin := hide ((unhide HB3).trans ((unhide HV5).mono (unhide HB3).size))
            go_wp2
            go_ret
            exact ⟨by first | rfl | simp, unhide HFin⟩)
end Go.Proofs.YtfghfohlcofdpaaDoor
