/-
  Package macro: Right.
-/
import Derived.Test.YticiddcgafhkhaaGreatDoorUb
namespace Go.Proofs.YticiddcgafhkhaaGreatDoor
open Go Go.RowKit
set_option linter.unusedVariables false
set_option linter.unusedSimpArgs false

/-- A macro, plain. -/
structure Mc where
  name : List UInt8
  fn : Bool
  ps : List (List UInt8)
  more : Bool
  body : List Gt
  deriving DecidableEq
def defS : List UInt8 := [100, 101, 102, 105, 110, 101, 100]
def rightM (m : Mc) : Bool :=
  nmB ⟨m.name.toArray⟩ && (!decide (m.name = defS) && (!decide (m.name = vaS) && (!(!m.fn && (decide (0 < m.ps.length) || m.more)) && (rpB m.ps && rbB m.fn m.more m.ps m.body))))
/-- A macro's value, whose lists lie below B. -/
def McV (B : Nat) (W : World) (x : Value) (m : Mc) : Prop :=
  ∃ pv bv, x = .agg #[.string ⟨m.name.toArray⟩, .bool m.fn, pv, .bool m.more, bv] ∧ StG B W pv m.ps ∧ TkG B W bv m.body ∧ (∀ p n c, pv = .slice p n c → n ≤ c ∧ c ≤ maxLen)
/-- A macro that a walk may bear. -/
structure McFits (m : Mc) : Prop where
  name : m.name.length ≤ 140737488355328
  ps : m.ps.length ≤ 140737488355328
  each : ∀ p ∈ m.ps, p.length ≤ 140737488355328
  body : m.body.length ≤ 140737488355328
  spelt : m.body.length ≤ 500 → (spG m.body).length ≤ 140737488355328

set_option maxRecDepth 100000 in
set_option maxHeartbeats 8000000 in
theorem Right_any (x : Value) (m : Mc) (w : World) (hf : McFits m) (hx : McV w.heap.size w x m) (hw0 : 1 < w.heap.size) (hsg : Sg w) :
    Calls Tryz.prog 21 #[x] w fun e w' => e = .returned (.bool (rightM m)) ∧ Below w.heap.size w w' := by
  obtain ⟨pv, bv, rfl, hpv, hbv, hcap⟩ := hx
  obtain ⟨name, fn, ps, more, body⟩ := m
  obtain ⟨hn, hp, he, hb, hs⟩ := hf
  simp only at *
  have HR : Hid (rightM ⟨name, fn, ps, more, body⟩ = (nmB ⟨name.toArray⟩ && (!decide (name = defS) && (!decide (name = vaS) && (!(!fn && (decide (0 < ps.length) || more)) && (rpB ps && rbB fn more ps body)))))) := rfl
  generalize rightM ⟨name, fn, ps, more, body⟩ = R at *
  have hb0 : Below w.heap.size w (w.alloc (.cells #[.string ⟨name.toArray⟩, .bool fn, pv, .bool more, bv] 33)) := (Below.refl _ w).alloc (Nat.le_refl _) _
  have hz0 : (w.alloc (.cells #[.string ⟨name.toArray⟩, .bool fn, pv, .bool more, bv] 33)).heap.size = w.heap.size + 1 := by simp
  have HF := hide (five_new w (.string ⟨name.toArray⟩) pv bv fn more)
  have HNM := hide (isName_any ⟨name.toArray⟩ (w.alloc (.cells #[.string ⟨name.toArray⟩, .bool fn, pv, .bool more, bv] 33)) (by show name.toArray.size ≤ _; simpa using hn) (by omega) (Sg.below hsg hb0 hw0))
  have HRP := hide (fun W (hB : Below w.heap.size w W) => rightParams_any pv ps W he hp hcap ((hpv.below hB).mono hB.size) (Nat.lt_of_lt_of_le hw0 hB.size) (Sg.below hsg hB hw0))
  have HRB := hide (fun W (hB : Below w.heap.size w W) => rightBody_any (.string ⟨name.toArray⟩) pv bv fn more ps body W hs hb hp ((hpv.below hB).mono hB.size) ((hbv.below hB).mono hB.size) (Nat.lt_of_lt_of_le hw0 hB.size) (Sg.below hsg hB hw0))
  have HB0 := hide hb0
  have ed := beq_list name defS
  have ev := beq_list name vaS
  obtain ⟨pp, pc, hpe, _⟩ := hpv
  subst hpe
  have el : decide (0 < ps.length) = decide ((0 : Int) < (ps.length : Int)) := by rw [Bool.eq_iff_iff]; simp only [decide_eq_true_eq]; omega
  rw [el] at HR
  clear el hcap hbv hsg hb0 hn hp he hb hs
  generalize nmB ⟨name.toArray⟩ = N at *
  generalize rpB ps = RP at *
  generalize rbB fn more ps body = RB at *
  generalize decide (name = defS) = D at *
  generalize decide (name = vaS) = V at *
  unfold defS at ed
  unfold vaS at ev
  go_enter Tryz.func21, Tryz.ntmps21
  have c0 := (unhide HF).1
  go_wp2_with fail
  refine (unhide HNM).mono ?_
  rintro e W1 ⟨rfl, hb1⟩
  have hz1 := hb1.size
  rw [hz0] at hz1 hb1
  have hF1 := (unhide HF).below hb1 (by omega)
  have HF1 := hide hF1
  have HB1 : Hid (Below w.heap.size w W1) := (unhide HB0).trans (hb1.mono (by omega))
  obtain ⟨d0, d1, d2, d3, d4⟩ := hF1
  clear c0 HNM HF HB0 hb1
  have H1 := hide (unhide HRP W1 (unhide HB1))
  cases N
  · go_wp2
    go_ret
    exact ⟨by rw [unhide HR]; rfl, unhide HB1⟩
  · cases D
    · cases V
      · cases fn
        · cases more
          · by_cases hps : 0 < ps.length
            · have i1 : (0 : Int) < (ps.length : Int) := by omega
              have HR2 : Hid (R = false) := by rw [Hid, unhide HR, decide_eq_true i1]; rfl
              go_wp2
              go_ret
              exact ⟨by rw [unhide HR2]; rfl, unhide HB1⟩
            · have i1 : ¬ (0 : Int) < (ps.length : Int) := by omega
              have HR2 : Hid (R = (RP && RB)) := by rw [Hid, unhide HR, decide_eq_false i1]; rfl
              obtain rfl : ps = [] := List.eq_nil_of_length_eq_zero (by omega)
              clear i1 hps HR
              simp only [List.length_nil] at *
              go_wp2_with fail
              refine (unhide H1).mono ?_
              rintro e W2 ⟨rfl, hb2⟩
              have hB2 : Below w.heap.size w W2 := (unhide HB1).trans (hb2.mono (by omega))
              have HB2 := hide hB2
              obtain ⟨g0, g1, g2, g3, g4⟩ := (unhide HF1).below hb2 (by omega)
              have H2 := hide (unhide HRB W2 hB2)
              clear d0 d1 d2 d3 d4 H1 hB2 hb2
              cases RP
              · go_wp2
                go_ret
                exact ⟨by rw [unhide HR2]; rfl, unhide HB2⟩
              · go_wp2_with fail
                refine (unhide H2).mono ?_
                rintro e W3 ⟨rfl, hb3⟩
                go_wp2
                go_ret
                exact ⟨by rw [unhide HR2]; rfl, (unhide HB2).trans (hb3.mono (unhide HB2).size)⟩
          · by_cases hps : 0 < ps.length
            · have i1 : (0 : Int) < (ps.length : Int) := by omega
              have HR2 : Hid (R = false) := by rw [Hid, unhide HR, decide_eq_true i1]; rfl
              go_wp2
              go_ret
              exact ⟨by rw [unhide HR2]; rfl, unhide HB1⟩
            · have i1 : ¬ (0 : Int) < (ps.length : Int) := by omega
              have HR2 : Hid (R = false) := by rw [Hid, unhide HR, decide_eq_false i1]; rfl
              obtain rfl : ps = [] := List.eq_nil_of_length_eq_zero (by omega)
              clear i1 hps HR
              simp only [List.length_nil] at *
              go_wp2
              go_ret
              exact ⟨by rw [unhide HR2]; rfl, unhide HB1⟩
        · have HR2 : Hid (R = (RP && RB)) := unhide HR
          go_wp2_with fail
          refine (unhide H1).mono ?_
          rintro e W2 ⟨rfl, hb2⟩
          have hB2 : Below w.heap.size w W2 := (unhide HB1).trans (hb2.mono (by omega))
          have HB2 := hide hB2
          obtain ⟨g0, g1, g2, g3, g4⟩ := (unhide HF1).below hb2 (by omega)
          have H2 := hide (unhide HRB W2 hB2)
          clear d0 d1 d2 d3 d4 H1 hB2 hb2
          cases RP
          · go_wp2
            go_ret
            exact ⟨by rw [unhide HR2]; rfl, unhide HB2⟩
          · go_wp2_with fail
            refine (unhide H2).mono ?_
            rintro e W3 ⟨rfl, hb3⟩
            go_wp2
            go_ret
            exact ⟨by rw [unhide HR2]; rfl, (unhide HB2).trans (hb3.mono (unhide HB2).size)⟩
      · go_wp2
        go_ret
        exact ⟨by rw [unhide HR]; rfl, unhide HB1⟩
    · go_wp2
      go_ret
      exact ⟨by rw [unhide HR]; rfl, unhide HB1⟩
end Go.Proofs.YticiddcgafhkhaaGreatDoor
