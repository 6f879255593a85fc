/-
  Package lex: text.
-/
import Derived.Test.YtmpkgjonbjpohaaGreatDoorXf
namespace Go.Proofs.YtmpkgjonbjpohaaGreatDoor
open Go Go.RowKit
set_option linter.unusedVariables false
set_option linter.unusedSimpArgs false

/-- The word of all texts that tokens begin with, behind those that were read; how many more there are; whether it is one. -/
def txM (a : Gt) : List UInt8 → List Gt → Wd × Nat × Bool
  | acc, [] => (⟨4, acc, 0, 0, a.f, a.line⟩, 0, true)
  | acc, t :: r => if t.kind == 4 then
      (if (unqM t.s).2 then
        (if 4096 < acc.length + (unqM t.s).1.length then (⟨0, [], 0, 0, a.f, a.line⟩, 0, false)
         else ((txM a (acc ++ (unqM t.s).1) r).1, if (txM a (acc ++ (unqM t.s).1) r).2.2 then (txM a (acc ++ (unqM t.s).1) r).2.1 + 1 else 0, (txM a (acc ++ (unqM t.s).1) r).2.2))
       else (⟨0, [], 0, 0, t.f, t.line⟩, 0, false))
    else (⟨4, acc, 0, 0, a.f, a.line⟩, 0, true)
theorem txM_end (a : Gt) (acc : List UInt8) : txM a acc [] = (⟨4, acc, 0, 0, a.f, a.line⟩, 0, true) := rfl
theorem txM_step (a t : Gt) (acc : List UInt8) (r : List Gt) : txM a acc (t :: r) = if t.kind == 4 then
      (if (unqM t.s).2 then
        (if 4096 < acc.length + (unqM t.s).1.length then (⟨0, [], 0, 0, a.f, a.line⟩, 0, false)
         else ((txM a (acc ++ (unqM t.s).1) r).1, if (txM a (acc ++ (unqM t.s).1) r).2.2 then (txM a (acc ++ (unqM t.s).1) r).2.1 + 1 else 0, (txM a (acc ++ (unqM t.s).1) r).2.2))
       else (⟨0, [], 0, 0, t.f, t.line⟩, 0, false))
    else (⟨4, acc, 0, 0, a.f, a.line⟩, 0, true) := rfl
theorem strC (s : ByteArray) : Lib.strCells s = Lib.byteCells s.data.toList := by simp [Lib.strCells, Lib.byteCells]
theorem unq_len (s : List UInt8) (h : s.length ≤ 140737488355320) : (unqM s).1.length ≤ 140737488355320 := by
  unfold unqM
  split
  · split
    · have h1 := unM_len (innM s).length (innM s)
      have h2 := innM_len s
      omega
    · simp
  · simp
/-- What the rest tells, behind k texts. -/
def addK (k : Nat) (q : Wd × Nat × Bool) : Wd × Nat × Bool := (q.1, if q.2.2 then q.2.1 + k else 0, q.2.2)
set_option maxRecDepth 100000 in
set_option maxHeartbeats 8000000 in
theorem text_any (p : Option Addr) (cap : Nat) (a : Gt) (tl : List Gt) (w : World) (hl : (a :: tl).length ≤ 1000000) (hT : TkG w.heap.size w (.slice p (a :: tl).length cap) (a :: tl)) (hok : ∀ t ∈ a :: tl, TokOK t) (hw : 10 < w.heap.size) (hg : Eg w) (hsg : Sg w) :
    Calls Tryz.prog 130 #[.slice p (a :: tl).length cap] w fun e w' => e = .returned (.tuple #[wdV (txM a [] (a :: tl)).1, .int .i64 ((txM a [] (a :: tl)).2.1 : Nat), .bool (txM a [] (a :: tl)).2.2]) ∧ Below w.heap.size w w' := by
  obtain ⟨R, hR⟩ : ∃ R, txM a [] (a :: tl) = R := ⟨_, rfl⟩
  rw [hR]
  obtain ⟨l, hll⟩ : ∃ l, a :: tl = l := ⟨_, rfl⟩
  have HC0 : Hid (∀ wr, Below w.heap.size w wr → ∃ g o, p = some ⟨g, o, none⟩ ∧ g < w.heap.size ∧ wr.cell? ⟨g, o, none⟩ = some (.int .i64 a.kind) ∧ wr.cell? ⟨g, o + 1, none⟩ = some (.string ⟨a.s.toArray⟩) ∧ wr.cell? ⟨g, o + 2, none⟩ = some (.string ⟨a.f.toArray⟩) ∧
      wr.cell? ⟨g, o + 3, none⟩ = some (.int .i64 a.line) ∧ wr.cell? ⟨g, o + 4, none⟩ = some (.bool a.sp) ∧ wr.cell? ⟨g, o + 5, none⟩ = some (.bool a.fi)) := fun wr hb => by
    obtain ⟨p', cap', hp, hc⟩ := hT.below hb
    obtain ⟨g, o, hp2, hgB, h⟩ := hc 0 (by simp)
    simp only [List.getElem_cons_zero, Nat.zero_mul, Nat.add_zero] at h
    refine ⟨g, o, ?_, hgB, h⟩
    simp at hp
    rw [hp.1, hp2]
  have H0 : Hid (R = addK 0 (txM a [] (l.drop 0))) := by
    rw [Hid, List.drop_zero, ← hll, hR]
    obtain ⟨r1, r2, r3⟩ := R
    cases r3
    · have : ∀ (l : List Gt) (acc : List UInt8), (txM a acc l).2.2 = false → (txM a acc l).2.1 = 0 := by
        intro l
        induction l with
        | nil => intro acc h; rfl
        | cons t r ih =>
          intro acc
          rw [txM_step]
          split
          · split
            · split
              · intro; rfl
              · intro h; simp only at h ⊢; rw [h]; rfl
            · intro; rfl
          · intro; rfl
      have h2 := this (a :: tl) [] (by rw [hR])
      rw [hR] at h2
      simp only at h2
      subst h2
      rfl
    · rfl
  have HAT : Hid (∀ (k : Nat) (h : k < l.length) (wr : World), Below w.heap.size w wr → ∃ g o, p = some ⟨g, o, none⟩ ∧ g < w.heap.size ∧ wr.cell? ⟨g, o + k * 6, none⟩ = some (.int .i64 l[k].kind) ∧ wr.cell? ⟨g, o + k * 6 + 1, none⟩ = some (.string ⟨l[k].s.toArray⟩) ∧ wr.cell? ⟨g, o + k * 6 + 2, none⟩ = some (.string ⟨l[k].f.toArray⟩) ∧
      wr.cell? ⟨g, o + k * 6 + 3, none⟩ = some (.int .i64 l[k].line) ∧ wr.cell? ⟨g, o + k * 6 + 4, none⟩ = some (.bool l[k].sp) ∧ wr.cell? ⟨g, o + k * 6 + 5, none⟩ = some (.bool l[k].fi)) := fun k h wr hb => by
    subst hll
    obtain ⟨p', cap', hp, hc⟩ := hT.below hb
    obtain ⟨g, o, hp2, hgB, h⟩ := hc k h
    refine ⟨g, o, ?_, hgB, h⟩
    simp at hp
    rw [hp.1, hp2]
  have HOK : Hid (∀ (k : Nat) (h : k < l.length), TokOK l[k]) := fun k h => hok _ (by rw [hll]; exact List.getElem_mem h)
  have hl0 : 0 < l.length := by rw [← hll]; simp
  rw [hll] at hl ⊢
  have HG := hide hg
  have HSG := hide hsg
  have hBu0 := isB_fresh (w.alloc (.cells (wdC zW).toArray 42))
  rw [World.size_alloc] at hBu0
  have hW0 : WBox ((w.alloc (.cells (wdC zW).toArray 42)).alloc (.cells #[.pointer none, .slice none 0 0] 178)) w.heap.size zW := (WBox.new w zW).below (below_new _ _) (by simp)
  have hbe0 : Below w.heap.size w ((w.alloc (.cells (wdC zW).toArray 42)).alloc (.cells #[.pointer none, .slice none 0 0] 178)) := ((Below.refl _ w).alloc (Nat.le_refl _) _).alloc (by simp) _
  clear hT hok hg hsg hR hll
  simp only [wdC, zW] at hBu0 hW0 hbe0
  go_enter Tryz.func130, Tryz.ntmps130
  go_wp2
  generalize ((w.alloc _).alloc _ : World) = W0 at *
  go_loopg [6] l.length (fun gk i wr => ∃ (k : Nat) (acc : List UInt8), gk = l.length - k ∧ i = .int .i64 (k : Int) ∧ k ≤ l.length ∧ acc.length ≤ 4096 ∧ Hid (Lib.IsBuilderF 178 5 (w.heap.size + 1) (w.heap.size + 1) (Lib.byteCells acc) wr) ∧ Hid (WBox wr w.heap.size ⟨0, [], 0, 0, [], 0⟩) ∧ Hid (Below w.heap.size w wr) ∧ Hid (R = addK k (txM a acc (l.drop k))))
  case atStart => exact ⟨0, [], rfl, rfl, Nat.zero_le _, by simp, hBu0, hW0, hbe0, H0⟩
  case round =>
    clear hBu0 hW0 hbe0 H0
    obtain ⟨k, acc, rfl, rfl, hk, hacc, HBU, HWB, HBE, HRK⟩ := hrel
    have hzr := (unhide HBE).size
    by_cases hlt : k < l.length
    · have i1 : (k : Int) < (l.length : Int) := by omega
      have hdr : l.drop k = l[k] :: l.drop (k + 1) := List.drop_eq_getElem_cons hlt
      have HST2 := unhide HRK
      rw [hdr, txM_step] at HST2
      have HS2 := hide HST2
      obtain ⟨g, o, hp', hgB, a0, a1, a2, a3, a4, a5⟩ := unhide HAT k hlt wr (unhide HBE)
      have hto := unhide HOK k hlt
      generalize l[k] = t at *
      clear HST2 hdr HRK
      cases h4 : t.kind == 4
      · have HFIN : Hid (R = (⟨4, acc, 0, 0, a.f, a.line⟩, k, true)) := by
          rw [Hid, unhide HS2, h4]; simp [addK]
        obtain rfl : p = some ⟨g, o, none⟩ := hp'
        have b0 := a0
        clear HS2 hto a1 a2 a3 a4 a5 a0
        have hpl := fun W => placed_any ⟨4, acc, 0, 0, [], 0⟩ a W
        simp only [wdV, wdC, gtV, gtC, plM] at hpl
        have HPL := hide hpl
        clear hpl
        go_upto_region 11 with fail
        have HST := hide (Tryz.Builder_String_any_k (w.heap.size + 1) (w.heap.size + 1) acc wr.drew (unhide HBU) (by have := isB_lt (unhide HBU); show _ ≤ wr.heap.size; omega))
        obtain ⟨g2, o2, hp', hg, a0, a1, a2, a3, a4, a5⟩ := unhide HC0 wr (unhide HBE)
        obtain ⟨rfl, rfl⟩ : g = g2 ∧ o = o2 := by simpa using hp'
        have d0 : wr.drew.cell? ⟨g, o, none⟩ = some (.int .i64 a.kind) := a0
        have d1 : wr.drew.cell? ⟨g, o + 1, none⟩ = some (.string ⟨a.s.toArray⟩) := a1
        have d2 : wr.drew.cell? ⟨g, o + 2, none⟩ = some (.string ⟨a.f.toArray⟩) := a2
        have d3 : wr.drew.cell? ⟨g, o + 3, none⟩ = some (.int .i64 a.line) := a3
        have d4 : wr.drew.cell? ⟨g, o + 4, none⟩ = some (.bool a.sp) := a4
        have d5 : wr.drew.cell? ⟨g, o + 5, none⟩ = some (.bool a.fi) := a5
        have HD := hide (And.intro d0 (And.intro d1 (And.intro d2 (And.intro d3 (And.intro d4 d5)))))
        go_region_with (first
          | (go_at_call 149; refine (unhide HST).mono ?_; rintro e W1 ⟨rfl, _, hb1, _⟩; have e0 := (hb1.cell (p := ⟨g, o, none⟩) (by show g < _; omega)).trans (unhide HD).1; have e1 := (hb1.cell (p := ⟨g, o + 1, none⟩) (by show g < _; omega)).trans (unhide HD).2.1; have e2 := (hb1.cell (p := ⟨g, o + 2, none⟩) (by show g < _; omega)).trans (unhide HD).2.2.1; have e3 := (hb1.cell (p := ⟨g, o + 3, none⟩) (by show g < _; omega)).trans (unhide HD).2.2.2.1; have e4 := (hb1.cell (p := ⟨g, o + 4, none⟩) (by show g < _; omega)).trans (unhide HD).2.2.2.2.1; have e5 := (hb1.cell (p := ⟨g, o + 5, none⟩) (by show g < _; omega)).trans (unhide HD).2.2.2.2.2; have qw := (show WBox wr.drew _ _ from unhide HWB).below hb1 (by omega); have HQW := hide qw; have HB1 := hide ((drewB (unhide HBE)).trans (hb1.mono (by omega))); clear hb1 qw)
          | (go_at_call 132; refine (unhide HPL _).mono ?_; rintro e W2 ⟨rfl, hb2⟩; have q := (unhide HQW).below hb2 (by have := (unhide HQW).lt; omega); have qz0 := WBox.frozen q 0; have qz1 := WBox.frozen q 1; have qz2 := WBox.frozen q 2; have qz3 := WBox.frozen q 3; have qz4 := WBox.frozen q 4; have qz5 := WBox.frozen q 5; obtain ⟨q0, q1, q2, q3, q4, q5⟩ := WBox.six q; have Q := hide q; have QB := hide ((unhide HB1).trans (hb2.mono (unhide HB1).size)); clear q hb2))
        all_goals (
          go_wp2
          refine bodyPost_ret (res_wtt (f := Tryz.f130) rfl rfl (sixw_set (unhide Q) _ _ _ _ _ _) rfl) rfl ⟨by rw [unhide HFIN]; rfl, below_put6 (unhide QB) (Nat.le_refl _) _ _ _ _ _ _⟩)
      · have hk4 : t.kind = 4 := by simpa using h4
        have HUQ := hide (unquoted_any t.s hto.1 wr (by omega) ((unhide HG).below (unhide HBE) hw) (Sg.below (unhide HSG) (unhide HBE) hw) (hto.2.1 hk4))
        clear hk4
        have HS3 := unhide HS2
        simp only [h4, if_true] at HS3
        have hul : (unqM t.s).1.length ≤ 140737488355320 := unq_len t.s hto.1
        generalize unqM t.s = U at *
        obtain ⟨us, ok⟩ := U
        simp only at hul
        simp only at HS3 HUQ
        obtain rfl : p = some ⟨g, o, none⟩ := hp'
        have hlu := len_toArray us
        cases ok
        · simp only [Bool.false_eq_true, if_false, addK] at HS3
          have HFIN := hide HS3
          have hpl := fun W => placed_any ⟨0, [], 0, 0, [], 0⟩ t W
          simp only [wdV, wdC, gtV, gtC, plM] at hpl
          have HPL := hide hpl
          have HA := hide (And.intro a0 (And.intro a1 (And.intro a2 (And.intro a3 (And.intro a4 a5)))))
          clear HS3 HS2 hpl
          go_upto_region 6 with (go_at_call 146; refine (unhide HUQ).mono ?_; rintro e W1 ⟨rfl, hb1⟩)
          have e0 := (hb1.cell (p := ⟨g, o + k * 6, none⟩) (by show g < _; omega)).trans (unhide HA).1
          have e1 := (hb1.cell (p := ⟨g, o + k * 6 + 1, none⟩) (by show g < _; omega)).trans (unhide HA).2.1
          have e2 := (hb1.cell (p := ⟨g, o + k * 6 + 2, none⟩) (by show g < _; omega)).trans (unhide HA).2.2.1
          have e3 := (hb1.cell (p := ⟨g, o + k * 6 + 3, none⟩) (by show g < _; omega)).trans (unhide HA).2.2.2.1
          have e4 := (hb1.cell (p := ⟨g, o + k * 6 + 4, none⟩) (by show g < _; omega)).trans (unhide HA).2.2.2.2.1
          have e5 := (hb1.cell (p := ⟨g, o + k * 6 + 5, none⟩) (by show g < _; omega)).trans (unhide HA).2.2.2.2.2
          have HQW := hide ((unhide HWB).below hb1 (unhide HWB).lt)
          have HB1 := hide ((unhide HBE).trans (hb1.mono hzr))
          clear hb1 a0 a1 a2 a3 a4 a5 HUQ
          go_wp2_with (go_at_call 132; refine (unhide HPL _).mono ?_; rintro e W2 ⟨rfl, hb2⟩; have q := (unhide HQW).below hb2 (unhide HQW).lt; have qz0 := WBox.frozen q 0; have qz1 := WBox.frozen q 1; have qz2 := WBox.frozen q 2; have qz3 := WBox.frozen q 3; have qz4 := WBox.frozen q 4; have qz5 := WBox.frozen q 5; obtain ⟨q0, q1, q2, q3, q4, q5⟩ := WBox.six q; have Q := hide q; have QB := hide ((unhide HB1).trans (hb2.mono (unhide HB1).size)); clear q hb2)
          refine bodyPost_ret (res_wtt (f := Tryz.f130) rfl rfl (sixw_set (unhide Q) _ _ _ _ _ _) rfl) rfl ⟨by rw [unhide HFIN]; rfl, below_put6 (unhide QB) (Nat.le_refl _) _ _ _ _ _ _⟩
        · simp only [if_true] at HS3
          by_cases hbig : 4096 < acc.length + us.length
          · rw [if_pos hbig] at HS3
            simp only [addK, Bool.false_eq_true, if_false] at HS3
            have HFIN := hide HS3
            have hpl := fun W => placed_any ⟨0, [], 0, 0, [], 0⟩ a W
            simp only [wdV, wdC, gtV, gtC, plM] at hpl
            have HPL := hide hpl
            clear HS3 HS2 hpl
            go_upto_region 7 with (go_at_call 146; refine (unhide HUQ).mono ?_; rintro e W1 ⟨rfl, hb1⟩)
            have hBU1 := isB_below (unhide HBU) hb1
            have HLN := Tryz.Builder_Len_f _ _ _ W1 hBU1
            rw [Lib.byteCells_length] at HLN
            have HLE := hide HLN
            have HQW := hide ((unhide HWB).below hb1 (unhide HWB).lt)
            have HB1 := hide ((unhide HBE).trans (hb1.mono hzr))
            obtain ⟨g2, o2, hp', hgB2, e0, e1, e2, e3, e4, e5⟩ := unhide HC0 W1 (unhide HB1)
            obtain ⟨rfl, rfl⟩ : g = g2 ∧ o = o2 := by simpa using hp'
            have i5 : ¬ ((acc.length : Int) + ((⟨us.toArray⟩ : ByteArray).size : Int) ≤ 4096) := by rw [hlu]; omega
            have i6 : (4096 : Int) < (acc.length : Int) + ((⟨us.toArray⟩ : ByteArray).size : Int) := by rw [hlu]; omega
            have i7 : acc.length + us.length ≤ 9223372036854775807 := by omega
            clear hb1 a0 a1 a2 a3 a4 a5 HUQ HLN hBU1
            go_upto_region 8 with (go_at_call 147; refine (unhide HLE).mono ?_; rintro e w' ⟨rfl, hw'⟩; obtain rfl := hw'.symm)
            go_wp2_with (go_at_call 132; refine (unhide HPL _).mono ?_; rintro e W2 ⟨rfl, hb2⟩; have q := (unhide HQW).below hb2 (unhide HQW).lt; have qz0 := WBox.frozen q 0; have qz1 := WBox.frozen q 1; have qz2 := WBox.frozen q 2; have qz3 := WBox.frozen q 3; have qz4 := WBox.frozen q 4; have qz5 := WBox.frozen q 5; obtain ⟨q0, q1, q2, q3, q4, q5⟩ := WBox.six q; have Q := hide q; have QB := hide ((unhide HB1).trans (hb2.mono (unhide HB1).size)); clear q hb2)
            refine bodyPost_ret (res_wtt (f := Tryz.f130) rfl rfl (sixw_set (unhide Q) _ _ _ _ _ _) rfl) rfl ⟨by rw [unhide HFIN]; rfl, below_put6 (unhide QB) (Nat.le_refl _) _ _ _ _ _ _⟩
          · rw [if_neg hbig] at HS3
            have HS4 : Hid (R = addK (k + 1) (txM a (acc ++ us) (l.drop (k + 1)))) := by
              rw [Hid, HS3]
              generalize txM a (acc ++ us) (l.drop (k + 1)) = Z
              obtain ⟨z1, z2, z3⟩ := Z
              cases z3
              · rfl
              · simp [addK]; omega
            clear HS3 HS2
            go_upto_region 7 with (go_at_call 146; refine (unhide HUQ).mono ?_; rintro e W1 ⟨rfl, hb1⟩)
            have hBU1 := isB_below (unhide HBU) hb1
            have HLN := Tryz.Builder_Len_f _ _ _ W1 hBU1
            rw [Lib.byteCells_length] at HLN
            have HLE := hide HLN
            have HQW := hide ((unhide HWB).below hb1 (unhide HWB).lt)
            have HB1 := hide ((unhide HBE).trans (hb1.mono hzr))
            have HWS := hide (Tryz.Builder_WriteString_k (w.heap.size + 1) (w.heap.size + 1) _ ⟨us.toArray⟩ W1 hBU1 (by rw [Lib.byteCells_length, hlu]; omega) (by have := isB_lt hBU1; omega))
            have i5 : ((acc.length : Int) + ((⟨us.toArray⟩ : ByteArray).size : Int) ≤ 4096) := by rw [hlu]; omega
            have i6 : ¬ (4096 : Int) < (acc.length : Int) + ((⟨us.toArray⟩ : ByteArray).size : Int) := by rw [hlu]; omega
            clear hb1 a0 a1 a2 a3 a4 a5 HUQ HLN hBU1
            go_upto_region 9 with (go_at_call 147; refine (unhide HLE).mono ?_; rintro e w' ⟨rfl, hw'⟩; obtain rfl := hw'.symm)
            go_upto_region 10 with (go_at_call 148; refine (unhide HWS).mono ?_; rintro e W2 ⟨rfl, hB2, hb2, _⟩)
            have HBU2 : Hid (Lib.IsBuilderF 178 5 (w.heap.size + 1) (w.heap.size + 1) (Lib.byteCells (acc ++ us)) W2) := by
              rw [strC] at hB2
              rw [Hid, byteC_app]
              exact .inr hB2
            have HQ2 := hide ((unhide HQW).below hb2 (by omega))
            have HB2 := hide ((unhide HB1).trans (hb2.mono (by omega)))
            have hal : (acc ++ us).length ≤ 4096 := by rw [List.length_append]; omega
            clear hB2 hb2 HWS HLE i5 i6
            go_wp2
            go_roundg (l.length - (k + 1))
            case measure => omega
            case rel => exact ⟨k + 1, acc ++ us, rfl, by go_num, by omega, hal, HBU2, HQ2, HB2, HS4⟩
    · have i1 : ¬ (k : Int) < (l.length : Int) := by omega
      have hkl : k = l.length := by omega
      have HFIN : Hid (R = (⟨4, acc, 0, 0, a.f, a.line⟩, k, true)) := by
        rw [Hid, unhide HRK, hkl, List.drop_length, txM_end]; simp [addK]
      clear HRK hkl
      have hpl := fun W => placed_any ⟨4, acc, 0, 0, [], 0⟩ a W
      simp only [wdV, wdC, gtV, gtC, plM] at hpl
      have HPL := hide hpl
      clear hpl
      go_upto_region 11 with fail
      have HST := hide (Tryz.Builder_String_any_k (w.heap.size + 1) (w.heap.size + 1) acc wr.drew (unhide HBU) (by have := isB_lt (unhide HBU); show _ ≤ wr.heap.size; omega))
      obtain ⟨g, o, hp', hg, a0, a1, a2, a3, a4, a5⟩ := unhide HC0 wr (unhide HBE)
      obtain rfl : p = some ⟨g, o, none⟩ := hp'
      have d0 : wr.drew.cell? ⟨g, o, none⟩ = some (.int .i64 a.kind) := a0
      have d1 : wr.drew.cell? ⟨g, o + 1, none⟩ = some (.string ⟨a.s.toArray⟩) := a1
      have d2 : wr.drew.cell? ⟨g, o + 2, none⟩ = some (.string ⟨a.f.toArray⟩) := a2
      have d3 : wr.drew.cell? ⟨g, o + 3, none⟩ = some (.int .i64 a.line) := a3
      have d4 : wr.drew.cell? ⟨g, o + 4, none⟩ = some (.bool a.sp) := a4
      have d5 : wr.drew.cell? ⟨g, o + 5, none⟩ = some (.bool a.fi) := a5
      have HD := hide (And.intro d0 (And.intro d1 (And.intro d2 (And.intro d3 (And.intro d4 d5)))))
      go_region_with (first
        | (go_at_call 149; refine (unhide HST).mono ?_; rintro e W1 ⟨rfl, _, hb1, _⟩; have e0 := (hb1.cell (p := ⟨g, o, none⟩) (by show g < _; omega)).trans (unhide HD).1; have e1 := (hb1.cell (p := ⟨g, o + 1, none⟩) (by show g < _; omega)).trans (unhide HD).2.1; have e2 := (hb1.cell (p := ⟨g, o + 2, none⟩) (by show g < _; omega)).trans (unhide HD).2.2.1; have e3 := (hb1.cell (p := ⟨g, o + 3, none⟩) (by show g < _; omega)).trans (unhide HD).2.2.2.1; have e4 := (hb1.cell (p := ⟨g, o + 4, none⟩) (by show g < _; omega)).trans (unhide HD).2.2.2.2.1; have e5 := (hb1.cell (p := ⟨g, o + 5, none⟩) (by show g < _; omega)).trans (unhide HD).2.2.2.2.2; have qw := (show WBox wr.drew _ _ from unhide HWB).below hb1 (by omega); have HQW := hide qw; have HB1 := hide ((drewB (unhide HBE)).trans (hb1.mono (by omega))); clear hb1 qw)
        | (go_at_call 132; refine (unhide HPL _).mono ?_; rintro e W2 ⟨rfl, hb2⟩; have q := (unhide HQW).below hb2 (by have := (unhide HQW).lt; omega); have qz0 := WBox.frozen q 0; have qz1 := WBox.frozen q 1; have qz2 := WBox.frozen q 2; have qz3 := WBox.frozen q 3; have qz4 := WBox.frozen q 4; have qz5 := WBox.frozen q 5; obtain ⟨q0, q1, q2, q3, q4, q5⟩ := WBox.six q; have Q := hide q; have QB := hide ((unhide HB1).trans (hb2.mono (unhide HB1).size)); clear q hb2))
      all_goals (
        go_wp2
        refine bodyPost_ret (res_wtt (f := Tryz.f130) rfl rfl (sixw_set (unhide Q) _ _ _ _ _ _) rfl) rfl ⟨by rw [unhide HFIN]; rfl, below_put6 (unhide QB) (Nat.le_refl _) _ _ _ _ _ _⟩)
end Go.Proofs.YtmpkgjonbjpohaaGreatDoor
