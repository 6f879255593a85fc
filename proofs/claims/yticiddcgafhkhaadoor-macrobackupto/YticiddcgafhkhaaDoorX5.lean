/-
  The reference's Show.
-/
import Derived.Test.YticiddcgafhkhaaDoorX4
namespace Go.Proofs.YticiddcgafhkhaaDoor
open Go Go.RowKit
set_option linter.unusedVariables false
set_option linter.unusedSimpArgs false

theorem jn_first (ps : List (List UInt8)) (h : 0 < ps.length) (sep : List UInt8) : Lib.join (ps.take 1) sep = ps[0] := by
  match ps, h with
  | x :: r, _ => exact Lib.join_one x sep
theorem jn_next (ps : List (List UInt8)) (k : Nat) (h : k < ps.length) (h0 : 0 < k) (sep : List UInt8) : Lib.join (ps.take (k + 1)) sep = Lib.join (ps.take k) sep ++ sep ++ ps[k] := by
  match ps, k, h, h0 with
  | x :: r, k + 1, h, _ =>
    rw [List.take_succ_cons, List.take_succ_cons, Lib.join_cons, Lib.join_cons, Lib.joinTail_take_succ sep r k (r[k]'(by simpa using h)) (List.getElem?_eq_getElem _)]
    simp
theorem jn_len (ps : List (List UInt8)) (k : Nat) (sep : List UInt8) : (Lib.join (ps.take k) sep).length ≤ (Lib.join ps sep).length := by
  match ps, k with
  | [], k => simp
  | x :: r, 0 => simp [Lib.join_nil]
  | x :: r, k + 1 =>
    rw [List.take_succ_cons, Lib.join_cons, Lib.join_cons, List.length_append, List.length_append]
    have := Lib.joinTail_take_le sep r k
    omega
theorem jn_more (ps : List (List UInt8)) (h : 0 < ps.length) (sep : List UInt8) : Lib.join (ps ++ [[46, 46, 46]]) sep = Lib.join ps sep ++ sep ++ [46, 46, 46] := by
  have := jn_next (ps ++ [[46, 46, 46]]) ps.length (by simp) h sep
  rw [List.take_of_length_le (by simp)] at this
  rw [this]
  simp
theorem ba_eq {T : ByteArray} {l : List UInt8} (h : T.data.toList = l) : T = ⟨l.toArray⟩ := by
  apply ByteArray.ext; rw [← h]
theorem ba_size (T : ByteArray) : T.size = T.data.toList.length := by simp
theorem ba_list (a b : ByteArray) : (a ++ b).data.toList = a.data.toList ++ b.data.toList := by simp

set_option maxRecDepth 100000 in
set_option maxHeartbeats 8000000 in
theorem rShow_any (x : Value) (m : Mc) (w : World) (hf : McFits m) (hx : McV w.heap.size w x m)
    (hz : m.name.length + (Lib.join (listedS m.more m.ps) [44, 32]).length + (spG m.body).length + 10 ≤ 140737488355328) :
    Calls Tryd.prog 12 #[x] w fun e w' => e = .returned (if rrightM m then .tuple #[.string ⟨(showM m).toArray⟩, .int .i64 0] else .tuple #[.string ⟨#[]⟩, .int .i64 2]) ∧ Below w.heap.size w w' := by
  have HRM := hide (fun W (hB : Below w.heap.size w W) => rRight_any x m W hf (hx.below hB))
  obtain ⟨pv, bv, rfl, hpv, hbv, _⟩ := hx
  obtain ⟨name, fn, ps, more, body⟩ := m
  obtain ⟨_, hpl, _, hbl, _⟩ := hf
  simp only at *
  have HV : Hid (showM ⟨name, fn, ps, more, body⟩ = (name ++ (if fn then [40] ++ Lib.join (listedS more ps) [44, 32] ++ [41] else [])) ++ (if 0 < body.length then [32] ++ spG body else [])) := rfl
  generalize showM ⟨name, fn, ps, more, body⟩ = V at *
  generalize rrightM ⟨name, fn, ps, more, body⟩ = R at *
  have hb0 : Below w.heap.size w (w.alloc (.cells #[.string ⟨name.toArray⟩, .bool fn, pv, .bool more, bv] 25)) := (Below.refl _ w).alloc (Nat.le_refl _) _
  have hz0 : (w.alloc (.cells #[.string ⟨name.toArray⟩, .bool fn, pv, .bool more, bv] 25)).heap.size = w.heap.size + 1 := by simp
  have HF := hide (five_new w (.string ⟨name.toArray⟩) pv bv fn more)
  have H0 := hide (unhide HRM _ hb0)
  have HSP := hide (fun W (hB : Below w.heap.size w W) => rSpell_any bv body W hbl (by omega) ((hbv.below hB).mono hB.size))
  have HB0 := hide hb0
  have HPV := hide hpv
  obtain ⟨pb, cb, hbe, _⟩ := hbv
  subst hbe
  obtain ⟨pp, pc, hpe, _⟩ := hpv
  subst hpe
  have sn : (⟨name.toArray⟩ : ByteArray).size = name.length := by show name.toArray.size = _; simp
  have ss : (⟨(spG body).toArray⟩ : ByteArray).size = (spG body).length := by show Array.size _ = _; simp
  have hjl := jn_len (listedS more ps) ps.length [44, 32]
  have htk : (listedS more ps).take ps.length = ps := by cases more <;> simp [listedS]
  rw [htk] at hjl
  clear hb0 HRM htk
  go_enter Tryd.func12, Tryd.ntmps12
  obtain ⟨a0, a1, a2, a3, a4⟩ := unhide HF
  go_wp2_with fail
  refine (unhide H0).mono ?_
  rintro e W1 ⟨rfl, hb1⟩
  rw [hz0] at hb1
  have hz1 := hb1.size
  rw [hz0] at hz1
  have hF1 := (unhide HF).below hb1 (by omega)
  have HF1 := hide hF1
  have HB1 : Hid (Below w.heap.size w W1) := (unhide HB0).trans (hb1.mono (by omega))
  obtain ⟨d0, d1, d2, d3, d4⟩ := hF1
  clear a0 a1 a2 a3 a4 H0 HF HB0 hb1
  cases R
  · go_wp2
    go_ret2
    exact ⟨rfl, unhide HB1⟩
  · cases fn
    · by_cases hbo : 0 < body.length
      · have i1 : (0 : Int) < (body.length : Int) := by omega
        have HV2 : Hid (V = name ++ ([32] ++ spG body)) := by rw [Hid, unhide HV, if_pos hbo]; simp
        have H2 := hide (unhide HSP W1 (unhide HB1))
        generalize hS : (⟨(spG body).toArray⟩ : ByteArray) = S at *
        generalize hN : (⟨name.toArray⟩ : ByteArray) = N at *
        have HS := hide hS
        have HN := hide hN
        clear hS hN
        have k0 : ¬ 9223372036854775806 < N.size := by omega
        go_wp2_with fail
        refine (unhide H2).mono ?_
        rintro e W2 ⟨rfl, hb2⟩
        have k2 : ¬ 9223372036854775807 < N.size + 1 + S.size := by omega
        have hB2 : Below w.heap.size w W2 := (unhide HB1).trans (hb2.mono (by omega))
        go_wp2
        go_ret2
        refine ⟨?_, hB2⟩
        rw [unhide HV2]
        rw [ba_eq (T := N ++ ⟨#[32]⟩ ++ S) (l := name ++ ([32] ++ spG body)) (by rw [ba_list, ba_list, ← unhide HN, ← unhide HS]; simp)]
        rfl
      · have i1 : ¬ (0 : Int) < (body.length : Int) := by omega
        have HV2 : Hid (V = name) := by rw [Hid, unhide HV, if_neg hbo]; simp
        obtain rfl : body = [] := List.eq_nil_of_length_eq_zero (by omega)
        clear i1 hbo HV
        simp only [List.length_nil] at *
        go_wp2
        go_ret2
        exact ⟨by rw [unhide HV2]; rfl, unhide HB1⟩
    · have HV1 : Hid (V = (name ++ ([40] ++ Lib.join (listedS more ps) [44, 32] ++ [41])) ++ (if 0 < body.length then [32] ++ spG body else [])) := unhide HV
      clear HV
      generalize hN : (⟨name.toArray⟩ : ByteArray) = N at *
      have HN := hide hN
      clear hN
      have k0 : ¬ 9223372036854775806 < N.size := by omega
      go_wp2
      have hT0 : Hid ((N ++ ⟨#[40]⟩ : ByteArray).data.toList = name ++ [40] ++ Lib.join (ps.take 0) [44, 32]) := by rw [Hid, ba_list, ← unhide HN]; simp [Lib.join_nil]
      have HJL := hide hjl
      have HZ := hide hz
      clear hjl hz
      have hTz : ∀ (k : Nat) (T : ByteArray), T.data.toList = name ++ [40] ++ Lib.join (ps.take k) [44, 32] → T.size ≤ 140737488355328 := fun k T h => by
        have h1 := jn_len ps k [44, 32]
        have h2 := unhide HJL
        have h3 := unhide HZ
        rw [ba_size, h]
        simp only [List.length_append, List.length_cons, List.length_nil]
        omega
      have HTZ := hide hTz
      clear hTz
      generalize (N ++ ⟨#[40]⟩ : ByteArray) = T0 at *
      clear k0 sn
      go_loopg [5, 6] ps.length (fun gk t i wr => ∃ (k : Nat) (T : ByteArray), gk = ps.length - k ∧ t = .string T ∧ i = .int .i64 k ∧ k ≤ ps.length ∧ Hid (T.data.toList = name ++ [40] ++ Lib.join (ps.take k) [44, 32]) ∧ wr = W1)
      case atStart => exact ⟨0, T0, rfl, rfl, rfl, by omega, hT0, rfl⟩
      case round =>
        obtain ⟨k, T, rfl, rfl, rfl, hk, hT, hww⟩ := hrel
        obtain rfl := hww.symm
        clear hT0
        have hTs := unhide HTZ k T (unhide hT)
        by_cases hlt : k < ps.length
        · have i1 : (k : Int) < (ps.length : Int) := by omega
          obtain ⟨g, o, rfl, hg, a0⟩ := ((unhide HPV).below (unhide HB1)).at k hlt
          by_cases hk0 : k = 0
          · subst hk0
            have hT1 : Hid ((T ++ ⟨ps[0].toArray⟩ : ByteArray).data.toList = name ++ [40] ++ Lib.join (ps.take (0 + 1)) [44, 32]) := by
              rw [Hid, ba_list, unhide hT, Nat.zero_add, jn_first ps hlt]; simp [Lib.join_nil]
            have hT1s := unhide HTZ _ _ (unhide hT1)
            have hsz : (T ++ ⟨ps[0].toArray⟩ : ByteArray).size = T.size + (⟨ps[0].toArray⟩ : ByteArray).size := by simp
            rw [hsz] at hT1s
            simp only [Nat.add_zero] at a0
            generalize hP : (⟨ps[0].toArray⟩ : ByteArray) = P at *
            clear hP hsz
            have k1 : ¬ 9223372036854775807 < T.size + P.size := by omega
            go_wp2
            go_roundg (ps.length - 1)
            case measure => omega
            case rel => exact ⟨1, T ++ P, rfl, rfl, by go_num, by omega, hT1, rfl⟩
          · have i2 : (0 : Int) < (k : Int) := by omega
            have hT1 : Hid ((T ++ ⟨#[44, 32]⟩ ++ ⟨ps[k].toArray⟩ : ByteArray).data.toList = name ++ [40] ++ Lib.join (ps.take (k + 1)) [44, 32]) := by
              rw [Hid, ba_list, ba_list, unhide hT, jn_next ps k hlt (by omega)]; simp
            have hT1s := unhide HTZ _ _ (unhide hT1)
            have hsz : (T ++ ⟨#[44, 32]⟩ ++ ⟨ps[k].toArray⟩ : ByteArray).size = T.size + 2 + (⟨ps[k].toArray⟩ : ByteArray).size := by simp; rfl
            rw [hsz] at hT1s
            generalize hP : (⟨ps[k].toArray⟩ : ByteArray) = P at *
            clear hP hsz
            have k0 : ¬ 9223372036854775805 < T.size := by omega
            have k1 : ¬ 9223372036854775807 < T.size + 2 + P.size := by omega
            go_wp2
            go_roundg (ps.length - (k + 1))
            case measure => omega
            case rel => exact ⟨k + 1, T ++ ⟨#[44, 32]⟩ ++ P, rfl, rfl, by go_num, by omega, hT1, rfl⟩
        · have hkl : k = ps.length := by omega
          subst hkl
          have hTf := unhide hT
          rw [List.take_of_length_le (Nat.le_refl _)] at hTf
          have hR : ∃ U : ByteArray, Hid (U.data.toList = name ++ ([40] ++ Lib.join (listedS more ps) [44, 32] ++ [41])) ∧ U.size ≤ 140737488355328 - 10 - (spG body).length + 2 ∧ ((more = false ∧ U = T ++ ⟨#[41]⟩) ∨ (more = true ∧ 0 < ps.length ∧ U = T ++ ⟨#[44, 32]⟩ ++ ⟨#[46, 46, 46]⟩ ++ ⟨#[41]⟩) ∨ (more = true ∧ ps = [] ∧ U = T ++ ⟨#[46, 46, 46]⟩ ++ ⟨#[41]⟩)) := by
            have h3 := unhide HZ
            cases more
            · refine ⟨T ++ ⟨#[41]⟩, ?_, ?_, .inl ⟨rfl, rfl⟩⟩
              · rw [Hid, ba_list, hTf]; simp [listedS]
              · rw [ba_size, ba_list, hTf]; simp [listedS] at h3 ⊢; omega
            · by_cases hp0 : 0 < ps.length
              · refine ⟨T ++ ⟨#[44, 32]⟩ ++ ⟨#[46, 46, 46]⟩ ++ ⟨#[41]⟩, ?_, ?_, .inr (.inl ⟨rfl, hp0, rfl⟩)⟩
                · rw [Hid, ba_list, ba_list, ba_list, hTf]; simp [listedS, jn_more ps hp0]
                · rw [ba_size, ba_list, ba_list, ba_list, hTf]; simp [listedS, jn_more ps hp0] at h3 ⊢; omega
              · obtain rfl : ps = [] := List.eq_nil_of_length_eq_zero (by omega)
                refine ⟨T ++ ⟨#[46, 46, 46]⟩ ++ ⟨#[41]⟩, ?_, ?_, .inr (.inr ⟨rfl, rfl, rfl⟩)⟩
                · rw [Hid, ba_list, ba_list, hTf]; simp [listedS, Lib.join_nil, Lib.join_one]
                · rw [ba_size, ba_list, ba_list, hTf]; simp [listedS, Lib.join_nil, Lib.join_one] at h3 ⊢; omega
          obtain ⟨U, hU, hUs, hcs⟩ := hR
          have hsb : (spG body).length ≤ 140737488355328 := by have := unhide HZ; omega
          clear hTf hT HZ HJL HTZ
          have k1 : ¬ 9223372036854775806 < T.size := by omega
          have k2 : ¬ 9223372036854775805 < T.size := by omega
          have k3 : ¬ 9223372036854775804 < T.size := by omega
          have k4 : ¬ 9223372036854775803 < T.size := by omega
          have k5 : ¬ 9223372036854775802 < T.size := by omega
          have k6 : ¬ 9223372036854775801 < T.size := by omega
          have k7 : ¬ 9223372036854775800 < T.size := by omega
          by_cases hbo : 0 < body.length
          · have i1 : (0 : Int) < (body.length : Int) := by omega
            have HV2 : Hid (V = U.data.toList ++ ([32] ++ spG body)) := by rw [Hid, unhide HV1, if_pos hbo, unhide hU]
            have H2 := hide (unhide HSP W1 (unhide HB1))
            generalize hS : (⟨(spG body).toArray⟩ : ByteArray) = S at *
            have HS := hide hS
            clear hS
            have hfin : Hid (∀ W2, Below W1.heap.size W1 W2 → Below w.heap.size w W2) := fun W2 hb2 => (unhide HB1).trans (hb2.mono (by omega))
            rcases hcs with ⟨rfl, rfl⟩ | ⟨rfl, hp0, rfl⟩ | ⟨rfl, rfl, rfl⟩
            · go_wp2_with fail
              refine (unhide H2).mono ?_
              rintro e W2 ⟨rfl, hb2⟩
              have hB2 := unhide hfin W2 hb2
              have hbz : Hid (¬ 9223372036854775807 < T.size + 1 + 1 + S.size) := (fun h => absurd h (by omega))
              have k8 := unhide hbz
              go_wp2
              go_ret2
              refine ⟨?_, hB2⟩
              have hs : (⟨((T ++ (⟨#[41]⟩ : ByteArray) : ByteArray).data.toList ++ ([32] ++ spG body)).toArray⟩ : ByteArray) = T ++ (⟨#[41]⟩ : ByteArray) ++ (⟨#[32]⟩ : ByteArray) ++ S := (ba_eq (by rw [ba_list, ba_list, ← unhide HS]; simp)).symm
              rw [unhide HV2, hs]
              rfl
            · have i2 : (0 : Int) < (ps.length : Int) := by omega
              go_wp2_with fail
              refine (unhide H2).mono ?_
              rintro e W2 ⟨rfl, hb2⟩
              have hB2 := unhide hfin W2 hb2
              have hbz : Hid (¬ 9223372036854775807 < T.size + 2 + 3 + 1 + 1 + S.size) := (fun h => absurd h (by omega))
              have k8 := unhide hbz
              go_wp2
              go_ret2
              refine ⟨?_, hB2⟩
              have hs : (⟨((T ++ (⟨#[44, 32]⟩ : ByteArray) ++ (⟨#[46, 46, 46]⟩ : ByteArray) ++ (⟨#[41]⟩ : ByteArray) : ByteArray).data.toList ++ ([32] ++ spG body)).toArray⟩ : ByteArray) = T ++ (⟨#[44, 32]⟩ : ByteArray) ++ (⟨#[46, 46, 46]⟩ : ByteArray) ++ (⟨#[41]⟩ : ByteArray) ++ (⟨#[32]⟩ : ByteArray) ++ S := (ba_eq (by rw [ba_list, ba_list, ← unhide HS]; simp)).symm
              rw [unhide HV2, hs]
              rfl
            · simp only [List.length_nil] at *
              go_wp2_with fail
              refine (unhide H2).mono ?_
              rintro e W2 ⟨rfl, hb2⟩
              have hB2 := unhide hfin W2 hb2
              have hbz : Hid (¬ 9223372036854775807 < T.size + 3 + 1 + 1 + S.size) := (fun h => absurd h (by omega))
              have k8 := unhide hbz
              go_wp2
              go_ret2
              refine ⟨?_, hB2⟩
              have hs : (⟨((T ++ (⟨#[46, 46, 46]⟩ : ByteArray) ++ (⟨#[41]⟩ : ByteArray) : ByteArray).data.toList ++ ([32] ++ spG body)).toArray⟩ : ByteArray) = T ++ (⟨#[46, 46, 46]⟩ : ByteArray) ++ (⟨#[41]⟩ : ByteArray) ++ (⟨#[32]⟩ : ByteArray) ++ S := (ba_eq (by rw [ba_list, ba_list, ← unhide HS]; simp)).symm
              rw [unhide HV2, hs]
              rfl
          · obtain rfl : body = [] := List.eq_nil_of_length_eq_zero (by omega)
            have HV2 : Hid (V = U.data.toList) := by rw [Hid, unhide HV1, unhide hU]; simp
            clear hbo
            simp only [List.length_nil] at *
            rcases hcs with ⟨rfl, rfl⟩ | ⟨rfl, hp0, rfl⟩ | ⟨rfl, rfl, rfl⟩
            · go_wp2
              go_ret2
              refine ⟨?_, unhide HB1⟩
              rw [unhide HV2]
              rfl
            · have i2 : (0 : Int) < (ps.length : Int) := by omega
              go_wp2
              go_ret2
              refine ⟨?_, unhide HB1⟩
              rw [unhide HV2]
              rfl
            · simp only [List.length_nil] at *
              go_wp2
              go_ret2
              refine ⟨?_, unhide HB1⟩
              rw [unhide HV2]
              rfl
end Go.Proofs.YticiddcgafhkhaaDoor
