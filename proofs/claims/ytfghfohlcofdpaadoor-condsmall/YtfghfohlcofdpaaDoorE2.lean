/-
  burinlaw05.CondSame: the walk.
-/
import Derived.Test.YtfghfohlcofdpaaDoorE1
import Derived.Laws.MathBits
namespace Go.Proofs.YtfghfohlcofdpaaDoor
open Go Go.RowKit
set_option linter.unusedVariables false
set_option linter.unusedSimpArgs false

theorem and15 (z : Int) (h0 : 0 ≤ z) (h1 : z < 18446744073709551616) : bits .and .u64 z 15 = z % 16 := by go_bits2
theorem and7 (z : Int) (h0 : 0 ≤ z) (h1 : z < 18446744073709551616) : bits .and .u64 z 7 = z % 8 := by go_bits2
theorem ba_app (a b : List UInt8) : (⟨a.toArray⟩ : ByteArray) ++ (⟨b.toArray⟩ : ByteArray) = ⟨(a ++ b).toArray⟩ := by
  apply WideShapes.bytes_inj
  simp
theorem shr_and (n k top st : Nat) (hn : n < 18446744073709551616) (hk : st * k ≤ top) (m : Int) (mm : Nat) (hm : m = ((mm : Nat) : Int)) (hand : ∀ z : Int, 0 ≤ z → z < 18446744073709551616 → bits .and .u64 z (m - 1) = z % m) :
    bits .and .u64 ((n : Int) / 2 ^ ((top : Int) - (st : Int) * (k : Int)).toNat) (m - 1) = ((n / 2 ^ (top - st * k) % mm : Nat) : Int) := by
  have e1 : ((top : Int) - (st : Int) * (k : Int)).toNat = top - st * k := by
    have : (st : Int) * (k : Int) = ((st * k : Nat) : Int) := by simp
    rw [this]; generalize st * k = q at *; omega
  have e2 : (n : Int) / 2 ^ (top - st * k) = ((n / 2 ^ (top - st * k) : Nat) : Int) := by simp
  have hlt : n / 2 ^ (top - st * k) < 18446744073709551616 := Nat.lt_of_le_of_lt (Nat.div_le_self _ _) hn
  rw [e1, e2, hand _ (Int.natCast_nonneg _) (by omega), hm]
  simp
theorem slice_dig (L : List UInt8) (d : Nat) (hd : d < L.length) (hL : L.length ≤ 16) (W : World) : (Instr.slice 9 (.string ⟨L.toArray⟩) (some (.int .u64 (d : Int))) (some (.int .u64 (IntKind.u64.wrap ((d : Int) + 1)))) none).run Tryd.prog W = .ok (.string ⟨#[L.getD d 0]⟩) W := by
  have hw : IntKind.u64.wrap ((d : Int) + 1) = (d : Int) + 1 := by rw [IntKind.wrap_u64]; omega
  have hsz : (⟨L.toArray⟩ : ByteArray).size = L.length := by show L.toArray.size = _; simp
  rw [hw, run_slice_string (P := Tryd.prog) (w := W) 9 ⟨L.toArray⟩ .u64 .u64 (d : Int) ((d : Int) + 1) Tryd.underlying9 (by omega) (by omega) (by rw [hsz]; omega)]
  have e1 : ((d : Int) + 1).toNat = d + 1 := by omega
  have e2 : ((d : Int)).toNat = d := by omega
  rw [e1, e2, ext_list]
  have : (L.take (d + 1)).drop d = [L.getD d 0] := by
    rw [List.take_succ_eq_append_getElem hd, List.drop_append_of_le_length (by simp; omega), List.drop_of_length_le (by simp; omega), List.nil_append]
    simp [List.getD, List.getElem?_eq_getElem hd]
  rw [this]
theorem rem6 (kind : Int) : ∃ j : Nat, j < 6 ∧ (wrap64 (kind.tmod 6 + 6)).tmod 6 = (j : Int) := by
  have h1 : -6 < kind.tmod 6 := Int.lt_tmod_of_pos kind (by decide)
  have h2 : kind.tmod 6 < 6 := Int.tmod_lt_of_pos kind (by decide)
  generalize kind.tmod 6 = x at *
  have hw : wrap64 (x + 6) = x + 6 := by unfold wrap64; omega
  rw [hw]
  refine ⟨((x + 6).tmod 6).toNat, ?_, ?_⟩
  · have h3 : 0 ≤ (x + 6).tmod 6 := Int.tmod_nonneg _ (by omega)
    have h4 : (x + 6).tmod 6 < 6 := Int.tmod_lt_of_pos _ (by decide)
    omega
  · have h3 : 0 ≤ (x + 6).tmod 6 := Int.tmod_nonneg _ (by omega)
    omega
theorem index6 : ∀ (j : Nat) (h : j < 6) (W : World), (Instr.index 39 (.agg #[.string ⟨#[]⟩, .string ⟨#[117]⟩, .string ⟨#[108]⟩, .string ⟨#[85, 76, 76]⟩, .string ⟨#[108, 108, 85]⟩, .string ⟨#[76, 117]⟩]) (.int .i64 (j : Int))).run Tryd.prog W = .ok (.string ⟨(ends6.getD j []).toArray⟩) W
  | 0, _, W => by kernel_rfl
  | 1, _, W => by kernel_rfl
  | 2, _, W => by kernel_rfl
  | 3, _, W => by kernel_rfl
  | 4, _, W => by kernel_rfl
  | 5, _, W => by kernel_rfl
theorem ends_len : ∀ j, j < 6 → (ends6.getD j []).length ≤ 3 := by decide
set_option maxRecDepth 100000 in
set_option maxHeartbeats 4000000 in
theorem same_walk (n : Nat) (hn : n < 18446744073709551616) (kind : Int) (w : World) (hg : Gl w) :
    Calls Tryd.prog 6 #[.int .u64 (n : Int), .int .i64 kind] w fun e w' => e = .returned (.bool true) ∧ Below w.heap.size w w' := by
  have HG := hide hg
  have HSH := hide (shown_any w hg)
  have HX : Hid (∀ k : Nat, k < 16 → bits .and .u64 ((n : Int) / 2 ^ (60 - 4 * (k : Int)).toNat) 15 = ((n / 2 ^ (60 - 4 * k) % 16 : Nat) : Int)) := fun k hk => shr_and n k 60 4 hn (by omega) 16 16 rfl and15
  have HX8 : Hid (∀ k : Nat, k < 22 → bits .and .u64 ((n : Int) / 2 ^ (63 - 3 * (k : Int)).toNat) 7 = ((n / 2 ^ (63 - 3 * k) % 8 : Nat) : Int)) := fun k hk => shr_and n k 63 3 hn (by omega) 8 8 rfl and7
  clear hg
  go_enter Tryd.func6, Tryd.ntmps6
  go_wp2_with fail
  refine (unhide HSH).mono ?_
  rintro e W1 ⟨rfl, hb1⟩
  have HB1 := hide hb1
  clear hb1 HSH
  go_wp2
  go_loopg [8, 9, 11] 16 (fun gk vh vg vi wr => ∃ (k : Nat) (H G : ByteArray), gk = 16 - k ∧ vh = .string H ∧ vg = .string G ∧ vi = .int .i64 (60 - 4 * (k : Int)) ∧ k ≤ 16 ∧ H.size = k ∧ G.size = k ∧ Hid (H = ⟨(dgs small16 n 60 4 16 k).toArray⟩) ∧ Hid (G = ⟨(dgs great16 n 60 4 16 k).toArray⟩) ∧ Hid (Below w.heap.size w wr))
  case atStart => exact ⟨0, ⟨#[]⟩, ⟨#[]⟩, rfl, rfl, rfl, rfl, by omega, rfl, rfl, rfl, rfl, HB1⟩
  case round =>
    obtain ⟨k, H, G, rfl, rfl, rfl, rfl, hk, hH, hG, HH, HGr, HB⟩ := hrel
    by_cases hk15 : k < 16
    · have i0 : (0 : Int) ≤ 60 - 4 * (k : Int) := by omega
      obtain ⟨d, hd, hdd⟩ : ∃ d, d < 16 ∧ n / 2 ^ (60 - 4 * k) % 16 = d := ⟨_, Nat.mod_lt _ (by decide), rfl⟩
      have hx := unhide HX k hk15
      rw [hdd] at hx
      have hs1 : ∀ W, (Instr.slice 9 (.string ⟨#[48, 49, 50, 51, 52, 53, 54, 55, 56, 57, 97, 98, 99, 100, 101, 102]⟩) (some (.int .u64 (d : Int))) (some (.int .u64 (IntKind.u64.wrap ((d : Int) + 1)))) none).run Tryd.prog W = .ok (.string ⟨#[small16.getD d 0]⟩) W := fun W => slice_dig small16 d hd (by decide) W
      have hs2 : ∀ W, (Instr.slice 9 (.string ⟨#[48, 49, 50, 51, 52, 53, 54, 55, 56, 57, 65, 66, 67, 68, 69, 70]⟩) (some (.int .u64 (d : Int))) (some (.int .u64 (IntKind.u64.wrap ((d : Int) + 1)))) none).run Tryd.prog W = .ok (.string ⟨#[great16.getD d 0]⟩) W := fun W => slice_dig great16 d hd (by decide) W
      have HE1 : Hid (H ++ ⟨#[small16.getD d 0]⟩ = ⟨(dgs small16 n 60 4 16 (k + 1)).toArray⟩) := by
        rw [Hid, unhide HH, dgs, hdd]; exact ba_app _ [small16.getD d 0]
      have HE2 : Hid (G ++ ⟨#[great16.getD d 0]⟩ = ⟨(dgs great16 n 60 4 16 (k + 1)).toArray⟩) := by
        rw [Hid, unhide HGr, dgs, hdd]; exact ba_app _ [great16.getD d 0]
      generalize small16.getD d 0 = c1 at *
      generalize great16.getD d 0 = c2 at *
      have hz1 : (⟨#[c1]⟩ : ByteArray).size = 1 := rfl
      have hz2 : (⟨#[c2]⟩ : ByteArray).size = 1 := rfl
      have hN1 : ∀ W, (Op.stringOp .add H ⟨#[c1]⟩).run Tryd.prog W = .ok (.string (H ++ ⟨#[c1]⟩)) W := fun W => run_string_add_sum W _ _ (by rw [hz1]; omega)
      have hN2 : ∀ W, (Op.stringOp .add G ⟨#[c2]⟩).run Tryd.prog W = .ok (.string (G ++ ⟨#[c2]⟩)) W := fun W => run_string_add_sum W _ _ (by rw [hz2]; omega)
      have HHs := hide hH
      have HGs := hide hG
      have HD := hide hd
      clear hH hG
      clear hdd HX HX8 HG hd HH HGr
      go_upto_region 10 with fail
      go_quiet (fail)
      have HBa := hide (below_drewN (unhide HB) nq)
      generalize wr.drewN nq = Wa at *
      clear HB nq
      go_upto_region 11 with fail
      go_quiet (fail)
      have HBb := hide (below_drewN (unhide HBa) nq)
      generalize Wa.drewN nq = Wb at *
      clear HBa nq
      go_wp2
      go_roundg (16 - (k + 1))
      case measure => omega
      case rel =>
        refine ⟨k + 1, _, _, rfl, rfl, rfl, ?_, by omega, ?_, ?_, HE1, HE2, HBb⟩
        · have e1 : (60 : Int) - 4 * (k : Int) - 4 = 60 - 4 * ((k + 1 : Nat) : Int) := by omega
          first | rw [← e1] | (simp; omega)
        · rw [unhide HE1]; show (dgs small16 n 60 4 16 (k + 1)).toArray.size = _; simp [dgs_len]
        · rw [unhide HE2]; show (dgs great16 n 60 4 16 (k + 1)).toArray.size = _; simp [dgs_len]
    · obtain rfl : k = 16 := by omega
      clear hk15 hk HX
      have HHs := hide hH
      have HGs := hide hG
      clear hH hG
      go_wp2
      have HBw := hide (unhide HB)
      clear HB
      go_loopg [10, 12] 22 (fun gk vo vi wx => ∃ (k : Nat) (O : ByteArray), gk = 22 - k ∧ vo = .string O ∧ vi = .int .i64 (63 - 3 * (k : Int)) ∧ k ≤ 22 ∧ O.size = k ∧ Hid (O = ⟨(dgs small16 n 63 3 8 k).toArray⟩) ∧ Hid (Below w.heap.size w wx))
      case atStart => exact ⟨0, ⟨#[]⟩, rfl, rfl, rfl, by omega, rfl, rfl, HBw⟩
      case round =>
        obtain ⟨k, O, rfl, rfl, rfl, hk, hO, HO, HB⟩ := hrel
        clear HBw
        by_cases hk22 : k < 22
        · have i0 : (0 : Int) ≤ 63 - 3 * (k : Int) := by omega
          obtain ⟨d, hd, hdd⟩ : ∃ d, d < 8 ∧ n / 2 ^ (63 - 3 * k) % 8 = d := ⟨_, Nat.mod_lt _ (by decide), rfl⟩
          have hx := unhide HX8 k hk22
          rw [hdd] at hx
          have hs1 : ∀ W, (Instr.slice 9 (.string ⟨#[48, 49, 50, 51, 52, 53, 54, 55, 56, 57, 97, 98, 99, 100, 101, 102]⟩) (some (.int .u64 (d : Int))) (some (.int .u64 (IntKind.u64.wrap ((d : Int) + 1)))) none).run Tryd.prog W = .ok (.string ⟨#[small16.getD d 0]⟩) W := fun W => slice_dig small16 d (Nat.lt_trans hd (by decide)) (by decide) W
          have HE1 : Hid (O ++ ⟨#[small16.getD d 0]⟩ = ⟨(dgs small16 n 63 3 8 (k + 1)).toArray⟩) := by
            rw [Hid, unhide HO, dgs, hdd]; exact ba_app _ [small16.getD d 0]
          generalize small16.getD d 0 = c1 at *
          have hz1 : (⟨#[c1]⟩ : ByteArray).size = 1 := rfl
          have hN1 : ∀ W, (Op.stringOp .add O ⟨#[c1]⟩).run Tryd.prog W = .ok (.string (O ++ ⟨#[c1]⟩)) W := fun W => run_string_add_sum W _ _ (by rw [hz1]; omega)
          have HOs := hide hO
          have HD := hide hd
          clear hdd HX8 HG hd HO hO HH HGr HHs HGs
          go_upto_region 15 with fail
          go_quiet (fail)
          have HBa := hide (below_drewN (unhide HB) nq)
          generalize World.drewN _ nq = Wa at *
          clear HB nq
          go_wp2
          go_roundg (22 - (k + 1))
          case measure => omega
          case rel =>
            refine ⟨k + 1, _, rfl, rfl, ?_, by omega, ?_, HE1, HBa⟩
            · have e1 : (63 : Int) - 3 * (k : Int) - 3 = 63 - 3 * ((k + 1 : Nat) : Int) := by omega
              first | rw [← e1] | (simp; omega)
            · rw [unhide HE1]; show (dgs small16 n 63 3 8 (k + 1)).toArray.size = _; simp [dgs_len]
        · obtain rfl : k = 22 := by omega
          clear hk22 hk HX8
          obtain ⟨j, hj6, hj⟩ : ∃ j : Nat, j < 6 ∧ (wrap64 (kind.tmod 6 + 6)).tmod 6 = (j : Int) := rem6 kind
          have hix : ∀ W : World, (Instr.index 39 (.agg #[.string ⟨#[]⟩, .string ⟨#[117]⟩, .string ⟨#[108]⟩, .string ⟨#[85, 76, 76]⟩, .string ⟨#[108, 108, 85]⟩, .string ⟨#[76, 117]⟩]) (.int .i64 (j : Int))).run Tryd.prog W = .ok (.string ⟨(ends6.getD j []).toArray⟩) W := fun W => index6 j hj6 W
          have hE : (ends6.getD j []).length ≤ 3 := ends_len j hj6
          obtain ⟨A1, hA1⟩ : ∃ A1, (⟨#[48, 120]⟩ : ByteArray) ++ H = A1 := ⟨_, rfl⟩
          obtain ⟨A2, hA2⟩ : ∃ A2, (⟨#[48, 88]⟩ : ByteArray) ++ G = A2 := ⟨_, rfl⟩
          obtain ⟨A3, hA3⟩ : ∃ A3, (⟨#[48]⟩ : ByteArray) ++ O = A3 := ⟨_, rfl⟩
          have HQ1 : Hid (A1 ++ ⟨(ends6.getD j []).toArray⟩ = ⟨([48, 120] ++ dgs small16 n 60 4 16 16 ++ ends6.getD j []).toArray⟩) := by
            rw [Hid, ← hA1, unhide HH, ← ba_app, ← ba_app]
          have HQ2 : Hid (A2 ++ ⟨(ends6.getD j []).toArray⟩ = ⟨([48, 88] ++ dgs great16 n 60 4 16 16 ++ ends6.getD j []).toArray⟩) := by
            rw [Hid, ← hA2, unhide HGr, ← ba_app, ← ba_app]
          have HQ3 : Hid (A3 ++ ⟨(ends6.getD j []).toArray⟩ = ⟨([48] ++ dgs small16 n 63 3 8 22 ++ ends6.getD j []).toArray⟩) := by
            rw [Hid, ← hA3, unhide HO, ← ba_app, ← ba_app]
          have hL : ∀ tbl top st m k (p : List UInt8), p.length ≤ 2 → k ≤ 22 → (p ++ dgs tbl n top st m k ++ ends6.getD j []).length ≤ 140737488355328 := fun tbl top st m k p hp hk => by
            simp only [List.length_append, dgs_len]; omega
          have hN1 := fun W (hb : Below w.heap.size w W) => Number_any _ (hL small16 60 4 16 16 [48, 120] (by decide) (by decide)) W (by have := ((unhide HG).next hb).size; omega) ((unhide HG).next hb).eg
          have hN2 := fun W (hb : Below w.heap.size w W) => Number_any _ (hL great16 60 4 16 16 [48, 88] (by decide) (by decide)) W (by have := ((unhide HG).next hb).size; omega) ((unhide HG).next hb).eg
          have hN3 := fun W (hb : Below w.heap.size w W) => Number_any _ (hL small16 63 3 8 22 [48] (by decide) (by decide)) W (by have := ((unhide HG).next hb).size; omega) ((unhide HG).next hb).eg
          rw [num_hex 120 (.inl rfl) small16 (.inl rfl) n hn j hj6, ← unhide HQ1] at hN1
          rw [num_hex 88 (.inr rfl) great16 (.inr rfl) n hn j hj6, ← unhide HQ2] at hN2
          rw [num_oct n hn j hj6, ← unhide HQ3] at hN3
          have HN1 := hide hN1
          have HN2 := hide hN2
          have HN3 := hide hN3
          have hsE : (⟨(ends6.getD j []).toArray⟩ : ByteArray).size ≤ 3 := by show (ends6.getD j []).toArray.size ≤ 3; simpa using hE
          have hz1 : A1.size = 18 := by rw [← hA1, ByteArray.size_append, unhide HHs]; rfl
          have hz2 : A2.size = 18 := by rw [← hA2, ByteArray.size_append, unhide HGs]; rfl
          have hz3 : A3.size = 23 := by rw [← hA3, ByteArray.size_append, hO]; rfl
          have hU : endU j = (((j : Int) != 0) && ((j : Int) != 2)) := by unfold endU; rw [Bool.eq_iff_iff]; simp; omega
          generalize (⟨(ends6.getD j []).toArray⟩ : ByteArray) = E at *
          have hs1 : ∀ W, (Op.stringOp .add ⟨#[48, 120]⟩ H).run Tryd.prog W = .ok (.string A1) W := fun W => by rw [run_string_add_sum W _ _ (by rw [unhide HHs]; decide), hA1]
          have hs2 : ∀ W, (Op.stringOp .add ⟨#[48, 88]⟩ G).run Tryd.prog W = .ok (.string A2) W := fun W => by rw [run_string_add_sum W _ _ (by rw [unhide HGs]; decide), hA2]
          have hs3 : ∀ W, (Op.stringOp .add ⟨#[48]⟩ O).run Tryd.prog W = .ok (.string A3) W := fun W => by rw [run_string_add_sum W _ _ (by rw [hO]; decide), hA3]
          obtain ⟨B1, hB1⟩ : ∃ B1, A1 ++ E = B1 := ⟨_, rfl⟩
          obtain ⟨B2, hB2⟩ : ∃ B2, A2 ++ E = B2 := ⟨_, rfl⟩
          obtain ⟨B3, hB3⟩ : ∃ B3, A3 ++ E = B3 := ⟨_, rfl⟩
          have ht1 : ∀ W, (Op.stringOp .add A1 E).run Tryd.prog W = .ok (.string B1) W := fun W => by rw [run_string_add_sum W _ _ (by omega), hB1]
          have ht2 : ∀ W, (Op.stringOp .add A2 E).run Tryd.prog W = .ok (.string B2) W := fun W => by rw [run_string_add_sum W _ _ (by omega), hB2]
          have ht3 : ∀ W, (Op.stringOp .add A3 E).run Tryd.prog W = .ok (.string B3) W := fun W => by rw [run_string_add_sum W _ _ (by omega), hB3]
          rw [hB1] at HN1
          rw [hB2] at HN2
          rw [hB3] at HN3
          clear HO HH HGr hO HHs HGs hz1 hz2 hz3 hsE hE hN1 hN2 hN3 hL HQ1 HQ2 HQ3 hA1 hA2 hA3 hB1 hB2 hB3 hj6
          have hnI : decide ((9223372036854775808 : Int) ≤ (n : Int)) = decide (9223372036854775808 ≤ n) := by rw [decide_eq_decide]; omega
          rw [hU] at HN1 HN2 HN3
          rw [← hnI] at HN1 HN2 HN3
          clear hU hnI hn
          simp only [evalV, if_true] at HN1 HN2 HN3
          obtain ⟨U, hU⟩ : ∃ U, (((j : Int) != 0) && ((j : Int) != 2) || decide ((9223372036854775808 : Int) ≤ (n : Int))) = U := ⟨_, rfl⟩
          rw [hU] at HN1 HN2 HN3
          have HU := hide hU
          clear hU
          go_wp2_with fail
          refine (unhide HN1 _ (unhide HB)).mono ?_
          rintro e V1 ⟨rfl, hb1⟩
          have HV1 := hide ((unhide HB).trans (hb1.mono (unhide HB).size))
          clear HN1 hb1 HB
          go_wp2_with fail
          refine (unhide HN2 _ (unhide HV1)).mono ?_
          rintro e V2 ⟨rfl, hb2⟩
          have HV2 := hide ((unhide HV1).trans (hb2.mono (unhide HV1).size))
          clear HN2 hb2 HV1
          go_wp2_with fail
          refine (unhide HN3 _ (unhide HV2)).mono ?_
          rintro e V3 ⟨rfl, hb3⟩
          have HV3 := hide ((unhide HV2).trans (hb3.mono (unhide HV2).size))
          clear HN3 hb3 HV2
          cases h0 : ((j : Int) != 0) <;> cases h2 : ((j : Int) != 2) <;> cases h3 : decide ((9223372036854775808 : Int) ≤ (n : Int))
          all_goals (
            rw [h0, h2, h3] at HU
            simp only [Bool.false_and, Bool.and_false, Bool.and_true, Bool.false_or, Bool.or_true, Bool.true_or] at HU
            obtain rfl := unhide HU
            go_wp2
            go_ret
            exact ⟨by first | rfl | (simp_all; done), unhide HV3⟩)
end Go.Proofs.YtfghfohlcofdpaaDoor
