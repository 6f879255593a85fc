/-
  Package cond: readNumber, the walk.
-/
import Derived.Test.YtmpkgjonbjpohaaGreatDoorCa
namespace Go.Proofs.YtmpkgjonbjpohaaGreatDoor
open Go Go.RowKit
set_option linter.unusedVariables false
set_option linter.unusedSimpArgs false

theorem neE (v : Value) (w : World) : (binOp .neq 182 (.iface 242 v) .nilIface).run Tryz.prog w = .ok (.bool true) w := by kernel_rfl
set_option maxRecDepth 100000 in
set_option maxHeartbeats 8000000 in
theorem readNumber_any (s : List UInt8) (hs : s.length ≤ 140737488355328) (w : World) (hw : 10 < w.heap.size) (hg : Eg w) :
    Calls Tryz.prog 176 #[.string ⟨s.toArray⟩] w fun e w' => e = .returned (.tuple #[(numM s).1.v, .bool (numM s).2]) ∧ Below w.heap.size w w' := by
  have HBO := hide (fun W => baseOf_any s W (by unfold maxLen; omega))
  have hb16 : baseM s = 16 → 2 ≤ s.length := base16_len
  have hbi := baseM_is s
  have HR : Hid (restM s = if baseM s == 16 then s.drop 2 else s) := rfl
  have hrl : (restM s).length ≤ s.length := by
    unfold restM
    split
    · simp
    · exact Nat.le_refl _
  have HN : Hid (numM s = if (puS (baseM s) (baseC (baseM s)) ((restM s).take (digN (baseM s) (restM s)))).2 ≠ 0 then (⟨0, false⟩, false)
    else (⟨(puS (baseM s) (baseC (baseM s)) ((restM s).take (digN (baseM s) (restM s)))).1, (sufM ((restM s).drop (digN (baseM s) (restM s)))).1 || (decide (9223372036854775808 ≤ (puS (baseM s) (baseC (baseM s)) ((restM s).take (digN (baseM s) (restM s)))).1) && baseM s != 10)⟩, (sufM ((restM s).drop (digN (baseM s) (restM s)))).2)) := rfl
  have HPU := hide (fun t (ht : t.length ≤ 140737488355328) W (hb : Below w.heap.size w W) => ParseUint_any (baseM s) hbi t ht W (Nat.lt_of_lt_of_le hw hb.size) (hg.below hb hw))
  generalize numM s = NM at *
  generalize restM s = r at *
  generalize baseM s = b at *
  have hb0 := below_new w (.cells #[.int .u64 0, .bool false] 222)
  have hn0 : VBox (w.alloc (.cells #[.int .u64 0, .bool false] 222)) w.heap.size (.int .u64 0) false := World.alloc_heap_new w _
  have HB0 := hide hb0
  have HV0 := hide hn0
  obtain ⟨q0, q1⟩ := hn0.two
  clear hb0 hn0 hg hw
  have hszl : ∀ l : List UInt8, (⟨l.toArray⟩ : ByteArray).size = l.length := fun l => by show l.toArray.size = _; simp
  have HE : Hid ((⟨s.toArray⟩ : ByteArray).extract 2 (⟨s.toArray⟩ : ByteArray).size = ⟨(s.drop 2).toArray⟩) := by
    rw [Hid, ext_list, hszl, List.take_length]
  have hsz := hszl s
  cases h16 : b == 16
  · rw [h16] at HR
    simp only [Bool.false_eq_true, if_false] at HR
    obtain rfl := unhide HR
    clear HR
    go_enter Tryz.func176, Tryz.ntmps176
    go_wp2_with (go_at_call 188; refine (unhide HBO _).mono ?_; rintro e w' ⟨rfl, hw'⟩; obtain rfl := hw'.symm)
    generalize w.alloc (.cells #[.int .u64 0, .bool false] 222) = W0 at *
    have hszr := hszl r
    have hrl' : r.length ≤ 140737488355328 := by omega
    have HX : Hid (∀ k, k ≤ r.length → (⟨r.toArray⟩ : ByteArray).extract 0 k = ⟨(r.take k).toArray⟩ ∧ (⟨r.toArray⟩ : ByteArray).extract k r.length = ⟨(r.drop k).toArray⟩) := fun k hk => ⟨by rw [ext_list, List.drop_zero], by rw [ext_list, List.take_length]⟩
    go_loopg [5] r.length (fun gk vi wr => ∃ k : Nat, gk = r.length - k ∧ vi = .int .i64 k ∧ k ≤ r.length ∧ wr = W0 ∧ Hid (digN b r = k + digN b (r.drop k)))
    case atStart => exact ⟨0, rfl, rfl, by omega, rfl, by rw [Hid, List.drop_zero]; omega⟩
    case round =>
      obtain ⟨k, rfl, rfl, hk, rfl, HD⟩ := hrel
      obtain ⟨hx1, hx2⟩ := unhide HX k hk
      by_cases hkl : k < r.length
      · have i1 : (k : Int) < (r.length : Int) := by omega
        have hd := unhide HD
        rw [List.drop_eq_getElem_cons hkl, digN] at hd
        have HDG := hide (fun W => isDigitC_any (r[k].toNat : Int) b W)
        generalize hdg : digM (r[k].toNat : Int) b = dg at *
        have HDD := hide hd
        clear hd HD hdg
        cases dg
        · have HKD : Hid (digN b r = k) := by rw [Hid]; have := unhide HDD; simpa using this
          go_wp2_with fail
          refine (unhide HDG _).mono ?_
          rintro e w' ⟨rfl, hw'⟩
          obtain rfl := hw'.symm
          have HP := hide (unhide HPU (r.take k) (by simp; omega) wr (unhide HB0))
          rw [unhide HKD] at HN
          have HSF := hide (fun W => readSuffix_any (r.drop k) W)
          generalize puS b (baseC b) (r.take k) = Z at *
          generalize sufM (r.drop k) = SF at *
          obtain ⟨zn, ze⟩ := Z
          obtain ⟨su, sok⟩ := SF
          simp only at HN HSF
          have hneN := neN
          have hneE := neE
          go_wp2_with fail
          refine (unhide HP).mono ?_
          rintro e W1 ⟨⟨er, rfl, hcase⟩, hb1⟩
          have hv1 := (unhide HV0).below hb1 (unhide HV0).lt
          have HB1 := hide ((unhide HB0).trans (hb1.mono (unhide HB0).size))
          clear q0 q1
          obtain ⟨q0, q1⟩ := hv1.two
          have y0 := hv1.frozen 0
          have y1 := hv1.frozen 1
          have HV1 := hide hv1
          clear hv1 hb1 HP
          simp only at hcase
          rcases hcase with ⟨hz, rfl⟩ | ⟨hz, v, rfl⟩
          · rw [if_neg (by simpa using hz)] at HN
            obtain rfl := unhide HN
            simp only [Vl.v]
            cases hge : decide (9223372036854775808 ≤ zn) <;> cases hb10 : (b != 10) <;> cases su
            all_goals (
              go_wp2_with (go_at_call 191; refine (unhide HSF _).mono ?_; rintro e w' ⟨rfl, hw'⟩; obtain rfl := hw'.symm)
              refine bodyPost_ret (res_vt (f := Tryz.f176) rfl rfl ((unhide HV1).put _ _) rfl) rfl ⟨by first | rfl | (simp [hge, hb10]; done) | (simp_all; done), below_put2 (unhide HB1) (Nat.le_refl _) _ _⟩)
          · rw [if_pos (by simpa using hz)] at HN
            obtain rfl := unhide HN
            simp only [Vl.v]
            go_wp2
            refine bodyPost_ret (res_vt (f := Tryz.f176) rfl rfl ((unhide HV1).put _ _) rfl) rfl ⟨rfl, below_put2 (unhide HB1) (Nat.le_refl _) _ _⟩
        · have HKD : Hid (digN b r = (k + 1) + digN b (r.drop (k + 1))) := by have := unhide HDD; simp at this; rw [Hid]; omega
          go_wp2_with fail
          refine (unhide HDG _).mono ?_
          rintro e w' ⟨rfl, hw'⟩
          obtain rfl := hw'.symm
          go_wp2
          go_roundg (r.length - (k + 1))
          case measure => omega
          case rel => exact ⟨k + 1, rfl, by go_num, by omega, rfl, HKD⟩
      · have i1 : ¬ (k : Int) < (r.length : Int) := by omega
        have HKD : Hid (digN b r = k) := by
          have hd := unhide HD
          rw [List.drop_eq_nil_of_le (by omega), digN] at hd
          rw [Hid]; omega
        clear HD
        have HP := hide (unhide HPU (r.take k) (by simp; omega) wr (unhide HB0))
        rw [unhide HKD] at HN
        have HSF := hide (fun W => readSuffix_any (r.drop k) W)
        generalize puS b (baseC b) (r.take k) = Z at *
        generalize sufM (r.drop k) = SF at *
        obtain ⟨zn, ze⟩ := Z
        obtain ⟨su, sok⟩ := SF
        simp only at HN HSF
        have hneN := neN
        have hneE := neE
        go_wp2_with fail
        refine (unhide HP).mono ?_
        rintro e W1 ⟨⟨er, rfl, hcase⟩, hb1⟩
        have hv1 := (unhide HV0).below hb1 (unhide HV0).lt
        have HB1 := hide ((unhide HB0).trans (hb1.mono (unhide HB0).size))
        clear q0 q1
        obtain ⟨q0, q1⟩ := hv1.two
        have y0 := hv1.frozen 0
        have y1 := hv1.frozen 1
        have HV1 := hide hv1
        clear hv1 hb1 HP
        simp only at hcase
        rcases hcase with ⟨hz, rfl⟩ | ⟨hz, v, rfl⟩
        · rw [if_neg (by simpa using hz)] at HN
          obtain rfl := unhide HN
          simp only [Vl.v]
          cases hge : decide (9223372036854775808 ≤ zn) <;> cases hb10 : (b != 10) <;> cases su
          all_goals (
            go_wp2_with (go_at_call 191; refine (unhide HSF _).mono ?_; rintro e w' ⟨rfl, hw'⟩; obtain rfl := hw'.symm)
            refine bodyPost_ret (res_vt (f := Tryz.f176) rfl rfl ((unhide HV1).put _ _) rfl) rfl ⟨by first | rfl | (simp [hge, hb10]; done) | (simp_all; done), below_put2 (unhide HB1) (Nat.le_refl _) _ _⟩)
        · rw [if_pos (by simpa using hz)] at HN
          obtain rfl := unhide HN
          simp only [Vl.v]
          go_wp2
          refine bodyPost_ret (res_vt (f := Tryz.f176) rfl rfl ((unhide HV1).put _ _) rfl) rfl ⟨rfl, below_put2 (unhide HB1) (Nat.le_refl _) _ _⟩
  · have h2 := hb16 (by simpa using h16)
    clear hb16 hbi
    rw [h16] at HR
    simp only [if_true] at HR
    obtain rfl := unhide HR
    go_enter Tryz.func176, Tryz.ntmps176
    go_wp2_with (go_at_call 188; refine (unhide HBO _).mono ?_; rintro e w' ⟨rfl, hw'⟩; obtain rfl := hw'.symm)
    simp only [ext_list, List.take_length]
    have hrl2 : (s.drop 2).length ≤ 140737488355328 := by simp; omega
    clear HE HR hrl HBO h2 hs hsz
    generalize s.drop 2 = r at *
    generalize w.alloc (.cells #[.int .u64 0, .bool false] 222) = W0 at *
    have hszr := hszl r
    have hrl' : r.length ≤ 140737488355328 := hrl2
    have HX : Hid (∀ k, k ≤ r.length → (⟨r.toArray⟩ : ByteArray).extract 0 k = ⟨(r.take k).toArray⟩ ∧ (⟨r.toArray⟩ : ByteArray).extract k r.length = ⟨(r.drop k).toArray⟩) := fun k hk => ⟨by rw [ext_list, List.drop_zero], by rw [ext_list, List.take_length]⟩
    go_loopg [5] r.length (fun gk vi wr => ∃ k : Nat, gk = r.length - k ∧ vi = .int .i64 k ∧ k ≤ r.length ∧ wr = W0 ∧ Hid (digN b r = k + digN b (r.drop k)))
    case atStart => exact ⟨0, rfl, rfl, by omega, rfl, by rw [Hid, List.drop_zero]; omega⟩
    case round =>
      obtain ⟨k, rfl, rfl, hk, rfl, HD⟩ := hrel
      obtain ⟨hx1, hx2⟩ := unhide HX k hk
      by_cases hkl : k < r.length
      · have i1 : (k : Int) < (r.length : Int) := by omega
        have hd := unhide HD
        rw [List.drop_eq_getElem_cons hkl, digN] at hd
        have HDG := hide (fun W => isDigitC_any (r[k].toNat : Int) b W)
        generalize hdg : digM (r[k].toNat : Int) b = dg at *
        have HDD := hide hd
        clear hd HD hdg
        cases dg
        · have HKD : Hid (digN b r = k) := by rw [Hid]; have := unhide HDD; simpa using this
          go_wp2_with fail
          refine (unhide HDG _).mono ?_
          rintro e w' ⟨rfl, hw'⟩
          obtain rfl := hw'.symm
          have HP := hide (unhide HPU (r.take k) (by simp; omega) wr (unhide HB0))
          rw [unhide HKD] at HN
          have HSF := hide (fun W => readSuffix_any (r.drop k) W)
          generalize puS b (baseC b) (r.take k) = Z at *
          generalize sufM (r.drop k) = SF at *
          obtain ⟨zn, ze⟩ := Z
          obtain ⟨su, sok⟩ := SF
          simp only at HN HSF
          have hneN := neN
          have hneE := neE
          go_wp2_with fail
          refine (unhide HP).mono ?_
          rintro e W1 ⟨⟨er, rfl, hcase⟩, hb1⟩
          have hv1 := (unhide HV0).below hb1 (unhide HV0).lt
          have HB1 := hide ((unhide HB0).trans (hb1.mono (unhide HB0).size))
          clear q0 q1
          obtain ⟨q0, q1⟩ := hv1.two
          have y0 := hv1.frozen 0
          have y1 := hv1.frozen 1
          have HV1 := hide hv1
          clear hv1 hb1 HP
          simp only at hcase
          rcases hcase with ⟨hz, rfl⟩ | ⟨hz, v, rfl⟩
          · rw [if_neg (by simpa using hz)] at HN
            obtain rfl := unhide HN
            simp only [Vl.v]
            cases hge : decide (9223372036854775808 ≤ zn) <;> cases hb10 : (b != 10) <;> cases su
            all_goals (
              go_wp2_with (go_at_call 191; refine (unhide HSF _).mono ?_; rintro e w' ⟨rfl, hw'⟩; obtain rfl := hw'.symm)
              refine bodyPost_ret (res_vt (f := Tryz.f176) rfl rfl ((unhide HV1).put _ _) rfl) rfl ⟨by first | rfl | (simp [hge, hb10]; done) | (simp_all; done), below_put2 (unhide HB1) (Nat.le_refl _) _ _⟩)
          · rw [if_pos (by simpa using hz)] at HN
            obtain rfl := unhide HN
            simp only [Vl.v]
            go_wp2
            refine bodyPost_ret (res_vt (f := Tryz.f176) rfl rfl ((unhide HV1).put _ _) rfl) rfl ⟨rfl, below_put2 (unhide HB1) (Nat.le_refl _) _ _⟩
        · have HKD : Hid (digN b r = (k + 1) + digN b (r.drop (k + 1))) := by have := unhide HDD; simp at this; rw [Hid]; omega
          go_wp2_with fail
          refine (unhide HDG _).mono ?_
          rintro e w' ⟨rfl, hw'⟩
          obtain rfl := hw'.symm
          go_wp2
          go_roundg (r.length - (k + 1))
          case measure => omega
          case rel => exact ⟨k + 1, rfl, by go_num, by omega, rfl, HKD⟩
      · have i1 : ¬ (k : Int) < (r.length : Int) := by omega
        have HKD : Hid (digN b r = k) := by
          have hd := unhide HD
          rw [List.drop_eq_nil_of_le (by omega), digN] at hd
          rw [Hid]; omega
        clear HD
        have HP := hide (unhide HPU (r.take k) (by simp; omega) wr (unhide HB0))
        rw [unhide HKD] at HN
        have HSF := hide (fun W => readSuffix_any (r.drop k) W)
        generalize puS b (baseC b) (r.take k) = Z at *
        generalize sufM (r.drop k) = SF at *
        obtain ⟨zn, ze⟩ := Z
        obtain ⟨su, sok⟩ := SF
        simp only at HN HSF
        have hneN := neN
        have hneE := neE
        go_wp2_with fail
        refine (unhide HP).mono ?_
        rintro e W1 ⟨⟨er, rfl, hcase⟩, hb1⟩
        have hv1 := (unhide HV0).below hb1 (unhide HV0).lt
        have HB1 := hide ((unhide HB0).trans (hb1.mono (unhide HB0).size))
        clear q0 q1
        obtain ⟨q0, q1⟩ := hv1.two
        have y0 := hv1.frozen 0
        have y1 := hv1.frozen 1
        have HV1 := hide hv1
        clear hv1 hb1 HP
        simp only at hcase
        rcases hcase with ⟨hz, rfl⟩ | ⟨hz, v, rfl⟩
        · rw [if_neg (by simpa using hz)] at HN
          obtain rfl := unhide HN
          simp only [Vl.v]
          cases hge : decide (9223372036854775808 ≤ zn) <;> cases hb10 : (b != 10) <;> cases su
          all_goals (
            go_wp2_with (go_at_call 191; refine (unhide HSF _).mono ?_; rintro e w' ⟨rfl, hw'⟩; obtain rfl := hw'.symm)
            refine bodyPost_ret (res_vt (f := Tryz.f176) rfl rfl ((unhide HV1).put _ _) rfl) rfl ⟨by first | rfl | (simp [hge, hb10]; done) | (simp_all; done), below_put2 (unhide HB1) (Nat.le_refl _) _ _⟩)
        · rw [if_pos (by simpa using hz)] at HN
          obtain rfl := unhide HN
          simp only [Vl.v]
          go_wp2
          refine bodyPost_ret (res_vt (f := Tryz.f176) rfl rfl ((unhide HV1).put _ _) rfl) rfl ⟨rfl, below_put2 (unhide HB1) (Nat.le_refl _) _ _⟩
end Go.Proofs.YtmpkgjonbjpohaaGreatDoor
