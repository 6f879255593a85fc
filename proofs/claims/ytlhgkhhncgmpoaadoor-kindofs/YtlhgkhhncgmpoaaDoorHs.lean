/-
  The document's own count and Of; the walk of KindOfs.
-/
import Derived.Test.YtlhgkhhncgmpoaaDoorHr
import Derived.Test.YtlhgkhhncgmpoaaDoorHd
namespace Go.Proofs.YtlhgkhhncgmpoaaDoor
open Go Go.RowKit
set_option linter.unusedVariables false
set_option linter.unusedSimpArgs false

theorem cnt_take (s : List UInt8) (l : List (List UInt8)) (k : Nat) (h : k < l.length) : cnt s (l.take (k + 1)) = cnt s (l.take k) + if l[k] == s then 1 else 0 := by
  rw [List.take_succ_eq_append_getElem h]
  unfold cnt
  rw [List.countP_append]
  simp [List.countP_cons]
set_option maxRecDepth 100000 in
set_option maxHeartbeats 2000000 in
theorem RCount_any (p : Option Addr) (cap : Nat) (l : List (List UInt8)) (s : List UInt8) (w : World) (hl : l.length ≤ 281474976710656) (hT : StG w.heap.size w (.slice p l.length cap) l) :
    Calls Tryd.prog 15 #[.slice p l.length cap, .string ⟨s.toArray⟩] w fun e w' => e = .returned (.int .i64 (cnt s l)) ∧ w' = w := by
  have HT := veil hT
  clear hT
  go_enter Tryd.func15, Tryd.ntmps15
  go_wp2
  go_loop [5, 6] (fun n i => ∃ k : Nat, k ≤ l.length ∧ i = .int .i64 k ∧ n = .int .i64 (cnt s (l.take k))) (fun _ i => l.length - (intOf i).toNat)
  case atStart => exact ⟨0, Nat.zero_le _, rfl, by simp [cnt]⟩
  case round =>
    obtain ⟨k, hk, rfl, rfl⟩ := hrel
    by_cases hlt : k < l.length
    · obtain ⟨p', cap', hp', hcs⟩ := unveil HT
      obtain ⟨g, o, hpp, hg, a0⟩ := hcs k hlt
      obtain ⟨rfl, rfl⟩ : p = some ⟨g, o, none⟩ ∧ cap = cap' := by
        have e := hp'
        simp at e
        exact ⟨e.1.trans hpp, e.2⟩
      have HC := veil (cnt_take s l k hlt)
      have hle := Nat.le_trans (cnt_le s (l.take k)) (List.length_take_le k l)
      clear hcs hp' hpp
      generalize cnt s (l.take k) = n at *
      cases hq : l[k] == s
      all_goals (
        rw [hq] at HC
        generalize l[k] = X at *
        go_wp2
        go_round
        case rel => exact ⟨k + 1, by omega, by go_num, by rw [unveil HC]; first | rfl | (simp; done) | go_num⟩
        case measure => simp [intOf]; omega)
    · obtain rfl : k = l.length := by omega
      rw [List.take_length]
      go_wp2
      go_ret
      exact ⟨rfl, rfl⟩
set_option maxRecDepth 100000 in
set_option maxHeartbeats 8000000 in
theorem ROf_any (p : Option Addr) (cap : Nat) (l : List (List UInt8)) (w : World) (hl : l.length ≤ 281474976710656) (hT : StG w.heap.size w (.slice p l.length cap) l) :
    Calls Tryd.prog 7 #[.slice p l.length cap] w fun e w' => e = .returned (.tuple #[.int .i64 (ofM l).1, .int .i64 (ofM l).2]) ∧ w' = w := by
  have H0 := veil (RCount_any p cap l wC w hl hT)
  have H1 := veil (RCount_any p cap l wS w hl hT)
  have H2 := veil (RCount_any p cap l wL w hl hT)
  have H3 := veil (RCount_any p cap l wI w hl hT)
  have H4 := veil (RCount_any p cap l wG w hl hT)
  have H5 := veil (RCount_any p cap l wU w hl hT)
  have b0 := cnt_le wC l
  have b1 := cnt_le wS l
  have b2 := cnt_le wL l
  have b3 := cnt_le wI l
  have b4 := cnt_le wG l
  have b5 := cnt_le wU l
  obtain ⟨R, hR⟩ : ∃ R, ofM l = R := ⟨_, rfl⟩
  rw [hR]
  have HR := veil ((of_is l).symm.trans hR)
  clear hR hT
  generalize cnt wC l = c at *
  generalize cnt wS l = s at *
  generalize cnt wL l = t at *
  generalize cnt wI l = i at *
  generalize cnt wG l = g at *
  generalize cnt wU l = u at *
  unfold wC at H0
  unfold wS at H1
  unfold wL at H2
  unfold wI at H3
  unfold wG at H4
  unfold wU at H5
  obtain ⟨n, hn⟩ : ∃ n, l.length = n := ⟨_, rfl⟩
  rw [hn] at H0 H1 H2 H3 H4 H5 HR hl b0 b1 b2 b3 b4 b5 ⊢
  clear hn
  by_cases q0 : n = 0
  · have hRR : R = (0, 80) := by rw [← unveil HR]; unfold rofM; rw [if_pos (by omega)]
    subst hRR
    clear HR
    obtain rfl : c = 0 := by omega
    obtain rfl : s = 0 := by omega
    obtain rfl : t = 0 := by omega
    obtain rfl : i = 0 := by omega
    obtain rfl : g = 0 := by omega
    obtain rfl : u = 0 := by omega
    subst q0
    go_enter Tryd.func7, Tryd.ntmps7
    go_wp2_with (first
      | (go_at_call 15; with_reducible refine (unveil H0).mono ?_; rintro e w' ⟨rfl, hw'⟩; obtain rfl := hw'.symm)
      | (go_at_call 15; with_reducible refine (unveil H1).mono ?_; rintro e w' ⟨rfl, hw'⟩; obtain rfl := hw'.symm)
      | (go_at_call 15; with_reducible refine (unveil H2).mono ?_; rintro e w' ⟨rfl, hw'⟩; obtain rfl := hw'.symm)
      | (go_at_call 15; with_reducible refine (unveil H3).mono ?_; rintro e w' ⟨rfl, hw'⟩; obtain rfl := hw'.symm)
      | (go_at_call 15; with_reducible refine (unveil H4).mono ?_; rintro e w' ⟨rfl, hw'⟩; obtain rfl := hw'.symm)
      | (go_at_call 15; with_reducible refine (unveil H5).mono ?_; rintro e w' ⟨rfl, hw'⟩; obtain rfl := hw'.symm))
    go_ret2
    exact ⟨by simp, rfl⟩
  by_cases q1 : (c : Int) + s + t + i + g + u ≠ n
  · have hRR : R = (0, 80) := by rw [← unveil HR]; unfold rofM; rw [if_pos (by omega)]
    subst hRR
    clear HR
    go_enter Tryd.func7, Tryd.ntmps7
    go_wp2_with (first
      | (go_at_call 15; with_reducible refine (unveil H0).mono ?_; rintro e w' ⟨rfl, hw'⟩; obtain rfl := hw'.symm)
      | (go_at_call 15; with_reducible refine (unveil H1).mono ?_; rintro e w' ⟨rfl, hw'⟩; obtain rfl := hw'.symm)
      | (go_at_call 15; with_reducible refine (unveil H2).mono ?_; rintro e w' ⟨rfl, hw'⟩; obtain rfl := hw'.symm)
      | (go_at_call 15; with_reducible refine (unveil H3).mono ?_; rintro e w' ⟨rfl, hw'⟩; obtain rfl := hw'.symm)
      | (go_at_call 15; with_reducible refine (unveil H4).mono ?_; rintro e w' ⟨rfl, hw'⟩; obtain rfl := hw'.symm)
      | (go_at_call 15; with_reducible refine (unveil H5).mono ?_; rintro e w' ⟨rfl, hw'⟩; obtain rfl := hw'.symm))
    go_ret2
    exact ⟨by simp, rfl⟩
  by_cases q2 : 1 < (g : Int) + u
  · have hRR : R = (0, 80) := by rw [← unveil HR]; unfold rofM; rw [if_pos (by omega)]
    subst hRR
    clear HR
    have q0b : ((n : Int) == 0) = false := by simp; omega
    go_enter Tryd.func7, Tryd.ntmps7
    go_wp2_with (first
      | (go_at_call 15; with_reducible refine (unveil H0).mono ?_; rintro e w' ⟨rfl, hw'⟩; obtain rfl := hw'.symm)
      | (go_at_call 15; with_reducible refine (unveil H1).mono ?_; rintro e w' ⟨rfl, hw'⟩; obtain rfl := hw'.symm)
      | (go_at_call 15; with_reducible refine (unveil H2).mono ?_; rintro e w' ⟨rfl, hw'⟩; obtain rfl := hw'.symm)
      | (go_at_call 15; with_reducible refine (unveil H3).mono ?_; rintro e w' ⟨rfl, hw'⟩; obtain rfl := hw'.symm)
      | (go_at_call 15; with_reducible refine (unveil H4).mono ?_; rintro e w' ⟨rfl, hw'⟩; obtain rfl := hw'.symm)
      | (go_at_call 15; with_reducible refine (unveil H5).mono ?_; rintro e w' ⟨rfl, hw'⟩; obtain rfl := hw'.symm))
    go_ret2
    exact ⟨by simp, rfl⟩
  by_cases q3 : 1 < (i : Int)
  · have hRR : R = (0, 80) := by rw [← unveil HR]; unfold rofM; rw [if_pos (by omega)]
    subst hRR
    clear HR
    have q0b : ((n : Int) == 0) = false := by simp; omega
    go_enter Tryd.func7, Tryd.ntmps7
    go_wp2_with (first
      | (go_at_call 15; with_reducible refine (unveil H0).mono ?_; rintro e w' ⟨rfl, hw'⟩; obtain rfl := hw'.symm)
      | (go_at_call 15; with_reducible refine (unveil H1).mono ?_; rintro e w' ⟨rfl, hw'⟩; obtain rfl := hw'.symm)
      | (go_at_call 15; with_reducible refine (unveil H2).mono ?_; rintro e w' ⟨rfl, hw'⟩; obtain rfl := hw'.symm)
      | (go_at_call 15; with_reducible refine (unveil H3).mono ?_; rintro e w' ⟨rfl, hw'⟩; obtain rfl := hw'.symm)
      | (go_at_call 15; with_reducible refine (unveil H4).mono ?_; rintro e w' ⟨rfl, hw'⟩; obtain rfl := hw'.symm)
      | (go_at_call 15; with_reducible refine (unveil H5).mono ?_; rintro e w' ⟨rfl, hw'⟩; obtain rfl := hw'.symm))
    go_ret2
    exact ⟨by simp, rfl⟩
  by_cases q4 : 1 < (c : Int)
  · have hRR : R = (0, 80) := by rw [← unveil HR]; unfold rofM; rw [if_pos (by omega)]
    subst hRR
    clear HR
    have q0b : ((n : Int) == 0) = false := by simp; omega
    go_enter Tryd.func7, Tryd.ntmps7
    go_wp2_with (first
      | (go_at_call 15; with_reducible refine (unveil H0).mono ?_; rintro e w' ⟨rfl, hw'⟩; obtain rfl := hw'.symm)
      | (go_at_call 15; with_reducible refine (unveil H1).mono ?_; rintro e w' ⟨rfl, hw'⟩; obtain rfl := hw'.symm)
      | (go_at_call 15; with_reducible refine (unveil H2).mono ?_; rintro e w' ⟨rfl, hw'⟩; obtain rfl := hw'.symm)
      | (go_at_call 15; with_reducible refine (unveil H3).mono ?_; rintro e w' ⟨rfl, hw'⟩; obtain rfl := hw'.symm)
      | (go_at_call 15; with_reducible refine (unveil H4).mono ?_; rintro e w' ⟨rfl, hw'⟩; obtain rfl := hw'.symm)
      | (go_at_call 15; with_reducible refine (unveil H5).mono ?_; rintro e w' ⟨rfl, hw'⟩; obtain rfl := hw'.symm))
    go_ret2
    exact ⟨by simp, rfl⟩
  by_cases q5 : 1 < (s : Int)
  · have hRR : R = (0, 80) := by rw [← unveil HR]; unfold rofM; rw [if_pos (by omega)]
    subst hRR
    clear HR
    have q0b : ((n : Int) == 0) = false := by simp; omega
    go_enter Tryd.func7, Tryd.ntmps7
    go_wp2_with (first
      | (go_at_call 15; with_reducible refine (unveil H0).mono ?_; rintro e w' ⟨rfl, hw'⟩; obtain rfl := hw'.symm)
      | (go_at_call 15; with_reducible refine (unveil H1).mono ?_; rintro e w' ⟨rfl, hw'⟩; obtain rfl := hw'.symm)
      | (go_at_call 15; with_reducible refine (unveil H2).mono ?_; rintro e w' ⟨rfl, hw'⟩; obtain rfl := hw'.symm)
      | (go_at_call 15; with_reducible refine (unveil H3).mono ?_; rintro e w' ⟨rfl, hw'⟩; obtain rfl := hw'.symm)
      | (go_at_call 15; with_reducible refine (unveil H4).mono ?_; rintro e w' ⟨rfl, hw'⟩; obtain rfl := hw'.symm)
      | (go_at_call 15; with_reducible refine (unveil H5).mono ?_; rintro e w' ⟨rfl, hw'⟩; obtain rfl := hw'.symm))
    go_ret2
    exact ⟨by simp, rfl⟩
  by_cases q6 : 2 < (t : Int)
  · have hRR : R = (0, 80) := by rw [← unveil HR]; unfold rofM; rw [if_pos (by omega)]
    subst hRR
    clear HR
    have q0b : ((n : Int) == 0) = false := by simp; omega
    go_enter Tryd.func7, Tryd.ntmps7
    go_wp2_with (first
      | (go_at_call 15; with_reducible refine (unveil H0).mono ?_; rintro e w' ⟨rfl, hw'⟩; obtain rfl := hw'.symm)
      | (go_at_call 15; with_reducible refine (unveil H1).mono ?_; rintro e w' ⟨rfl, hw'⟩; obtain rfl := hw'.symm)
      | (go_at_call 15; with_reducible refine (unveil H2).mono ?_; rintro e w' ⟨rfl, hw'⟩; obtain rfl := hw'.symm)
      | (go_at_call 15; with_reducible refine (unveil H3).mono ?_; rintro e w' ⟨rfl, hw'⟩; obtain rfl := hw'.symm)
      | (go_at_call 15; with_reducible refine (unveil H4).mono ?_; rintro e w' ⟨rfl, hw'⟩; obtain rfl := hw'.symm)
      | (go_at_call 15; with_reducible refine (unveil H5).mono ?_; rintro e w' ⟨rfl, hw'⟩; obtain rfl := hw'.symm))
    go_ret2
    exact ⟨by simp, rfl⟩
  by_cases k1 : (c : Int) = 1
  · by_cases k2 : 0 < (s : Int) + t + i
    · have hRR : R = (0, 80) := by rw [← unveil HR]; unfold rofM; rw [if_neg (by omega), if_pos (by omega)]
      subst hRR
      clear HR
      obtain rfl : c = 1 := by omega
      have q1b : (((1 : Int) + s + t + i + g + u) != (n : Int)) = false := by simp; omega
      have q0b : ((n : Int) == 0) = false := by simp; omega
      clear q1
      go_enter Tryd.func7, Tryd.ntmps7
      go_wp2_with (first
        | (go_at_call 15; with_reducible refine (unveil H0).mono ?_; rintro e w' ⟨rfl, hw'⟩; obtain rfl := hw'.symm)
        | (go_at_call 15; with_reducible refine (unveil H1).mono ?_; rintro e w' ⟨rfl, hw'⟩; obtain rfl := hw'.symm)
        | (go_at_call 15; with_reducible refine (unveil H2).mono ?_; rintro e w' ⟨rfl, hw'⟩; obtain rfl := hw'.symm)
        | (go_at_call 15; with_reducible refine (unveil H3).mono ?_; rintro e w' ⟨rfl, hw'⟩; obtain rfl := hw'.symm)
        | (go_at_call 15; with_reducible refine (unveil H4).mono ?_; rintro e w' ⟨rfl, hw'⟩; obtain rfl := hw'.symm)
        | (go_at_call 15; with_reducible refine (unveil H5).mono ?_; rintro e w' ⟨rfl, hw'⟩; obtain rfl := hw'.symm))
      go_ret2
      exact ⟨by simp, rfl⟩
    · have hRR : R = (1 + (u : Int), 0) := by rw [← unveil HR]; unfold rofM; rw [if_neg (by omega), if_neg (by omega)]; rw [if_neg (by omega), if_neg (by omega), if_pos (by omega)]
      subst hRR
      clear HR
      obtain rfl : c = 1 := by omega
      obtain rfl : s = 0 := by omega
      obtain rfl : t = 0 := by omega
      obtain rfl : i = 0 := by omega
      have q1b : (((1 : Int) + g + u) != (n : Int)) = false := by simp; omega
      have q0b : ((n : Int) == 0) = false := by simp; omega
      clear q1
      go_enter Tryd.func7, Tryd.ntmps7
      go_wp2_with (first
        | (go_at_call 15; with_reducible refine (unveil H0).mono ?_; rintro e w' ⟨rfl, hw'⟩; obtain rfl := hw'.symm)
        | (go_at_call 15; with_reducible refine (unveil H1).mono ?_; rintro e w' ⟨rfl, hw'⟩; obtain rfl := hw'.symm)
        | (go_at_call 15; with_reducible refine (unveil H2).mono ?_; rintro e w' ⟨rfl, hw'⟩; obtain rfl := hw'.symm)
        | (go_at_call 15; with_reducible refine (unveil H3).mono ?_; rintro e w' ⟨rfl, hw'⟩; obtain rfl := hw'.symm)
        | (go_at_call 15; with_reducible refine (unveil H4).mono ?_; rintro e w' ⟨rfl, hw'⟩; obtain rfl := hw'.symm)
        | (go_at_call 15; with_reducible refine (unveil H5).mono ?_; rintro e w' ⟨rfl, hw'⟩; obtain rfl := hw'.symm))
      go_ret2
      exact ⟨by simp, rfl⟩
  · by_cases k3 : (s : Int) = 1
    · by_cases k4 : 0 < (t : Int)
      · have hRR : R = (0, 80) := by rw [← unveil HR]; unfold rofM; rw [if_neg (by omega), if_pos (by omega)]
        subst hRR
        clear HR
        obtain rfl : c = 0 := by omega
        obtain rfl : s = 1 := by omega
        have q1b : (((1 : Int) + t + i + g + u) != (n : Int)) = false := by simp; omega
        have q0b : ((n : Int) == 0) = false := by simp; omega
        clear q1
        go_enter Tryd.func7, Tryd.ntmps7
        go_wp2_with (first
          | (go_at_call 15; with_reducible refine (unveil H0).mono ?_; rintro e w' ⟨rfl, hw'⟩; obtain rfl := hw'.symm)
          | (go_at_call 15; with_reducible refine (unveil H1).mono ?_; rintro e w' ⟨rfl, hw'⟩; obtain rfl := hw'.symm)
          | (go_at_call 15; with_reducible refine (unveil H2).mono ?_; rintro e w' ⟨rfl, hw'⟩; obtain rfl := hw'.symm)
          | (go_at_call 15; with_reducible refine (unveil H3).mono ?_; rintro e w' ⟨rfl, hw'⟩; obtain rfl := hw'.symm)
          | (go_at_call 15; with_reducible refine (unveil H4).mono ?_; rintro e w' ⟨rfl, hw'⟩; obtain rfl := hw'.symm)
          | (go_at_call 15; with_reducible refine (unveil H5).mono ?_; rintro e w' ⟨rfl, hw'⟩; obtain rfl := hw'.symm))
        go_ret2
        exact ⟨by simp, rfl⟩
      · have hRR : R = (3 + (u : Int), 0) := by rw [← unveil HR]; unfold rofM; rw [if_neg (by omega), if_neg (by omega)]; rw [if_neg (by omega), if_pos (by omega)]
        subst hRR
        clear HR
        obtain rfl : c = 0 := by omega
        obtain rfl : s = 1 := by omega
        obtain rfl : t = 0 := by omega
        have q1b : (((1 : Int) + i + g + u) != (n : Int)) = false := by simp; omega
        have q0b : ((n : Int) == 0) = false := by simp; omega
        clear q1
        go_enter Tryd.func7, Tryd.ntmps7
        go_wp2_with (first
          | (go_at_call 15; with_reducible refine (unveil H0).mono ?_; rintro e w' ⟨rfl, hw'⟩; obtain rfl := hw'.symm)
          | (go_at_call 15; with_reducible refine (unveil H1).mono ?_; rintro e w' ⟨rfl, hw'⟩; obtain rfl := hw'.symm)
          | (go_at_call 15; with_reducible refine (unveil H2).mono ?_; rintro e w' ⟨rfl, hw'⟩; obtain rfl := hw'.symm)
          | (go_at_call 15; with_reducible refine (unveil H3).mono ?_; rintro e w' ⟨rfl, hw'⟩; obtain rfl := hw'.symm)
          | (go_at_call 15; with_reducible refine (unveil H4).mono ?_; rintro e w' ⟨rfl, hw'⟩; obtain rfl := hw'.symm)
          | (go_at_call 15; with_reducible refine (unveil H5).mono ?_; rintro e w' ⟨rfl, hw'⟩; obtain rfl := hw'.symm))
        go_ret2
        exact ⟨by simp, rfl⟩
    · by_cases k5 : 0 < (t : Int)
      · have hRR : R = (7 + (u : Int), 0) := by rw [← unveil HR]; unfold rofM; rw [if_neg (by omega), if_neg (by omega)]; rw [if_pos (by omega)]
        subst hRR
        clear HR
        obtain rfl : c = 0 := by omega
        obtain rfl : s = 0 := by omega
        have q1b : (((t : Int) + i + g + u) != (n : Int)) = false := by simp; omega
        have q0b : ((n : Int) == 0) = false := by simp; omega
        clear q1
        go_enter Tryd.func7, Tryd.ntmps7
        go_wp2_with (first
          | (go_at_call 15; with_reducible refine (unveil H0).mono ?_; rintro e w' ⟨rfl, hw'⟩; obtain rfl := hw'.symm)
          | (go_at_call 15; with_reducible refine (unveil H1).mono ?_; rintro e w' ⟨rfl, hw'⟩; obtain rfl := hw'.symm)
          | (go_at_call 15; with_reducible refine (unveil H2).mono ?_; rintro e w' ⟨rfl, hw'⟩; obtain rfl := hw'.symm)
          | (go_at_call 15; with_reducible refine (unveil H3).mono ?_; rintro e w' ⟨rfl, hw'⟩; obtain rfl := hw'.symm)
          | (go_at_call 15; with_reducible refine (unveil H4).mono ?_; rintro e w' ⟨rfl, hw'⟩; obtain rfl := hw'.symm)
          | (go_at_call 15; with_reducible refine (unveil H5).mono ?_; rintro e w' ⟨rfl, hw'⟩; obtain rfl := hw'.symm))
        go_ret2
        exact ⟨by simp, rfl⟩
      · have hRR : R = (5 + (u : Int), 0) := by rw [← unveil HR]; unfold rofM; rw [if_neg (by omega), if_neg (by omega)]; rw [if_neg (by omega), if_neg (by omega), if_neg (by omega)]
        subst hRR
        clear HR
        obtain rfl : c = 0 := by omega
        obtain rfl : s = 0 := by omega
        obtain rfl : t = 0 := by omega
        have q1b : (((i : Int) + g + u) != (n : Int)) = false := by simp; omega
        have q0b : ((n : Int) == 0) = false := by simp; omega
        clear q1
        go_enter Tryd.func7, Tryd.ntmps7
        go_wp2_with (first
          | (go_at_call 15; with_reducible refine (unveil H0).mono ?_; rintro e w' ⟨rfl, hw'⟩; obtain rfl := hw'.symm)
          | (go_at_call 15; with_reducible refine (unveil H1).mono ?_; rintro e w' ⟨rfl, hw'⟩; obtain rfl := hw'.symm)
          | (go_at_call 15; with_reducible refine (unveil H2).mono ?_; rintro e w' ⟨rfl, hw'⟩; obtain rfl := hw'.symm)
          | (go_at_call 15; with_reducible refine (unveil H3).mono ?_; rintro e w' ⟨rfl, hw'⟩; obtain rfl := hw'.symm)
          | (go_at_call 15; with_reducible refine (unveil H4).mono ?_; rintro e w' ⟨rfl, hw'⟩; obtain rfl := hw'.symm)
          | (go_at_call 15; with_reducible refine (unveil H5).mono ?_; rintro e w' ⟨rfl, hw'⟩; obtain rfl := hw'.symm))
        go_ret2
        exact ⟨by simp, rfl⟩
end Go.Proofs.YtlhgkhhncgmpoaaDoor
