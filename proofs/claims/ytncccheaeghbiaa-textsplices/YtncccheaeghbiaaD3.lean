/-
  burinlaw01.TextSplices answers true for every string and every number, and leaves its arguments as they were.
-/
import Derived.Test.YtncccheaeghbiaaC1
import Derived.Test.YtncccheaeghbiaaPlain3
import Derived.Test.YtncccheaeghbiaaNx
import Derived.Test.YtncccheaeghbiaaRows
import Derived.ProofKit
import Derived.Deep.CutRange
import Derived.Deep.RegionWith
import Derived.Deep.DeepCutAuto
import Derived.OpenShut
namespace Go.Proofs.Ytncccheaeghbiaa.textSplices
open Go.ChangeShapes Go.WideShapes Go.ChangeAt Go.RowKit
open Go.ChangeMaps (open_string shut_string)
set_option linter.unusedVariables false

theorem own : ownKnob Try.prog.godebug = none := by kernel_rfl

theorem row_form {W : World} {base n size : Nat} {e : TypeId} {v : Value} {xs : List Value} (h : W.ownsRow base e size v n xs) : ∃ p cap, v = .slice p n cap := by
  rcases h.2 with ⟨rfl, h0⟩ | ⟨g, cap, cur, rfl, _⟩
  · exact ⟨_, _, by rw [h0]⟩
  · exact ⟨_, _, rfl⟩
theorem row_some {W : World} {base n size : Nat} {e : TypeId} {v : Value} {xs : List Value} (h : W.ownsRow base e size v n xs) (hn : 0 < n) : ∃ g cap, v = .slice (some ⟨g, 0, none⟩) n cap ∧ n ≤ cap ∧ cap ≤ maxLen := by
  rcases h.2 with ⟨rfl, h0⟩ | ⟨g, cap, cur, rfl, _, _, h1, h2, _⟩
  · omega
  · exact ⟨_, _, rfl, h1, h2⟩
theorem take_last (s : ByteArray) (n : Nat) (h0 : 0 < n) (hn : n ≤ s.size) : (s.data.toList.take n).getLast? = some (s[n - 1]'(by omega)) := by
  have hl : (s.data.toList.take n).length = n := by simp; omega
  rw [List.getLast?_eq_getElem?, hl, List.getElem?_take, if_pos (by omega), List.getElem?_eq_getElem (by simp; omega)]
  rfl

set_option maxRecDepth 100000 in
set_option maxHeartbeats 20000000 in
theorem walk_main (s : ByteArray) (n : Nat) (w : World) (hs : s.size ≤ 60000) (hn : n < s.size)
    (hp : Hid (Tx.Rel (Tx.lines s.data.toList) (Tx.lines (s.data.toList.take n ++ [92, 10] ++ s.data.toList.drop n))))
    (hcase : ¬ 0 < n ∨ (0 < n ∧ ∃ h : n - 1 < s.size, (((s[n - 1]).toNat : Int) == 13) = false ∧ ((((s[n - 1]).toNat : Int) == 92) = false ∨ (((s[n]).toNat : Int) == 10) = false ∧ (((s[n]).toNat : Int) == 13) = false)))
    : Calls Try.prog 7 #[.string s, .int .i64 (n : Int)] w fun e w' => e = .returned (.bool true) ∧ Below w.heap.size w w' := by
  have d1 : decide ((60000 : Int) < (s.size : Int)) = false := by simp; omega
  have d2 : decide ((n : Int) < 0) = false := by simp
  have d3 : decide (s.size < n) = false := by simp; omega
  have d5 : ((n : Int) == (s.size : Int)) = false := by rw [beq_eq_false_iff_ne]; omega
  have hb10 : (((s[n]).toNat : Int) == 10) = true ∨ (((s[n]).toNat : Int) == 10) = false := by cases (((s[n]).toNat : Int) == 10) <;> simp
  have hb13 : (((s[n]).toNat : Int) == 13) = true ∨ (((s[n]).toNat : Int) == 13) = false := by cases (((s[n]).toNat : Int) == 13) <;> simp
  have zC : ((s.extract 0 n ++ (⟨#[92, 10]⟩ : ByteArray)) ++ s.extract n s.size).size ≤ 65536 := by
    rw [ByteArray.size_append, ByteArray.size_append, ByteArray.size_extract, ByteArray.size_extract]
    show _ + 2 + _ ≤ _
    omega
  have dC : ((s.extract 0 n ++ (⟨#[92, 10]⟩ : ByteArray)) ++ s.extract n s.size).data.toList = s.data.toList.take n ++ [92, 10] ++ s.data.toList.drop n := by
    rw [ByteArray.data_append, Array.toList_append, ByteArray.data_append, Array.toList_append, drop_data, ByteArray.data_extract, Array.toList_extract]
    simp [List.extract]
  rw [← dC] at hp
  have q1 := lines_short s.data.toList
  have hnum : Hid (∀ p ∈ Tx.lines s.data.toList, p.1 ≤ s.data.toList.length) := Tx.lines_num s.data.toList
  have lB : s.data.toList.length = s.size := by simp
  rw [lB] at q1 hnum
  clear dC lB
  generalize hC : ((s.extract 0 n ++ (⟨#[92, 10]⟩ : ByteArray)) ++ s.extract n s.size) = C at *
  have HC := hide hC
  clear hC
  have nI : (n : Int) ≤ (s.size : Int) := by omega
  have hall : (¬ 0 < n ∧ (((s[n]).toNat : Int) == 10) = true) ∨ (¬ 0 < n ∧ (((s[n]).toNat : Int) == 10) = false ∧ (((s[n]).toNat : Int) == 13) = true) ∨ (¬ 0 < n ∧ (((s[n]).toNat : Int) == 10) = false ∧ (((s[n]).toNat : Int) == 13) = false) ∨
      (0 < n ∧ ∃ h : n - 1 < s.size, (((s[n - 1]).toNat : Int) == 13) = false ∧ (((s[n - 1]).toNat : Int) == 92) = false ∧ (((s[n]).toNat : Int) == 10) = true) ∨ (0 < n ∧ ∃ h : n - 1 < s.size, (((s[n - 1]).toNat : Int) == 13) = false ∧ (((s[n - 1]).toNat : Int) == 92) = false ∧ (((s[n]).toNat : Int) == 10) = false ∧ (((s[n]).toNat : Int) == 13) = true) ∨
      (0 < n ∧ ∃ h : n - 1 < s.size, (((s[n - 1]).toNat : Int) == 13) = false ∧ (((s[n]).toNat : Int) == 10) = false ∧ (((s[n]).toNat : Int) == 13) = false) := by
    rcases hcase with h | ⟨h1, h2, h3, h4 | ⟨h4, h5⟩⟩
    · rcases hb10 with t | t
      · exact .inl ⟨h, t⟩
      · rcases hb13 with u | u
        · exact .inr (.inl ⟨h, t, u⟩)
        · exact .inr (.inr (.inl ⟨h, t, u⟩))
    · rcases hb10 with t | t
      · exact .inr (.inr (.inr (.inl ⟨h1, h2, h3, h4, t⟩)))
      · rcases hb13 with u | u
        · exact .inr (.inr (.inr (.inr (.inl ⟨h1, h2, h3, h4, t, u⟩))))
        · exact .inr (.inr (.inr (.inr (.inr ⟨h1, h2, h3, t, u⟩))))
    · exact .inr (.inr (.inr (.inr (.inr ⟨h1, h2, h3, h4, h5⟩))))
  clear hcase hb10 hb13
  go_enter Try.func7, Try.ntmps7
  go_wp2_with fail
  refine (shown_any _).mono ?_
  rintro e W1 ⟨rfl, hb1⟩
  go_upto_region 2 with fail
  go_cut [64] from 12 to 64 (fun c wx => c = .bool false ∧ wx = W1)
  case first =>
    rcases hall with ⟨hn0, t10⟩ | ⟨hn0, t10, t13⟩ | ⟨hn0, t10, t13⟩ | ⟨hn0, hn1, g13, g92, t10⟩ | ⟨hn0, hn1, g13, g92, t10, t13⟩ | ⟨hn0, hn1, g13, t10, t13⟩
    all_goals
      go_wp2_with fail
      go_meet
      case rel => exact ⟨rfl, rfl⟩
  case rest =>
    obtain ⟨rfl, rfl⟩ := hcut
    clear hall
    go_wp2_with fail
    refine (Lines_any s _ (by omega)).mono ?_
    rintro e W2 ⟨v1, rfl, r1, hb2⟩
    go_wp2
    have cc1 : ¬ 9223372036854775807 < min n s.size + 2 := by omega
    have cc2 : ¬ 9223372036854775807 < min n s.size + 2 + (s.size - n) := by omega
    have hmix : Try.prog.follows .mixedOrders = true := by kernel_rfl
    go_region_with (go_at_call 10; rw [unhide HC]; refine (Lines_any C _ zC).mono ?_; rintro e W3 ⟨v2, rfl, r2, hb3⟩)
    clear cc1 cc2
    have y1 := hb1.size
    have y2 := hb2.size
    have y3 : W2.heap.size ≤ W3.heap.size := hb3.size
    have b23 : Below W2.heap.size W2 W3 := ⟨hb3.os, hb3.tape, hb3.output, hb3.size, hb3.block⟩
    have r1' := ownsRow_below r1 b23
    have bw3 : Below w.heap.size w W3 := hb1.trans ((hb2.mono y1).trans (b23.mono (by omega)))
    clear r1 hb1 hb2 hb3 b23
    have hrl := Tx.Rel.length (unhide hp)
    generalize Tx.lines s.data.toList = LA at *
    generalize Tx.lines C.data.toList = LC at *
    obtain ⟨pa, ca, rfl⟩ := row_form r1'
    obtain ⟨pc, cc, rfl⟩ := row_form r2
    have hnq : ((LA.length : Int) != (LC.length : Int)) = false := by rw [hrl]; simp
    have HRL := hide hrl
    have D1 := hide (Rd.of r1')
    have D2 := hide (Rd.of r2)
    clear hrl r1' r2
    go_wp2
    go_loopw [10] (fun i wr => ∃ k m : Nat, i = .int .i64 k ∧ k ≤ LA.length ∧ wr = W3.drewN m) (fun i wr => LA.length - (intOf i).toNat)
    case atStart => exact ⟨0, 0, rfl, Nat.zero_le _, rfl⟩
    case round =>
      obtain ⟨k, m, rfl, hk, rfl⟩ := hrel
      by_cases hlt : k < LA.length
      · have hkc : k < LC.length := by rw [← unhide HRL]; exact hlt
        obtain ⟨pa', ca', e1, hc1⟩ := unhide D1
        obtain ⟨rfl, -, rfl⟩ : pa = pa' ∧ LA.length = LA.length ∧ ca = ca' := by simpa using e1
        obtain ⟨ga, rfl, x1, x2⟩ := hc1 k hlt
        obtain ⟨pc', cc', e2, hc2⟩ := unhide D2
        obtain ⟨rfl, -, rfl⟩ : pc = pc' ∧ LC.length = LC.length ∧ cc = cc' := by simpa using e2
        obtain ⟨gc, rfl, z1, z2⟩ := hc2 k hkc
        obtain ⟨hg1, hg2⟩ := Tx.Rel.get (unhide hp) k hlt hkc
        rw [← hg1] at z2
        have hx1 : LA[k].1 ≤ 60000 := by
          have := unhide hnum LA[k] (List.getElem_mem hlt)
          omega
        generalize LA[k].1 = xn at *
        generalize LA[k].2 = xs at *
        generalize LC[k].1 = yn at *
        clear hc1 hc2 e1 e2 hg1
        have i1 : (k : Int) < (LA.length : Int) := by omega
        have i2 : (k : Int) < (LC.length : Int) := by omega
        rcases hg2 with rfl | hg2
        · go_wp2
          refine wp_region_still_plain 37 (by kernel_rfl) (by kernel_rfl) ?_
          simp only [List.take_succ_cons, List.take_zero, List.drop_succ_cons, List.drop_zero]
          refine still_first (fun K hK => ?_)
          iterate 37 (refine still_next hK (fun K1 hK1 => ?_); clear hK K; revert K1 hK1; intro K hK; go_simp)
          refine still_last hK ?_
          clear hK K
          go_wp2
          refine ⟨⟨k + 1, m + 1, by go_num, by omega, rfl⟩, by simp [intOf]; omega⟩
        · have hne : ((yn : Int) != (xn : Int)) = true := by rw [bne_iff_ne]; omega
          have hne2 : ((yn : Int) != (xn : Int) + 1) = false := by rw [hg2]; simp
          have HG := hide hg2
          clear hg2
          go_wp2
          refine wp_region_still_plain 37 (by kernel_rfl) (by kernel_rfl) ?_
          simp only [List.take_succ_cons, List.take_zero, List.drop_succ_cons, List.drop_zero]
          refine still_first (fun K hK => ?_)
          iterate 37 (refine still_next hK (fun K1 hK1 => ?_); clear hK K; revert K1 hK1; intro K hK; go_simp)
          refine still_last hK ?_
          clear hK K
          go_wp2
          refine ⟨⟨k + 1, m + 1, by go_num, by omega, rfl⟩, by simp [intOf]; omega⟩
      · go_wp2
        go_ret
        exact ⟨rfl, below_drewN bw3 _⟩
end Go.Proofs.Ytncccheaeghbiaa.textSplices
