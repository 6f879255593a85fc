/-
  text.lineEnds: the line ends of every string, one by one, for whatever loop body.
-/
import Derived.Test.YtaoekfokpbebfaaDoorTc
import Derived.Test.YtaoekfokpbebfaaDoorSeq
import Derived.RangeFuncNested
import Derived.RangeFuncBound
import Derived.RangeFuncCalls
import Derived.RangeFuncLeaves
import Derived.Shelf.Abstract
import Derived.Shelf.RegionOpen
import Derived.OwnWalkIn
import Derived.TacticsInMore
import Derived.LoopNIn
import Derived.LoopIn
namespace Go.Proofs.YtaoekfokpbebfaaDoor.Sx
open Go Go.RowKit Go.Shelf
attribute [local go_sem] Oper.semAt_some
set_option linter.unusedVariables false

def encE (x : Nat × Nat) : Array Value := #[.int .i64 (x.1 : Int), .int .i64 (x.2 : Int)]
def keepsB (b : Nat) (W W' : World) : Prop := W'.heap[b]? = W.heap[b]?

theorem drop_data (s : ByteArray) (k : Nat) : (s.extract k s.size).data.toList = s.data.toList.drop k := by
  rw [ByteArray.data_extract, Array.toList_extract]; simp only [List.extract]; exact List.take_of_length_le (by simp)

set_option maxHeartbeats 1000000 in
theorem lineEnds1_in (n : Nat) (h1 : 1 ≤ n) (l Bd : Nat) (s : ByteArray) (hs : s.size ≤ maxLen) (J Jx : List (Nat × Nat) → World → Prop) (B0 : Nat)
    (hY : ∀ pre x W1, J pre W1 → B0 ≤ W1.heap.size → noRow 5 B0 0 W1 → pre ++ [x] <+: Tx.endsAt s.data.toList 0 → YieldAt Fence.wide (n - 1) Tryd.prog l (encE x) W1 fun e W' =>
      (e = .returned (.bool true) ∧ J (pre ++ [x]) W' ∧ KeepsO B0 0 W1 W' ∧ keepsB Bd W1 W') ∨ (e = .returned (.bool false) ∧ Jx (pre ++ [x]) W' ∧ KeepsO B0 0 W1 W'))
    (W : World) (hW : B0 ≤ W.heap.size) (hBd : Boxed W Bd 9 (.string s)) (h0 : J [] W) :
    CallsIn Fence.wide n Tryd.prog 49 #[.func (.yield l) #[] #[], .pointer (some ⟨Bd, 0, none⟩)] W fun e W' => (∃ v, e = .returned v) ∧
      (J (Tx.endsAt s.data.toList 0) W' ∨ (∃ pre, pre <+: Tx.endsAt s.data.toList 0 ∧ Jx pre W')) := by
  have hs' : s.size ≤ 2 ^ 63 - 1 := hs
  have hlen : s.data.toList.length = s.size := by simp
  refine callsIn_of_wp Tryd.func49 rfl trivial ?_ rfl
  simp only [Tryd.ntmps49, List.size_toArray, List.length_cons, List.length_nil, Nat.reduceAdd, Nat.reduceSub, Array.replicate_succ, Array.replicate_zero, List.push_toArray, List.append_toArray, List.nil_append, List.cons_append]
  gi_wp2
  gi_loopw [3] (fun i wr => ∃ (k : Nat) (pre : List (Nat × Nat)), i = .int .i64 k ∧ k ≤ s.size ∧ Hid (pre ++ Tx.endsAt s.data.toList k = Tx.endsAt s.data.toList 0) ∧ J pre wr ∧ B0 ≤ wr.heap.size ∧ Boxed wr Bd 9 (.string s))
    (fun i wr => s.size - (intOf i).toNat)
  case atStart => exact ⟨0, [], rfl, Nat.zero_le _, rfl, h0, hW, hBd⟩
  case round =>
    obtain ⟨k, pre, rfl, hk, hpre, hJs, hB, hb⟩ := hrel
    have hc := hb.cell
    by_cases hlt : k < s.size
    · have hle := lineEnd_any (s.extract k s.size) wr (Nat.le_trans (by simp) hs)
      rw [drop_data] at hle
      have hll := Tx.ler_len (s.data.toList.drop k)
      rw [List.length_drop, hlen] at hll
      have h2 := Tx.ler_le (s.data.toList.drop k)
      have hlt' : k < s.data.toList.length := by omega
      have e0 := Tx.endsAt_no s.data.toList hlt'
      have e1 := Tx.endsAt_yes s.data.toList hlt'
      generalize Tx.ler (s.data.toList.drop k) = m at *
      have Hle := hide hle
      clear hle hlen
      obtain rfl | rfl | rfl : m = 0 ∨ m = 1 ∨ m = 2 := by omega
      · have E0 : Hid (Tx.endsAt s.data.toList k = Tx.endsAt s.data.toList (k + 1)) := e0 rfl
        clear e0 e1
        gi_wp2_with (refine ⟨trivial, ?_⟩; gi_at_call 50; refine (callsIn_wide.2 (unhide Hle)).mono ?_; rintro e w' ⟨rfl, rfl⟩)
        refine ⟨fun _ h => (by cases h), ?_⟩
        gi_wp2
        go_roundw
        case rel => exact ⟨k + 1, pre, by go_num, by omega, by rw [Hid, ← unhide E0]; exact hpre, hJs, hB, hb⟩
        case measure => simp [intOf]; omega
      · have E1 : Hid (Tx.endsAt s.data.toList k = (k, k + 1) :: Tx.endsAt s.data.toList (k + 1)) := e1 (by decide)
        clear e0 e1
        have hx : pre ++ [(k, k + 1)] ++ Tx.endsAt s.data.toList (k + 1) = Tx.endsAt s.data.toList 0 := by
          rw [← unhide hpre, unhide E1]; simp
        obtain ⟨fn, tmps, assign, body, hy, hR⟩ := hY pre (k, k + 1) wr hJs hB (fun j _ _ h1 h2 => by omega) ⟨_, hx⟩
        have HX := hide hx
        clear hx
        simp only [encE, Int.natCast_add, Int.cast_ofNat_Int] at hy
        gi_wp2_with (refine ⟨trivial, ?_⟩; gi_at_call 50; refine (callsIn_wide.2 (unhide Hle)).mono ?_; rintro e w' ⟨rfl, rfl⟩)
        refine hR.mono ?_
        rintro e W3 (⟨rfl, hJ3, hk3, hb3⟩ | ⟨rfl, hJx3, hk3⟩)
        · gi_wp2
          go_roundw
          case rel => exact ⟨k + 1, pre ++ [(k, k + 1)], by go_num, by omega, HX, hJ3, Nat.le_trans hB hk3.size, by unfold Boxed; rw [hb3]; exact hb⟩
          case measure => simp [intOf]; omega
        · gi_wp2
          refine bodyPost_ret (results_none rfl _ _ _) rfl ?_
          exact ⟨⟨_, rfl⟩, .inr ⟨pre ++ [(k, k + 1)], ⟨_, HX⟩, hJx3⟩⟩
      · have E1 : Hid (Tx.endsAt s.data.toList k = (k, k + 2) :: Tx.endsAt s.data.toList (k + 2)) := e1 (by decide)
        clear e0 e1
        have hx : pre ++ [(k, k + 2)] ++ Tx.endsAt s.data.toList (k + 2) = Tx.endsAt s.data.toList 0 := by
          rw [← unhide hpre, unhide E1]; simp
        obtain ⟨fn, tmps, assign, body, hy, hR⟩ := hY pre (k, k + 2) wr hJs hB (fun j _ _ h1 h2 => by omega) ⟨_, hx⟩
        have HX := hide hx
        clear hx
        simp only [encE, Int.natCast_add, Int.cast_ofNat_Int] at hy
        gi_wp2_with (refine ⟨trivial, ?_⟩; gi_at_call 50; refine (callsIn_wide.2 (unhide Hle)).mono ?_; rintro e w' ⟨rfl, rfl⟩)
        refine hR.mono ?_
        rintro e W3 (⟨rfl, hJ3, hk3, hb3⟩ | ⟨rfl, hJx3, hk3⟩)
        · gi_wp2
          go_roundw
          case rel => exact ⟨k + 2, pre ++ [(k, k + 2)], by go_num, by omega, HX, hJ3, Nat.le_trans hB hk3.size, by unfold Boxed; rw [hb3]; exact hb⟩
          case measure => simp [intOf]; omega
        · gi_wp2
          refine bodyPost_ret (results_none rfl _ _ _) rfl ?_
          exact ⟨⟨_, rfl⟩, .inr ⟨pre ++ [(k, k + 2)], ⟨_, HX⟩, hJx3⟩⟩
    · gi_wp2
      go_end0
      have he : Tx.endsAt s.data.toList k = [] := Tx.endsAt_end _ (by omega)
      rw [Hid, he, List.append_nil] at hpre
      exact ⟨⟨_, rfl⟩, .inl (hpre ▸ hJs)⟩
end Go.Proofs.YtaoekfokpbebfaaDoor.Sx
