/-
  Package kind: the words that kinds are said with: placeOf, placed, either, together, kind.
-/
import Derived.Test.YtmpkgjonbjpohaaGreatDoorHa
import Derived.Test.YtmpkgjonbjpohaaGreatDoorNa
import Derived.Below
import Derived.Deep.LoopGhost
import Derived.BigRegion
import Derived.RangeFuncNested
import Derived.RangeFuncBound
import Derived.RangeFuncCalls
import Derived.RangeFuncLeaves
import Derived.Shelf.Abstract
import Derived.Shelf.RegionOpen
import Derived.OwnWalkIn
import Derived.TacticsInMore
import Derived.LoopNIn
import Derived.LoopIn
import Derived.BigRegionIn
import Derived.RegionIn
import Derived.Deep.DeepCutAuto
namespace Go.Proofs.YtmpkgjonbjpohaaGreatDoor
open Go Go.RowKit Go.Shelf
attribute [local go_sem] Oper.semAt_some
set_option linter.unusedVariables false
set_option linter.unusedSimpArgs false

/-- Strings in memory. -/
def StG (B : Nat) (W : World) (v : Value) (l : List (List UInt8)) : Prop :=
  ∃ p cap, v = .slice p l.length cap ∧ ∀ (i : Nat) (h : i < l.length), ∃ g o, p = some ⟨g, o, none⟩ ∧ g < B ∧
    W.cell? ⟨g, o + i, none⟩ = some (.string ⟨l[i].toArray⟩)
theorem StG.below {B : Nat} {W W' : World} {v : Value} {l : List (List UInt8)} (h : StG B W v l) (hb : Below B W W') : StG B W' v l := by
  obtain ⟨p, cap, rfl, hc⟩ := h
  refine ⟨p, cap, rfl, fun i hi => ?_⟩
  obtain ⟨g, o, rfl, h1, c0⟩ := hc i hi
  exact ⟨g, o, rfl, h1, (hb.cell (p := ⟨g, o + i, none⟩) h1).trans c0⟩
/-- A word's place, and whether it has one. -/
def plcM (s : List UInt8) : Int := if s == [99, 104, 97, 114] then 0 else if s == [115, 104, 111, 114, 116] then 1 else if s == [108, 111, 110, 103] then 2 else if s == [105, 110, 116] then 3 else if s == [115, 105, 103, 110, 101, 100] then 4 else if s == [117, 110, 115, 105, 103, 110, 101, 100] then 5 else 0
def thrM (s : List UInt8) : Bool := if s == [99, 104, 97, 114] then true else if s == [115, 104, 111, 114, 116] then true else if s == [108, 111, 110, 103] then true else if s == [105, 110, 116] then true else if s == [115, 105, 103, 110, 101, 100] then true else if s == [117, 110, 115, 105, 103, 110, 101, 100] then true else false
theorem plc_cases (s : List UInt8) : (thrM s = false ∧ plcM s = 0) ∨ (thrM s = true ∧ (plcM s = 0 ∨ plcM s = 1 ∨ plcM s = 2 ∨ plcM s = 3 ∨ plcM s = 4 ∨ plcM s = 5)) := by
  unfold thrM plcM
  repeat' split
  all_goals simp
set_option maxRecDepth 100000 in
set_option maxHeartbeats 4000000 in
theorem placeOf_any (s : List UInt8) (w : World) : Calls Tryz.prog 172 #[.string ⟨s.toArray⟩] w fun e w' => e = .returned (.tuple #[.int .i64 (plcM s), .bool (thrM s)]) ∧ w' = w := by
  go_enter Tryz.func172, Tryz.ntmps172
  go_wp2
  all_goals go_ret2
  all_goals (refine ⟨?_, rfl⟩; first | (simp [plcM, thrM, *]; done) | (simp_all [plcM, thrM]; done))
theorem kplaced_any (p : Option Addr) (len cap : Nat) (w : World) :
    Calls Tryz.prog 157 #[.slice p len cap] w fun e w' => e = .returned (.func (.func 171) #[] #[.pointer (some ⟨w.heap.size, 0, none⟩)]) ∧ w' = w.alloc (.cells #[.slice p len cap] 91) := by
  go_enter Tryz.func157, Tryz.ntmps157
  go_wp2
  go_ret
  exact ⟨rfl, rfl⟩
def encS (s : List UInt8) : Array Value := #[.int .i64 (plcM s), .bool (thrM s)]
set_option maxRecDepth 100000 in
set_option maxHeartbeats 4000000 in
theorem placed1_in (n : Nat) (h1 : 1 ≤ n) (lp Bd B0 : Nat) (p : Option Addr) (cap : Nat) (l : List (List UInt8)) (hl : l.length ≤ 9223372036854775806) (J Jx : List (List UInt8) → World → Prop) (W : World)
    (hJ : AbidesO W.heap.size W.heap.size 0 J) (hJx : AbidesO W.heap.size W.heap.size 0 Jx)
    (hY : ∀ pre x W1, J pre W1 → W.heap.size + 0 ≤ W1.heap.size → noRow 5 W.heap.size 0 W1 → pre ++ [x] <+: l → YieldAt Fence.wide (n - 1) Tryz.prog lp (encS x) W1 fun e W' =>
      (e = .returned (.bool true) ∧ J (pre ++ [x]) W' ∧ KeepsO W.heap.size 0 W1 W' ∧ Below B0 W1 W') ∨ (e = .returned (.bool false) ∧ Jx (pre ++ [x]) W' ∧ KeepsO W.heap.size 0 W1 W'))
    (hBW : B0 ≤ W.heap.size) (hBd : Boxed W Bd 91 (.slice p l.length cap)) (hT : StG B0 W (.slice p l.length cap) l) (h0 : J [] W) :
    CallsIn Fence.wide n Tryz.prog 171 #[.func (.yield lp) #[] #[], .pointer (some ⟨Bd, 0, none⟩)] W fun e W' => (∃ v, e = .returned v) ∧
      (J l W' ∨ (∃ pre, pre <+: l ∧ Jx pre W')) := by
  have hc := hBd.cell
  have HT := veil hT
  have HL := veil hl
  clear hT
  refine callsIn_of_wp Tryz.func171 rfl trivial ?_ rfl
  simp only [Tryz.ntmps171, List.size_toArray, List.length_cons, List.length_nil, Nat.reduceAdd, Nat.reduceSub, Array.replicate_succ, Array.replicate_zero, List.push_toArray, List.append_toArray, List.nil_append, List.cons_append]
  gi_wp2
  gi_loopw [9] (fun i wr => ∃ (k : Nat), i = .int .i64 k ∧ k ≤ l.length ∧ J (l.take k) wr ∧ W.heap.size ≤ wr.heap.size ∧ Hid (Below B0 W wr))
    (fun i wr => l.length - (intOf i).toNat)
  case atStart => exact ⟨0, rfl, Nat.zero_le _, h0, Nat.le_refl _, Below.refl _ _⟩
  case round =>
    obtain ⟨k, rfl, hk, hJp, hsz, hbe⟩ := hrel
    by_cases hlt : k < l.length
    · obtain ⟨p', cap', hp', hcs⟩ := (unveil HT).below (unveil hbe)
      obtain ⟨g, o, hpp, hg, a0⟩ := hcs k hlt
      obtain ⟨rfl, rfl⟩ : p = some ⟨g, o, none⟩ ∧ cap = cap' := by
        have e := hp'
        simp at e
        exact ⟨e.1.trans hpp, e.2⟩
      have HP := veil (placeOf_any l[k])
      have htk : l.take k ++ [l[k]] = l.take (k + 1) := by rw [List.take_succ_eq_append_getElem hlt]
      obtain ⟨fn, tmps, assign, body, hy, hRR⟩ := hY (l.take k) l[k] wr hJp (by omega) (fun j c fz h1 h2 => by omega) (by rw [htk]; exact List.take_prefix _ _)
      rw [htk] at hRR
      simp only [encS] at hy
      have HR := veil hRR
      clear hRR hY hcs htk hp' hpp
      generalize plcM l[k] = PL at *
      generalize thrM l[k] = TH at *
      gi_wp2_with (first
        | (refine ⟨trivial, ?_⟩; gi_at_call 172; refine (callsIn_wide.2 (unveil HP _)).mono ?_; rintro e w' ⟨rfl, hw'⟩; obtain rfl := hw'.symm)
        | fail)
      refine (unveil HR).mono ?_
      rintro e W5 (⟨rfl, hJ5, hk5, hb5⟩ | ⟨rfl, hJx5, hk5⟩)
      · gi_wp2
        go_roundw
        case rel => exact ⟨k + 1, by go_num, by omega, hJ5, by have := hk5.size; exact Nat.le_trans hsz this, (unveil hbe).trans hb5⟩
        case measure => simp [intOf]; omega
      · gi_wp2
        refine bodyPost_ret (results_none rfl _ _ _) rfl ?_
        exact ⟨⟨_, rfl⟩, .inr ⟨_, List.take_prefix _ _, hJx5⟩⟩
    · obtain rfl : k = l.length := by omega
      rw [List.take_length] at hJp
      gi_wp2
      refine bodyPost_end (results_none (fn := Tryz.f171) rfl _ _ _) rfl ?_
      exact ⟨⟨_, rfl⟩, .inl hJp⟩
theorem placed_stops (n : Nat) (h1 : 1 ≤ n) (Bd B0 : Nat) (p : Option Addr) (cap : Nat) (l : List (List UInt8)) (hl : l.length ≤ 9223372036854775806) (w : World) (hBw : B0 ≤ w.heap.size) (hb : Boxed w Bd 91 (.slice p l.length cap)) (hT : StG B0 w (.slice p l.length cap) l) :
    SeqStopsO Fence.wide n 0 Tryz.prog 171 #[.pointer (some ⟨Bd, 0, none⟩)] encS (Below B0) l w :=
  fun lp J Jx W hW hJ hJx hY h0 => placed1_in n h1 lp Bd B0 p cap l hl J Jx W hJ hJx hY (Nat.le_trans hBw hW.size) ((hW.block Bd hb.lt).trans hb) (hT.below (hW.mono hBw)) h0
theorem either_any (b : Bool) (x y : Int) (w : World) : Calls Tryz.prog 158 #[.bool b, .int .i64 x, .int .i64 y] w fun e w' => e = .returned (.int .i64 (if b then x else y)) ∧ w' = w := by
  cases b
  all_goals (
    go_enter Tryz.func158, Tryz.ntmps158
    go_wp2
    go_ret
    exact ⟨rfl, rfl⟩)
end Go.Proofs.YtmpkgjonbjpohaaGreatDoor
