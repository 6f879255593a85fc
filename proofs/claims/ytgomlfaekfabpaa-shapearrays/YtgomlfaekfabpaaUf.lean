/-
  Package shape: within: an iterator over the types that a type is made of.
-/
import Derived.Test.YtgomlfaekfabpaaUe
import Derived.Test.YtgomlfaekfabpaaNa
import Derived.Deep.LoopGhost
import Derived.BigRegion
import Derived.RangeFuncNested
import Derived.RangeFuncBound
import Derived.RangeFuncCalls
import Derived.RangeFuncLeaves
import Derived.Shelf.Abstract
import Derived.Shelf.RegionOpen
import Derived.OwnWalkIn
import Derived.TacticsInMore
import Derived.LoopNIn
import Derived.LoopIn
import Derived.BigRegionIn
import Derived.RegionIn
namespace Go.Proofs.Ytgomlfaekfabpaa
open Go Go.RowKit Go.Shelf
attribute [local go_sem] Oper.semAt_some
set_option linter.unusedVariables false
set_option linter.unusedSimpArgs false

theorem below_grown {w w' : World} (h : Below w.heap.size w w') : w.grownBy w' none := ⟨h.os, h.tape, h.output, h.size, fun k hk _ => h.block k hk⟩
/-- A type in a block of its own. -/
def TyB (W : World) (b : Nat) (t : ShT) : Prop := W.heap[b]? = some (.cells t.cs 25)
theorem TyB.lt {W : World} {b : Nat} {t : ShT} (h : TyB W b t) : b < W.heap.size := (Array.getElem?_eq_some_iff.1 h).1
theorem TyB.seven {W : World} {b : Nat} {t : ShT} (h : TyB W b t) :
    W.cell? ⟨b, 0, none⟩ = some (.int .i64 t.sh) ∧ W.cell? ⟨b, 1, none⟩ = some (.int .i64 t.k) ∧ W.cell? ⟨b, 2, none⟩ = some (.int .i64 t.n) ∧ W.cell? ⟨b, 3, none⟩ = some (.slice t.op t.of.length t.oc) ∧
    W.cell? ⟨b, 4, none⟩ = some (.slice t.fp t.fs.length t.fc) ∧ W.cell? ⟨b, 5, none⟩ = some (.bool t.pk) ∧ W.cell? ⟨b, 6, none⟩ = some (.int .i64 t.al) := by
  unfold TyB at h
  simp [World.cell?, h, ShT.cs]
theorem TyB.new (w : World) (t : ShT) : TyB (w.alloc (.cells t.cs 25)) w.heap.size t := World.alloc_heap_new _ _
theorem TyB.alloc {W : World} {b : Nat} {t : ShT} (h : TyB W b t) (o : Obj) : TyB (W.alloc o) b t := (Below.heap_alloc W o b h.lt).trans h
theorem TyB.below {W W' : World} {b : Nat} {t : ShT} (h : TyB W b t) (hb : Below W.heap.size W W') : TyB W' b t := (hb.block b h.lt).trans h
/-- What an iterator over a type asks of its rounds: what was handed in stays, and the type's box. -/
def KpS (N0 Bd : Nat) (A B : World) : Prop := Below N0 A B ∧ B.heap[Bd]? = A.heap[Bd]?
theorem KpS.trans {N0 Bd : Nat} {A B C : World} (h : KpS N0 Bd A B) (k : KpS N0 Bd B C) : KpS N0 Bd A C := ⟨h.1.trans k.1, k.2.trans h.2⟩
def ShT.parts (t : ShT) : List ShT := t.of ++ t.fs.map FdOf.t
def encT (x : ShT) : Array Value := #[x.v]
theorem within_any (t : ShT) (w : World) :
    Calls Try.prog 81 #[t.v] w fun e w' => e = .returned (.func (.func 93) #[] #[.pointer (some ⟨w.heap.size, 0, none⟩)]) ∧ w' = w.alloc (.cells t.cs 25) := by
  unfold ShT.v ShT.cs
  go_enter Try.func81, Try.ntmps81
  go_wp2
  go_ret
  exact ⟨rfl, rfl⟩
set_option maxRecDepth 100000 in
set_option maxHeartbeats 8000000 in
theorem within1_in (n : Nat) (h1 : 1 ≤ n) (lp Bd N0 : Nat) (t : ShT) (hol : t.of.length ≤ 1000) (hfl : t.fs.length ≤ 1000) (J Jx : List ShT → World → Prop) (W : World)
    (hJ : AbidesO W.heap.size W.heap.size 0 J) (hJx : AbidesO W.heap.size W.heap.size 0 Jx)
    (hY : ∀ pre x W1, J pre W1 → W.heap.size + 0 ≤ W1.heap.size → noRow 5 W.heap.size 0 W1 → pre ++ [x] <+: t.parts → YieldAt Fence.wide (n - 1) Try.prog lp (encT x) W1 fun e W' =>
      (e = .returned (.bool true) ∧ J (pre ++ [x]) W' ∧ KeepsO W.heap.size 0 W1 W' ∧ KpS N0 Bd W1 W') ∨ (e = .returned (.bool false) ∧ Jx (pre ++ [x]) W' ∧ KeepsO W.heap.size 0 W1 W'))
    (hN : N0 ≤ W.heap.size) (hb : TyB W Bd t) (hin : t.In N0 W) (h0 : J [] W) :
    CallsIn Fence.wide n Try.prog 93 #[.func (.yield lp) #[] #[], .pointer (some ⟨Bd, 0, none⟩)] W fun e W' => (∃ v, e = .returned v) ∧
      (J t.parts W' ∨ (∃ pre, pre <+: t.parts ∧ Jx pre W')) := by
  obtain ⟨c0, c1, c2, c3, c4, c5, c6⟩ := hb.seven
  have HIN := veil hin
  have HB := veil hb
  have HY := veil hY
  have HJ := veil hJ
  clear hin hb hY hJ c0 c1 c2 c4 c5 c6
  refine callsIn_of_wp Try.func93 rfl trivial ?_ rfl
  simp only [Try.ntmps93, List.size_toArray, List.length_cons, List.length_nil, Nat.reduceAdd, Nat.reduceSub, Array.replicate_succ, Array.replicate_zero, List.push_toArray, List.append_toArray, List.nil_append, List.cons_append]
  gi_wp2
  gi_loopw [10] (fun i wr => ∃ (k : Nat), i = .int .i64 k ∧ k ≤ t.of.length ∧ J (t.of.take k) wr ∧ W.heap.size ≤ wr.heap.size ∧ Hid (Below N0 W wr) ∧ Hid (TyB wr Bd t))
    (fun i wr => t.of.length - (intOf i).toNat)
  case atStart => exact ⟨0, rfl, Nat.zero_le _, h0, Nat.le_refl _, Below.refl _ _, unveil HB⟩
  case round =>
    obtain ⟨k, rfl, hk, hJp, hsz, hbe, hbx⟩ := hrel
    by_cases hlt : k < t.of.length
    · obtain ⟨g, o, hpp, hg, hc, _⟩ := ((unveil HIN).below (unveil hbe)).of k hlt
      obtain ⟨d0, d1, d2, d3, d4, d5, d6⟩ := seven hc
      have htk : t.of.take k ++ [t.of[k]] = t.of.take (k + 1) := by rw [List.take_succ_eq_append_getElem hlt]
      have hobj : ∃ ob, Obj.cells t.of[k].cs 25 = ob := ⟨_, rfl⟩
      obtain ⟨fn, tmps, assign, body, hy, hRR⟩ := unveil HY (t.of.take k) t.of[k] (wr.alloc (.cells t.of[k].cs 25)) ((unveil HJ).alloc _ hJp) (by simp; omega) (fun j c fz h1 h2 => by omega) (by rw [htk]; unfold ShT.parts; exact (List.take_prefix _ _).trans (List.prefix_append _ _))
      rw [htk] at hRR
      simp only [encT, ShT.v] at hy
      unfold ShT.cs at hy hRR
      have HR := veil hRR
      rw [hpp]
      clear hRR hc htk
      gi_wp2
      refine (unveil HR).mono ?_
      rintro e W5 (⟨rfl, hJ5, hk5, hb5⟩ | ⟨rfl, hJx5, hk5⟩)
      · gi_wp2
        go_roundw
        case rel => exact ⟨k + 1, by go_num, by omega, hJ5, by have := hk5.size; simp at this; omega, ((unveil hbe).alloc (by omega) _).trans hb5.1, hb5.2.trans ((unveil hbx).alloc _)⟩
        case measure => simp [intOf]; omega
      · gi_wp2
        refine bodyPost_ret (results_none rfl _ _ _) rfl ?_
        refine ⟨⟨_, rfl⟩, .inr ⟨_, ?_, hJx5⟩⟩
        unfold ShT.parts; exact (List.take_prefix _ _).trans (List.prefix_append _ _)
    · obtain rfl : k = t.of.length := by omega
      rw [List.take_length] at hJp
      obtain ⟨_, _, _, _, e4, _, _⟩ := (unveil hbx).seven
      gi_wp2
      gi_loopw [22] (fun i wr => ∃ (m : Nat), i = .int .i64 m ∧ m ≤ t.fs.length ∧ J (t.of ++ (t.fs.map FdOf.t).take m) wr ∧ W.heap.size ≤ wr.heap.size ∧ Hid (Below N0 W wr))
        (fun i wr => t.fs.length - (intOf i).toNat)
      case atStart => exact ⟨0, rfl, Nat.zero_le _, by simpa using hJp, hsz, hbe⟩
      case round =>
        obtain ⟨m, rfl, hm, hJq, hsq, hbq⟩ := hrel
        by_cases hlt2 : m < t.fs.length
        · obtain ⟨g, o, hpp, hg, hc, _, _⟩ := ((unveil HIN).below (unveil hbq)).fs m hlt2
          obtain ⟨d0, d1, d2, d3, d4, d5, d6, d7, d8⟩ := nine hc
          have htk : t.of ++ (t.fs.map FdOf.t).take m ++ [t.fs[m].t] = t.of ++ (t.fs.map FdOf.t).take (m + 1) := by rw [List.append_assoc, List.take_succ_eq_append_getElem (by simpa using hlt2)]; simp
          have hpre : t.of ++ (t.fs.map FdOf.t).take (m + 1) <+: t.parts := by unfold ShT.parts; exact List.prefix_append_right_inj _ |>.2 (List.take_prefix _ _)
          obtain ⟨fn, tmps, assign, body, hy, hRR⟩ := unveil HY (t.of ++ (t.fs.map FdOf.t).take m) t.fs[m].t (wr.alloc (.cells t.fs[m].cs 45)) ((unveil HJ).alloc _ hJq) (by simp; omega) (fun j c fz h1 h2 => by omega) (by rw [htk]; exact hpre)
          rw [htk] at hRR
          simp only [encT, ShT.v] at hy
          unfold ShT.cs at hy
          unfold FdOf.cs at hy hRR
          have HR := veil hRR
          rw [hpp]
          clear hRR hc htk
          gi_wp2
          refine (unveil HR).mono ?_
          rintro e W5 (⟨rfl, hJ5, hk5, hb5⟩ | ⟨rfl, hJx5, hk5⟩)
          · gi_wp2
            go_roundw
            case rel => exact ⟨m + 1, by go_num, by omega, hJ5, by have := hk5.size; simp at this; omega, ((unveil hbq).alloc (by omega) _).trans hb5.1⟩
            case measure => simp [intOf]; omega
          · gi_wp2
            refine bodyPost_ret (results_none rfl _ _ _) rfl ?_
            exact ⟨⟨_, rfl⟩, .inr ⟨_, hpre, hJx5⟩⟩
        · obtain rfl : m = t.fs.length := by omega
          rw [List.take_of_length_le (by simp)] at hJq
          gi_wp2
          refine bodyPost_end (results_none (fn := Try.f93) rfl _ _ _) rfl ?_
          exact ⟨⟨_, rfl⟩, .inl hJq⟩
theorem within_stops (n : Nat) (h1 : 1 ≤ n) (Bd N0 : Nat) (t : ShT) (hol : t.of.length ≤ 1000) (hfl : t.fs.length ≤ 1000) (w : World) (hN : N0 ≤ w.heap.size) (hb : TyB w Bd t) (hin : t.In N0 w) :
    SeqStopsO Fence.wide n 0 Try.prog 93 #[.pointer (some ⟨Bd, 0, none⟩)] encT (KpS N0 Bd) t.parts w :=
  fun lp J Jx W hW hJ hJx hY h0 => within1_in n h1 lp Bd N0 t hol hfl J Jx W hJ hJx hY (Nat.le_trans hN hW.size) (hb.below hW) (hin.below (hW.mono hN)) h0
end Go.Proofs.Ytgomlfaekfabpaa
