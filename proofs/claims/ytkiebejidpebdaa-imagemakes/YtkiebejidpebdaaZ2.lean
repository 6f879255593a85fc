/-
  Package shape: within: an iterator over the types that a type is made of.
  Package shape: layBits, lay.
  Package shape: lay.
  Package shape: members: an iterator over the members of a type.
  Package shape: right.
-/
import Derived.Test.YtkiebejidpebdaaZ1
import Derived.Test.YtkiebejidpebdaaNa
import Derived.Deep.LoopGhost
import Derived.BigRegion
import Derived.RangeFuncNested
import Derived.RangeFuncBound
import Derived.RangeFuncCalls
import Derived.RangeFuncLeaves
import Derived.Shelf.Abstract
import Derived.Shelf.RegionOpen
import Derived.OwnWalkIn
import Derived.TacticsInMore
import Derived.LoopNIn
import Derived.LoopIn
import Derived.BigRegionIn
import Derived.RegionIn
import Derived.Deep.CutRange
import Derived.Deep.DeepCutAuto
import Derived.Deep.RegionHeld3
namespace Go.Proofs.Ytkiebejidpebdaa
open Go Go.RowKit Go.Shelf
attribute [local go_sem] Oper.semAt_some
set_option linter.unusedVariables false
set_option linter.unusedSimpArgs false

theorem below_grown {w w' : World} (h : Below w.heap.size w w') : w.grownBy w' none := ⟨h.os, h.tape, h.output, h.size, fun k hk _ => h.block k hk⟩
/-- A type in a block of its own. -/
def TyB (W : World) (b : Nat) (t : ShT) : Prop := W.heap[b]? = some (.cells t.cs 25)
theorem TyB.lt {W : World} {b : Nat} {t : ShT} (h : TyB W b t) : b < W.heap.size := (Array.getElem?_eq_some_iff.1 h).1
theorem TyB.seven {W : World} {b : Nat} {t : ShT} (h : TyB W b t) :
    W.cell? ⟨b, 0, none⟩ = some (.int .i64 t.sh) ∧ W.cell? ⟨b, 1, none⟩ = some (.int .i64 t.k) ∧ W.cell? ⟨b, 2, none⟩ = some (.int .i64 t.n) ∧ W.cell? ⟨b, 3, none⟩ = some (.slice t.op t.of.length t.oc) ∧
    W.cell? ⟨b, 4, none⟩ = some (.slice t.fp t.fs.length t.fc) ∧ W.cell? ⟨b, 5, none⟩ = some (.bool t.pk) ∧ W.cell? ⟨b, 6, none⟩ = some (.int .i64 t.al) := by
  unfold TyB at h
  simp [World.cell?, h, ShT.cs]
theorem TyB.new (w : World) (t : ShT) : TyB (w.alloc (.cells t.cs 25)) w.heap.size t := World.alloc_heap_new _ _
theorem TyB.alloc {W : World} {b : Nat} {t : ShT} (h : TyB W b t) (o : Obj) : TyB (W.alloc o) b t := (Below.heap_alloc W o b h.lt).trans h
theorem TyB.below {W W' : World} {b : Nat} {t : ShT} (h : TyB W b t) (hb : Below W.heap.size W W') : TyB W' b t := (hb.block b h.lt).trans h
/-- What an iterator over a type asks of its rounds: what was handed in stays, and the type's box. -/
def KpS (N0 Bd : Nat) (A B : World) : Prop := Below N0 A B ∧ B.heap[Bd]? = A.heap[Bd]?
theorem KpS.trans {N0 Bd : Nat} {A B C : World} (h : KpS N0 Bd A B) (k : KpS N0 Bd B C) : KpS N0 Bd A C := ⟨h.1.trans k.1, k.2.trans h.2⟩
def ShT.parts (t : ShT) : List ShT := t.of ++ t.fs.map FdOf.t
def encT (x : ShT) : Array Value := #[x.v]
theorem within_any (t : ShT) (w : World) :
    Calls Try.prog 81 #[t.v] w fun e w' => e = .returned (.func (.func 93) #[] #[.pointer (some ⟨w.heap.size, 0, none⟩)]) ∧ w' = w.alloc (.cells t.cs 25) := by
  unfold ShT.v ShT.cs
  go_enter Try.func81, Try.ntmps81
  go_wp2
  go_ret
  exact ⟨rfl, rfl⟩
set_option maxRecDepth 100000 in
set_option maxHeartbeats 8000000 in
theorem within1_in (n : Nat) (h1 : 1 ≤ n) (lp Bd N0 : Nat) (t : ShT) (hol : t.of.length ≤ 1000) (hfl : t.fs.length ≤ 1000) (J Jx : List ShT → World → Prop) (W : World)
    (hJ : AbidesO W.heap.size W.heap.size 0 J) (hJx : AbidesO W.heap.size W.heap.size 0 Jx)
    (hY : ∀ pre x W1, J pre W1 → W.heap.size + 0 ≤ W1.heap.size → noRow 5 W.heap.size 0 W1 → pre ++ [x] <+: t.parts → YieldAt Fence.wide (n - 1) Try.prog lp (encT x) W1 fun e W' =>
      (e = .returned (.bool true) ∧ J (pre ++ [x]) W' ∧ KeepsO W.heap.size 0 W1 W' ∧ KpS N0 Bd W1 W') ∨ (e = .returned (.bool false) ∧ Jx (pre ++ [x]) W' ∧ KeepsO W.heap.size 0 W1 W'))
    (hN : N0 ≤ W.heap.size) (hb : TyB W Bd t) (hin : t.In N0 W) (h0 : J [] W) :
    CallsIn Fence.wide n Try.prog 93 #[.func (.yield lp) #[] #[], .pointer (some ⟨Bd, 0, none⟩)] W fun e W' => (∃ v, e = .returned v) ∧
      (J t.parts W' ∨ (∃ pre, pre <+: t.parts ∧ Jx pre W')) := by
  obtain ⟨c0, c1, c2, c3, c4, c5, c6⟩ := hb.seven
  have HIN := veil hin
  have HB := veil hb
  have HY := veil hY
  have HJ := veil hJ
  clear hin hb hY hJ c0 c1 c2 c4 c5 c6
  refine callsIn_of_wp Try.func93 rfl trivial ?_ rfl
  simp only [Try.ntmps93, List.size_toArray, List.length_cons, List.length_nil, Nat.reduceAdd, Nat.reduceSub, Array.replicate_succ, Array.replicate_zero, List.push_toArray, List.append_toArray, List.nil_append, List.cons_append]
  gi_wp2
  gi_loopw [10] (fun i wr => ∃ (k : Nat), i = .int .i64 k ∧ k ≤ t.of.length ∧ J (t.of.take k) wr ∧ W.heap.size ≤ wr.heap.size ∧ Hid (Below N0 W wr) ∧ Hid (TyB wr Bd t))
    (fun i wr => t.of.length - (intOf i).toNat)
  case atStart => exact ⟨0, rfl, Nat.zero_le _, h0, Nat.le_refl _, Below.refl _ _, unveil HB⟩
  case round =>
    obtain ⟨k, rfl, hk, hJp, hsz, hbe, hbx⟩ := hrel
    by_cases hlt : k < t.of.length
    · obtain ⟨g, o, hpp, hg, hc, _⟩ := ((unveil HIN).below (unveil hbe)).of k hlt
      obtain ⟨d0, d1, d2, d3, d4, d5, d6⟩ := seven hc
      have htk : t.of.take k ++ [t.of[k]] = t.of.take (k + 1) := by rw [List.take_succ_eq_append_getElem hlt]
      have hobj : ∃ ob, Obj.cells t.of[k].cs 25 = ob := ⟨_, rfl⟩
      obtain ⟨fn, tmps, assign, body, hy, hRR⟩ := unveil HY (t.of.take k) t.of[k] (wr.alloc (.cells t.of[k].cs 25)) ((unveil HJ).alloc _ hJp) (by simp; omega) (fun j c fz h1 h2 => by omega) (by rw [htk]; unfold ShT.parts; exact (List.take_prefix _ _).trans (List.prefix_append _ _))
      rw [htk] at hRR
      simp only [encT, ShT.v] at hy
      unfold ShT.cs at hy hRR
      have HR := veil hRR
      rw [hpp]
      clear hRR hc htk
      gi_wp2
      refine (unveil HR).mono ?_
      rintro e W5 (⟨rfl, hJ5, hk5, hb5⟩ | ⟨rfl, hJx5, hk5⟩)
      · gi_wp2
        go_roundw
        case rel => exact ⟨k + 1, by go_num, by omega, hJ5, by have := hk5.size; simp at this; omega, ((unveil hbe).alloc (by omega) _).trans hb5.1, hb5.2.trans ((unveil hbx).alloc _)⟩
        case measure => simp [intOf]; omega
      · gi_wp2
        refine bodyPost_ret (results_none rfl _ _ _) rfl ?_
        refine ⟨⟨_, rfl⟩, .inr ⟨_, ?_, hJx5⟩⟩
        unfold ShT.parts; exact (List.take_prefix _ _).trans (List.prefix_append _ _)
    · obtain rfl : k = t.of.length := by omega
      rw [List.take_length] at hJp
      obtain ⟨_, _, _, _, e4, _, _⟩ := (unveil hbx).seven
      gi_wp2
      gi_loopw [22] (fun i wr => ∃ (m : Nat), i = .int .i64 m ∧ m ≤ t.fs.length ∧ J (t.of ++ (t.fs.map FdOf.t).take m) wr ∧ W.heap.size ≤ wr.heap.size ∧ Hid (Below N0 W wr))
        (fun i wr => t.fs.length - (intOf i).toNat)
      case atStart => exact ⟨0, rfl, Nat.zero_le _, by simpa using hJp, hsz, hbe⟩
      case round =>
        obtain ⟨m, rfl, hm, hJq, hsq, hbq⟩ := hrel
        by_cases hlt2 : m < t.fs.length
        · obtain ⟨g, o, hpp, hg, hc, _, _⟩ := ((unveil HIN).below (unveil hbq)).fs m hlt2
          obtain ⟨d0, d1, d2, d3, d4, d5, d6, d7, d8⟩ := nine hc
          have htk : t.of ++ (t.fs.map FdOf.t).take m ++ [t.fs[m].t] = t.of ++ (t.fs.map FdOf.t).take (m + 1) := by rw [List.append_assoc, List.take_succ_eq_append_getElem (by simpa using hlt2)]; simp
          have hpre : t.of ++ (t.fs.map FdOf.t).take (m + 1) <+: t.parts := by unfold ShT.parts; exact List.prefix_append_right_inj _ |>.2 (List.take_prefix _ _)
          obtain ⟨fn, tmps, assign, body, hy, hRR⟩ := unveil HY (t.of ++ (t.fs.map FdOf.t).take m) t.fs[m].t (wr.alloc (.cells t.fs[m].cs 45)) ((unveil HJ).alloc _ hJq) (by simp; omega) (fun j c fz h1 h2 => by omega) (by rw [htk]; exact hpre)
          rw [htk] at hRR
          simp only [encT, ShT.v] at hy
          unfold ShT.cs at hy
          unfold FdOf.cs at hy hRR
          have HR := veil hRR
          rw [hpp]
          clear hRR hc htk
          gi_wp2
          refine (unveil HR).mono ?_
          rintro e W5 (⟨rfl, hJ5, hk5, hb5⟩ | ⟨rfl, hJx5, hk5⟩)
          · gi_wp2
            go_roundw
            case rel => exact ⟨m + 1, by go_num, by omega, hJ5, by have := hk5.size; simp at this; omega, ((unveil hbq).alloc (by omega) _).trans hb5.1⟩
            case measure => simp [intOf]; omega
          · gi_wp2
            refine bodyPost_ret (results_none rfl _ _ _) rfl ?_
            exact ⟨⟨_, rfl⟩, .inr ⟨_, hpre, hJx5⟩⟩
        · obtain rfl : m = t.fs.length := by omega
          rw [List.take_of_length_le (by simp)] at hJq
          gi_wp2
          refine bodyPost_end (results_none (fn := Try.f93) rfl _ _ _) rfl ?_
          exact ⟨⟨_, rfl⟩, .inl hJq⟩
theorem within_stops (n : Nat) (h1 : 1 ≤ n) (Bd N0 : Nat) (t : ShT) (hol : t.of.length ≤ 1000) (hfl : t.fs.length ≤ 1000) (w : World) (hN : N0 ≤ w.heap.size) (hb : TyB w Bd t) (hin : t.In N0 w) :
    SeqStopsO Fence.wide n 0 Try.prog 93 #[.pointer (some ⟨Bd, 0, none⟩)] encT (KpS N0 Bd) t.parts w :=
  fun lp J Jx W hW hJ hJx hY h0 => within1_in n h1 lp Bd N0 t hol hfl J Jx W hJ hJx hY (Nat.le_trans hN hW.size) (hb.below hW) (hin.below (hW.mono hN)) h0
end Go.Proofs.Ytkiebejidpebdaa
namespace Go.Proofs.Ytkiebejidpebdaa
open Go Go.RowKit
set_option linter.unusedVariables false
set_option linter.unusedSimpArgs false

/-- Where a member lies, and to what it aligns the whole. -/
structure Mb where
  bit : Int
  bits : Int
  k : Int
  al : Int
def mbC (f : FdOf ShT) (m : Mb) : Array Value := #[.string ⟨f.nm.toArray⟩, .int .i64 f.t.sh, .int .i64 f.t.k, .int .i64 f.t.n, .slice f.t.op f.t.of.length f.t.oc, .slice f.t.fp f.t.fs.length f.t.fc, .bool f.t.pk, .int .i64 f.t.al, .int .i64 f.bits, .int .i64 m.bit, .int .i64 m.bits, .int .i64 m.k, .int .i64 m.al]
def mbV (f : FdOf ShT) (m : Mb) : Value := .agg (mbC f m)
def layB (f : FdOf ShT) (en unit : Int) (pk : Bool) : Mb :=
  ⟨if f.bits == 0 || (en / unit != (en + f.bits - 1).tdiv unit) && !pk then upM en unit else en, f.bits, f.t.k, if !f.nm.isEmpty && !pk then unit / 8 else 1⟩
theorem res_m {f : Func} {k : Nat} {tmps : Array Value} {w : World} {R : Nat} {cs : Array Value} (hr : f.results = #[.cell k 77]) (hp : tmps.getD k undef = .pointer (some ⟨R, 0, none⟩)) (hg : w.heap[R]? = some (.cells cs 77 (0, 0))) (hz : cs.size = 13) :
    (results f tmps).run Try.prog w = .ok (.agg cs) w := by
  have hi : (Try.prog.info? 77).map (·.size) = some cs.size := by rw [hz]; kernel_rfl
  have hp' : tmps[k]?.getD undef = .pointer (some ⟨R, 0, none⟩) := by simpa using hp
  simp [results, hr, hp', asAddr, run_loadVar_row w R 77 77 cs (0, 0) _ hg Try.underlying77 rfl hi]
theorem res_e {f : Func} {k : Nat} {tmps : Array Value} {w : World} {R : Nat} {cs : Array Value} (hr : f.results = #[.cell k 68]) (hp : tmps.getD k undef = .pointer (some ⟨R, 0, none⟩)) (hg : w.heap[R]? = some (.cells cs 68 (0, 0))) (hz : cs.size = 2) :
    (results f tmps).run Try.prog w = .ok (.agg cs) w := by
  have hi : (Try.prog.info? 68).map (·.size) = some cs.size := by rw [hz]; kernel_rfl
  have hp' : tmps[k]?.getD undef = .pointer (some ⟨R, 0, none⟩) := by simpa using hp
  simp [results, hr, hp', asAddr, run_loadVar_row w R 68 68 cs (0, 0) _ hg Try.underlying68 rfl hi]
/-- Blocks of cells of some type. -/
def Bk (W : World) (b : Nat) (T : TypeId) (cs : Array Value) : Prop := W.heap[b]? = some (.cells cs T (0, 0))
theorem Bk.lt {W : World} {b : Nat} {T : TypeId} {cs : Array Value} (h : Bk W b T cs) : b < W.heap.size := (Array.getElem?_eq_some_iff.1 h).1
theorem Bk.cell {W : World} {b : Nat} {T : TypeId} {cs : Array Value} (h : Bk W b T cs) (i : Nat) : W.cell? ⟨b, i, none⟩ = cs[i]? := by unfold Bk at h; simp [World.cell?, h]
theorem Bk.frozen {W : World} {b : Nat} {T : TypeId} {cs : Array Value} (h : Bk W b T cs) (i : Nat) : W.frozen? ⟨b, i, none⟩ = false := by unfold Bk at h; simp [World.frozen?, h]
theorem Bk.below {W W' : World} {b : Nat} {T : TypeId} {cs : Array Value} (h : Bk W b T cs) (hb : Below W.heap.size W W') : Bk W' b T cs := (hb.block b h.lt).trans h
theorem Bk.alloc {W : World} {b : Nat} {T : TypeId} {cs : Array Value} (h : Bk W b T cs) (o : Obj) : Bk (W.alloc o) b T cs := (Below.heap_alloc W o b h.lt).trans h
theorem Bk.new (w : World) (T : TypeId) (cs : Array Value) : Bk (w.alloc (.cells cs T)) w.heap.size T cs := World.alloc_heap_new _ _
theorem Bk.set {W : World} {b : Nat} {T : TypeId} {cs : Array Value} (h : Bk W b T cs) (i : Nat) (v : Value) : Bk (W.setCell ⟨b, i, none⟩ v) b T (cs.setIfInBounds i v) := by
  unfold Bk at *
  simp [World.setCell, Array.getElem?_modify, h]
theorem Bk.other {W : World} {b c : Nat} {T : TypeId} {cs : Array Value} (h : Bk W b T cs) (i : Nat) (v : Value) (hc : b ≠ c) : Bk (W.setCell ⟨c, i, none⟩ v) b T cs := (Below.heap_setCell W ⟨c, i, none⟩ v b hc).trans h
theorem Bk.nine {W : World} {b : Nat} {T : TypeId} {v0 v1 v2 v3 v4 v5 v6 v7 v8 : Value} (h : Bk W b T #[v0, v1, v2, v3, v4, v5, v6, v7, v8]) :
    W.cell? ⟨b, 0, none⟩ = some v0 ∧ W.cell? ⟨b, 1, none⟩ = some v1 ∧ W.cell? ⟨b, 2, none⟩ = some v2 ∧ W.cell? ⟨b, 3, none⟩ = some v3 ∧ W.cell? ⟨b, 4, none⟩ = some v4 ∧ W.cell? ⟨b, 5, none⟩ = some v5 ∧ W.cell? ⟨b, 6, none⟩ = some v6 ∧ W.cell? ⟨b, 7, none⟩ = some v7 ∧ W.cell? ⟨b, 8, none⟩ = some v8 :=
  ⟨h.cell 0, h.cell 1, h.cell 2, h.cell 3, h.cell 4, h.cell 5, h.cell 6, h.cell 7, h.cell 8⟩
theorem Bk.thirteen {W : World} {b : Nat} {T : TypeId} {v0 v1 v2 v3 v4 v5 v6 v7 v8 v9 v10 v11 v12 : Value} (h : Bk W b T #[v0, v1, v2, v3, v4, v5, v6, v7, v8, v9, v10, v11, v12]) :
    W.cell? ⟨b, 0, none⟩ = some v0 ∧ W.cell? ⟨b, 1, none⟩ = some v1 ∧ W.cell? ⟨b, 2, none⟩ = some v2 ∧ W.cell? ⟨b, 3, none⟩ = some v3 ∧ W.cell? ⟨b, 4, none⟩ = some v4 ∧ W.cell? ⟨b, 5, none⟩ = some v5 ∧ W.cell? ⟨b, 6, none⟩ = some v6 ∧ W.cell? ⟨b, 7, none⟩ = some v7 ∧ W.cell? ⟨b, 8, none⟩ = some v8 ∧
    W.cell? ⟨b, 9, none⟩ = some v9 ∧ W.cell? ⟨b, 10, none⟩ = some v10 ∧ W.cell? ⟨b, 11, none⟩ = some v11 ∧ W.cell? ⟨b, 12, none⟩ = some v12 :=
  ⟨h.cell 0, h.cell 1, h.cell 2, h.cell 3, h.cell 4, h.cell 5, h.cell 6, h.cell 7, h.cell 8, h.cell 9, h.cell 10, h.cell 11, h.cell 12⟩
theorem Bk.froz13 {W : World} {b : Nat} {T : TypeId} {cs : Array Value} (h : Bk W b T cs) :
    W.frozen? ⟨b, 0, none⟩ = false ∧ W.frozen? ⟨b, 1, none⟩ = false ∧ W.frozen? ⟨b, 2, none⟩ = false ∧ W.frozen? ⟨b, 3, none⟩ = false ∧ W.frozen? ⟨b, 4, none⟩ = false ∧ W.frozen? ⟨b, 5, none⟩ = false ∧ W.frozen? ⟨b, 6, none⟩ = false ∧ W.frozen? ⟨b, 7, none⟩ = false ∧ W.frozen? ⟨b, 8, none⟩ = false ∧
    W.frozen? ⟨b, 9, none⟩ = false ∧ W.frozen? ⟨b, 10, none⟩ = false ∧ W.frozen? ⟨b, 11, none⟩ = false ∧ W.frozen? ⟨b, 12, none⟩ = false :=
  ⟨h.frozen 0, h.frozen 1, h.frozen 2, h.frozen 3, h.frozen 4, h.frozen 5, h.frozen 6, h.frozen 7, h.frozen 8, h.frozen 9, h.frozen 10, h.frozen 11, h.frozen 12⟩
/-- The three blocks of layBits: the member's, the answer's, its own. -/
def zeroMb : Array Value := #[.string ⟨#[]⟩, .int .i64 0, .int .i64 0, .int .i64 0, .slice none 0 0, .slice none 0 0, .bool false, .int .i64 0, .int .i64 0, .int .i64 0, .int .i64 0, .int .i64 0, .int .i64 0]
structure LyS (w W : World) (F M : Array Value) : Prop where
  f : Bk W w.heap.size 45 F
  z : Bk W (w.heap.size + 1) 77 zeroMb
  m : Bk W (w.heap.size + 1 + 1) 77 M
  be : Below w.heap.size w W
theorem LyS.new (w : World) (F M : Array Value) : LyS w (((w.alloc (.cells F 45)).alloc (.cells zeroMb 77)).alloc (.cells M 77)) F M :=
  ⟨((Bk.new w _ F).alloc _).alloc _, by
    have := (Bk.new (w.alloc (.cells F 45)) 77 zeroMb).alloc (.cells M 77)
    rwa [World.size_alloc] at this, by
    have := Bk.new ((w.alloc (.cells F 45)).alloc (.cells zeroMb 77)) 77 M
    rwa [World.size_alloc, World.size_alloc] at this, (((Below.refl _ w).alloc (Nat.le_refl _) _).alloc (by simp) _).alloc (by simp; omega) _⟩
theorem LyS.drewN {w W : World} {F M : Array Value} (h : LyS w W F M) (n : Nat) : LyS w (W.drewN n) F M := ⟨h.f, h.z, h.m, below_drewS h.be n⟩
theorem LyS.set {w W : World} {F M : Array Value} (h : LyS w W F M) (i : Nat) (v : Value) : LyS w (W.setCell ⟨w.heap.size + 1 + 1, i, none⟩ v) F (M.setIfInBounds i v) :=
  ⟨h.f.other _ _ (by omega), h.z.other _ _ (by omega), h.m.set i v, h.be.setCell (p := ⟨w.heap.size + 1 + 1, i, none⟩) (by show w.heap.size ≤ w.heap.size + 1 + 1; omega) v⟩
def put13 (W : World) (R : Nat) (v0 v1 v2 v3 v4 v5 v6 v7 v8 v9 v10 v11 v12 : Value) : World :=
  ((((((((((((W.setCell ⟨R, 0, none⟩ v0).setCell ⟨R, 1, none⟩ v1).setCell ⟨R, 2, none⟩ v2).setCell ⟨R, 3, none⟩ v3).setCell ⟨R, 4, none⟩ v4).setCell ⟨R, 5, none⟩ v5).setCell ⟨R, 6, none⟩ v6).setCell ⟨R, 7, none⟩ v7).setCell ⟨R, 8, none⟩ v8).setCell ⟨R, 9, none⟩ v9).setCell ⟨R, 10, none⟩ v10).setCell ⟨R, 11, none⟩ v11).setCell ⟨R, 12, none⟩ v12
set_option maxHeartbeats 4000000 in
theorem Bk.put13 {W : World} {R : Nat} {T : TypeId} (h : Bk W R T zeroMb) (v0 v1 v2 v3 v4 v5 v6 v7 v8 v9 v10 v11 v12 : Value) : Bk (put13 W R v0 v1 v2 v3 v4 v5 v6 v7 v8 v9 v10 v11 v12) R T #[v0, v1, v2, v3, v4, v5, v6, v7, v8, v9, v10, v11, v12] := by
  unfold zeroMb at h
  have h := h.set 0 v0
  simp only [List.setIfInBounds_toArray, List.set_cons_zero] at h
  have h := h.set 1 v1
  simp only [List.setIfInBounds_toArray, List.set_cons_zero, List.set_cons_succ] at h
  have h := h.set 2 v2
  simp only [List.setIfInBounds_toArray, List.set_cons_zero, List.set_cons_succ] at h
  have h := h.set 3 v3
  simp only [List.setIfInBounds_toArray, List.set_cons_zero, List.set_cons_succ] at h
  have h := h.set 4 v4
  simp only [List.setIfInBounds_toArray, List.set_cons_zero, List.set_cons_succ] at h
  have h := h.set 5 v5
  simp only [List.setIfInBounds_toArray, List.set_cons_zero, List.set_cons_succ] at h
  have h := h.set 6 v6
  simp only [List.setIfInBounds_toArray, List.set_cons_zero, List.set_cons_succ] at h
  have h := h.set 7 v7
  simp only [List.setIfInBounds_toArray, List.set_cons_zero, List.set_cons_succ] at h
  have h := h.set 8 v8
  simp only [List.setIfInBounds_toArray, List.set_cons_zero, List.set_cons_succ] at h
  have h := h.set 9 v9
  simp only [List.setIfInBounds_toArray, List.set_cons_zero, List.set_cons_succ] at h
  have h := h.set 10 v10
  simp only [List.setIfInBounds_toArray, List.set_cons_zero, List.set_cons_succ] at h
  have h := h.set 11 v11
  simp only [List.setIfInBounds_toArray, List.set_cons_zero, List.set_cons_succ] at h
  have h := h.set 12 v12
  simp only [List.setIfInBounds_toArray, List.set_cons_zero, List.set_cons_succ] at h
  exact h
theorem below_put13 {W0 W : World} {B R : Nat} (h : Below B W0 W) (hR : B ≤ R) (v0 v1 v2 v3 v4 v5 v6 v7 v8 v9 v10 v11 v12 : Value) : Below B W0 (put13 W R v0 v1 v2 v3 v4 v5 v6 v7 v8 v9 v10 v11 v12) :=
  ((((((((((((h.setCell (p := ⟨R, 0, none⟩) hR v0).setCell (p := ⟨R, 1, none⟩) hR v1).setCell (p := ⟨R, 2, none⟩) hR v2).setCell (p := ⟨R, 3, none⟩) hR v3).setCell (p := ⟨R, 4, none⟩) hR v4).setCell (p := ⟨R, 5, none⟩) hR v5).setCell (p := ⟨R, 6, none⟩) hR v6).setCell (p := ⟨R, 7, none⟩) hR v7).setCell (p := ⟨R, 8, none⟩) hR v8).setCell (p := ⟨R, 9, none⟩) hR v9).setCell (p := ⟨R, 10, none⟩) hR v10).setCell (p := ⟨R, 11, none⟩) hR v11).setCell (p := ⟨R, 12, none⟩) hR v12
set_option maxRecDepth 100000 in
set_option maxHeartbeats 8000000 in
theorem layBits_any (f : FdOf ShT) (en unit : Int) (pk : Bool) (w : World) (he0 : 0 ≤ en) (he1 : en ≤ 1073741824) (hu0 : 8 ≤ unit) (hu1 : unit ≤ 64) (hb0 : 0 ≤ f.bits) (hb1 : f.bits ≤ 64) :
    Calls Try.prog 86 #[f.v, .int .i64 en, .int .i64 unit, .bool pk] w fun e w' => e = .returned (mbV f (layB f en unit pk)) ∧ Below w.heap.size w w' := by
  have HU := veil (fun W => up_any en unit W he0 (by omega) (by omega) (by omega))
  unfold mbV mbC layB FdOf.v FdOf.cs
  simp only
  have hz : ¬ unit = 0 := by omega
  generalize f.t.sh = a1
  generalize f.t.k = a2
  generalize f.t.n = a3
  generalize f.t.op = a4
  generalize f.t.of.length = a4l
  generalize f.t.oc = a4c
  generalize f.t.fp = a5
  generalize f.t.fs.length = a5l
  generalize f.t.fc = a5c
  generalize f.t.pk = a6
  generalize f.t.al = a7
  generalize f.bits = bi at *
  generalize f.nm = nm
  generalize upM en unit = UP at *
  obtain ⟨AL, HAL⟩ : ∃ AL, Hid ((if !nm.isEmpty && !pk then unit / 8 else 1) = AL) := ⟨_, rfl⟩
  rw [unveil HAL]
  obtain ⟨UU, HUU⟩ : ∃ UU, Hid ((bi == 0 || (en / unit != (en + bi - 1).tdiv unit) && !pk) = UU) := ⟨_, rfl⟩
  rw [unveil HUU]
  obtain ⟨BI, HBI⟩ : ∃ BI, Hid ((if UU then UP else en) = BI) := ⟨_, rfl⟩
  rw [unveil HBI]
  obtain ⟨CR, HCR⟩ : ∃ CR, Hid ((en / unit != (en + bi - 1).tdiv unit) = CR) := ⟨_, rfl⟩
  rw [unveil HCR] at HUU
  go_enter Try.func86, Try.ntmps86
  go_upto_region 2 with fail
  have HL : Hid (LyS w (((w.alloc (.cells #[.string ⟨nm.toArray⟩, .int .i64 a1, .int .i64 a2, .int .i64 a3, .slice a4 a4l a4c, .slice a5 a5l a5c, .bool a6, .int .i64 a7, .int .i64 bi] 45)).alloc (.cells #[.string ⟨#[]⟩, .int .i64 0, .int .i64 0, .int .i64 0, .slice none 0 0, .slice none 0 0, .bool false, .int .i64 0, .int .i64 0, .int .i64 0, .int .i64 0, .int .i64 0, .int .i64 0] 77)).alloc (.cells #[.string ⟨nm.toArray⟩, .int .i64 a1, .int .i64 a2, .int .i64 a3, .slice a4 a4l a4c, .slice a5 a5l a5c, .bool a6, .int .i64 a7, .int .i64 bi, .int .i64 en, .int .i64 bi, .int .i64 a2, .int .i64 1] 77)) #[.string ⟨nm.toArray⟩, .int .i64 a1, .int .i64 a2, .int .i64 a3, .slice a4 a4l a4c, .slice a5 a5l a5c, .bool a6, .int .i64 a7, .int .i64 bi] #[.string ⟨nm.toArray⟩, .int .i64 a1, .int .i64 a2, .int .i64 a3, .slice a4 a4l a4c, .slice a5 a5l a5c, .bool a6, .int .i64 a7, .int .i64 bi, .int .i64 en, .int .i64 bi, .int .i64 a2, .int .i64 1]) := LyS.new w _ _
  generalize (((w.alloc (.cells #[.string ⟨nm.toArray⟩, .int .i64 a1, .int .i64 a2, .int .i64 a3, .slice a4 a4l a4c, .slice a5 a5l a5c, .bool a6, .int .i64 a7, .int .i64 bi] 45)).alloc (.cells #[.string ⟨#[]⟩, .int .i64 0, .int .i64 0, .int .i64 0, .slice none 0 0, .slice none 0 0, .bool false, .int .i64 0, .int .i64 0, .int .i64 0, .int .i64 0, .int .i64 0, .int .i64 0] 77)).alloc (.cells #[.string ⟨nm.toArray⟩, .int .i64 a1, .int .i64 a2, .int .i64 a3, .slice a4 a4l a4c, .slice a5 a5l a5c, .bool a6, .int .i64 a7, .int .i64 bi, .int .i64 en, .int .i64 bi, .int .i64 a2, .int .i64 1] 77)) = W0 at HL ⊢
  obtain ⟨c0, c1, c2, c3, c4, c5, c6, c7, c8⟩ := (unveil HL).f.nine
  obtain ⟨m0, m1, m2, m3, m4, m5, m6, m7, m8, m9, m10, m11, m12⟩ := (unveil HL).m.thirteen
  obtain ⟨g0, g1, g2, g3, g4, g5, g6, g7, g8, g9, g10, g11, g12⟩ := (unveil HL).m.froz13
  have hl0 := (unveil HL).f.lt
  have hl1 := (unveil HL).z.lt
  have hl2 := (unveil HL).m.lt
  obtain ⟨NN, HNN⟩ : ∃ NN, Hid ((!nm.isEmpty && !pk) = NN) := ⟨_, rfl⟩
  go_cut [26] (fun c wx => c = .bool NN ∧ wx = W0)
  case first =>
    cases hn : nm.isEmpty
    · cases pk
      all_goals
        go_wp2_with fail
        go_meet
        case rel => exact ⟨by rw [← unveil HNN, hn]; rfl, rfl⟩
    · go_wp2_with fail
      go_meet
      case rel => exact ⟨by rw [← unveil HNN, hn]; rfl, rfl⟩
  case rest =>
  obtain ⟨rfl, rfl⟩ := hcut
  rw [unveil HNN] at HAL
  go_upto_if 26 with fail
  go_cut [] (fun wx => Hid (LyS w wx #[.string ⟨nm.toArray⟩, .int .i64 a1, .int .i64 a2, .int .i64 a3, .slice a4 a4l a4c, .slice a5 a5l a5c, .bool a6, .int .i64 a7, .int .i64 bi] #[.string ⟨nm.toArray⟩, .int .i64 a1, .int .i64 a2, .int .i64 a3, .slice a4 a4l a4c, .slice a5 a5l a5c, .bool a6, .int .i64 a7, .int .i64 bi, .int .i64 en, .int .i64 bi, .int .i64 a2, .int .i64 AL]))
  case first =>
    cases NN
    · go_wp2_with fail
      go_meet
      case rel =>
        have e := unveil HAL
        simp only [Bool.false_eq_true, if_false] at e
        rw [← e]
        exact unveil HL
    · go_wp2_with fail
      go_meet
      case rel =>
        have e := unveil HAL
        simp only [if_true] at e
        rw [← e]
        have hs := (unveil HL).set 12 (.int .i64 (unit / 8))
        simp only [List.setIfInBounds_toArray, List.set_cons_zero, List.set_cons_succ] at hs
        exact hs
  case rest =>
    rename World => W1
    clear HL c0 c1 c2 c3 c4 c5 c6 c7 c8 m0 m1 m2 m3 m4 m5 m6 m7 m8 m9 m10 m11 m12 g0 g1 g2 g3 g4 g5 g6 g7 g8 g9 g10 g11 g12 hl0 hl1 hl2
    have HL := hcut
    clear hcut HAL
    obtain ⟨c0, c1, c2, c3, c4, c5, c6, c7, c8⟩ := (unveil HL).f.nine
    obtain ⟨m0, m1, m2, m3, m4, m5, m6, m7, m8, m9, m10, m11, m12⟩ := (unveil HL).m.thirteen
    obtain ⟨g0, g1, g2, g3, g4, g5, g6, g7, g8, g9, g10, g11, g12⟩ := (unveil HL).m.froz13
    have hl0 := (unveil HL).f.lt
    have hl1 := (unveil HL).z.lt
    have hl2 := (unveil HL).m.lt
    go_upto_region 4 with fail
    go_cut [10] (fun c wx => c = .bool CR ∧ Hid (LyS w wx #[.string ⟨nm.toArray⟩, .int .i64 a1, .int .i64 a2, .int .i64 a3, .slice a4 a4l a4c, .slice a5 a5l a5c, .bool a6, .int .i64 a7, .int .i64 bi] #[.string ⟨nm.toArray⟩, .int .i64 a1, .int .i64 a2, .int .i64 a3, .slice a4 a4l a4c, .slice a5 a5l a5c, .bool a6, .int .i64 a7, .int .i64 bi, .int .i64 en, .int .i64 bi, .int .i64 a2, .int .i64 AL]))
    case first =>
      go_quiet (fail)
      go_wp2_with fail
      go_meet
      case rel => exact ⟨by rw [← unveil HCR], (unveil HL).drewN _⟩
    case rest =>
      obtain ⟨rfl, HL2⟩ := hcut
      clear HL HCR c0 c1 c2 c3 c4 c5 c6 c7 c8 m0 m1 m2 m3 m4 m5 m6 m7 m8 m9 m10 m11 m12 g0 g1 g2 g3 g4 g5 g6 g7 g8 g9 g10 g11 g12 hl0 hl1 hl2
      have HL := HL2
      clear HL2
      obtain ⟨c0, c1, c2, c3, c4, c5, c6, c7, c8⟩ := (unveil HL).f.nine
      obtain ⟨m0, m1, m2, m3, m4, m5, m6, m7, m8, m9, m10, m11, m12⟩ := (unveil HL).m.thirteen
      obtain ⟨g0, g1, g2, g3, g4, g5, g6, g7, g8, g9, g10, g11, g12⟩ := (unveil HL).m.froz13
      have hl0 := (unveil HL).f.lt
      have hl1 := (unveil HL).z.lt
      have hl2 := (unveil HL).m.lt
      go_upto_region 5 with fail
      go_cut [51] (fun c wx => c = .bool UU ∧ Hid (LyS w wx #[.string ⟨nm.toArray⟩, .int .i64 a1, .int .i64 a2, .int .i64 a3, .slice a4 a4l a4c, .slice a5 a5l a5c, .bool a6, .int .i64 a7, .int .i64 bi] #[.string ⟨nm.toArray⟩, .int .i64 a1, .int .i64 a2, .int .i64 a3, .slice a4 a4l a4c, .slice a5 a5l a5c, .bool a6, .int .i64 a7, .int .i64 bi, .int .i64 en, .int .i64 bi, .int .i64 a2, .int .i64 AL]))
      case first =>
        cases hq : bi == 0
        · cases CR
          · go_wp2_with fail
            go_meet
            case rel => exact ⟨by rw [← unveil HUU, hq]; rfl, HL⟩
          · go_wp2_with fail
            go_meet
            case rel => exact ⟨by rw [← unveil HUU, hq]; cases pk <;> rfl, HL⟩
        · go_wp2_with fail
          go_meet
          case rel => exact ⟨by rw [← unveil HUU, hq]; rfl, HL⟩
      case rest =>
        obtain ⟨rfl, HL2⟩ := hcut
        clear HL HUU c0 c1 c2 c3 c4 c5 c6 c7 c8 m0 m1 m2 m3 m4 m5 m6 m7 m8 m9 m10 m11 m12 g0 g1 g2 g3 g4 g5 g6 g7 g8 g9 g10 g11 g12 hl0 hl1 hl2
        have HL := HL2
        clear HL2
        obtain ⟨c0, c1, c2, c3, c4, c5, c6, c7, c8⟩ := (unveil HL).f.nine
        obtain ⟨m0, m1, m2, m3, m4, m5, m6, m7, m8, m9, m10, m11, m12⟩ := (unveil HL).m.thirteen
        obtain ⟨g0, g1, g2, g3, g4, g5, g6, g7, g8, g9, g10, g11, g12⟩ := (unveil HL).m.froz13
        have hl0 := (unveil HL).f.lt
        have hl1 := (unveil HL).z.lt
        have hl2 := (unveil HL).m.lt
        go_upto_if 51 with fail
        go_cut [] (fun wx => Hid (LyS w wx #[.string ⟨nm.toArray⟩, .int .i64 a1, .int .i64 a2, .int .i64 a3, .slice a4 a4l a4c, .slice a5 a5l a5c, .bool a6, .int .i64 a7, .int .i64 bi] #[.string ⟨nm.toArray⟩, .int .i64 a1, .int .i64 a2, .int .i64 a3, .slice a4 a4l a4c, .slice a5 a5l a5c, .bool a6, .int .i64 a7, .int .i64 bi, .int .i64 BI, .int .i64 bi, .int .i64 a2, .int .i64 AL]))
        case first =>
          cases UU
          · go_wp2_with fail
            go_meet
            case rel =>
              have e := unveil HBI
              simp only [Bool.false_eq_true, if_false] at e
              rw [← e]
              exact HL
          · go_wp2_with (go_at_call 87; refine (unveil HU _).mono ?_; rintro e w' ⟨rfl, hw'⟩; obtain rfl := hw'.symm)
            go_meet
            case rel =>
              have e := unveil HBI
              simp only [if_true] at e
              rw [← e]
              have hs := (unveil HL).set 9 (.int .i64 UP)
              simp only [List.setIfInBounds_toArray, List.set_cons_zero, List.set_cons_succ] at hs
              exact hs
        case rest =>
          clear HL c0 c1 c2 c3 c4 c5 c6 c7 c8 m0 m1 m2 m3 m4 m5 m6 m7 m8 m9 m10 m11 m12 g0 g1 g2 g3 g4 g5 g6 g7 g8 g9 g10 g11 g12 hl0 hl1 hl2
          have HL := hcut
          clear hcut
          obtain ⟨c0, c1, c2, c3, c4, c5, c6, c7, c8⟩ := (unveil HL).f.nine
          obtain ⟨m0, m1, m2, m3, m4, m5, m6, m7, m8, m9, m10, m11, m12⟩ := (unveil HL).m.thirteen
          obtain ⟨g0, g1, g2, g3, g4, g5, g6, g7, g8, g9, g10, g11, g12⟩ := (unveil HL).m.froz13
          have hl0 := (unveil HL).f.lt
          have hl1 := (unveil HL).z.lt
          have hl2 := (unveil HL).m.lt
          obtain ⟨z0, z1, z2, z3, z4, z5, z6, z7, z8, z9, z10, z11, z12⟩ := (unveil HL).z.thirteen
          obtain ⟨y0, y1, y2, y3, y4, y5, y6, y7, y8, y9, y10, y11, y12⟩ := (unveil HL).z.froz13
          go_wp2_with fail
          exact bodyPost_ret (res_m (f := Try.f86) rfl rfl ((unveil HL).z.put13 _ _ _ _ _ _ _ _ _ _ _ _ _) rfl) rfl ⟨rfl, below_put13 (unveil HL).be (by omega) _ _ _ _ _ _ _ _ _ _ _ _ _⟩
end Go.Proofs.Ytkiebejidpebdaa
namespace Go.Proofs.Ytkiebejidpebdaa
open Go Go.RowKit
set_option linter.unusedVariables false
set_option linter.unusedSimpArgs false

theorem hmixW : Try.prog.follows .mixedOrders = true := by kernel_rfl
def layM (e : Int × Int) (f : FdOf ShT) (en : Int) (pk : Bool) : Mb :=
  if 0 ≤ f.bits then layB f en (8 * e.1) pk else ⟨upM en (8 * (if pk then 1 else e.2)), 8 * e.1, f.t.k, if pk then 1 else e.2⟩
def extV (e : Int × Int) : Value := .agg #[.int .i64 e.1, .int .i64 e.2]
theorem Bk.two {W : World} {b : Nat} {T : TypeId} {v0 v1 : Value} (h : Bk W b T #[v0, v1]) : W.cell? ⟨b, 0, none⟩ = some v0 ∧ W.cell? ⟨b, 1, none⟩ = some v1 := ⟨h.cell 0, h.cell 1⟩
theorem below_new2 (w : World) (o o' : Obj) : Below w.heap.size w ((w.alloc o).alloc o') := ((Below.refl _ w).alloc (Nat.le_refl _) o).alloc (by simp) o'
/-- The three blocks of lay: the member's, the answer's, the extent's. -/
structure LaS (w W : World) (E : Nat) (F X : Array Value) : Prop where
  f : Bk W w.heap.size 45 F
  z : Bk W (w.heap.size + 1) 77 zeroMb
  e : Bk W E 68 X
  be : Below w.heap.size w W
  lt : w.heap.size + 2 ≤ E
theorem LaS.set {w W : World} {E : Nat} {F X : Array Value} (h : LaS w W E F X) (i : Nat) (v : Value) : LaS w (W.setCell ⟨E, i, none⟩ v) E F (X.setIfInBounds i v) :=
  ⟨h.f.other _ _ (by have := h.lt; omega), h.z.other _ _ (by have := h.lt; omega), h.e.set i v, h.be.setCell (p := ⟨E, i, none⟩) (by have := h.lt; show w.heap.size ≤ E; omega) v, h.lt⟩
theorem LaS.drew {w W : World} {E : Nat} {F X : Array Value} (h : LaS w W E F X) : LaS w W.drew E F X := ⟨h.f, h.z, h.e, h.be.drew, h.lt⟩
set_option maxRecDepth 100000 in
set_option maxHeartbeats 40000000 in
theorem lay_any (f : FdOf ShT) (en : Int) (pk : Bool) (e : Int × Int) (w : World) (he0 : 0 ≤ en) (he1 : en ≤ 1073741824) (hz0 : 0 ≤ e.1) (hz1 : e.1 ≤ 65537) (ha0 : 1 ≤ e.2) (ha1 : e.2 ≤ 64)
    (hb : 0 ≤ f.bits → 1 ≤ e.1 ∧ e.1 ≤ 8 ∧ f.bits ≤ 8 * e.1)
    (HM0 : ∀ W, Below w.heap.size w W → Calls Try.prog 64 #[f.t.v] W fun r w' => r = .returned (extV e) ∧ Below W.heap.size W w') :
    Calls Try.prog 71 #[f.v, .int .i64 en, .bool pk] w fun r w' => r = .returned (mbV f (layM e f en pk)) ∧ Below w.heap.size w w' := by
  obtain ⟨z, a⟩ := e
  simp only at hz0 hz1 ha0 ha1 hb
  have HM : Hid (∀ o o', Calls Try.prog 64 #[f.t.v] ((w.alloc o).alloc o') fun r w' => r = .returned (extV (z, a)) ∧ Below ((w.alloc o).alloc o').heap.size ((w.alloc o).alloc o') w') := fun o o' => HM0 _ (below_new2 w o o')
  clear HM0
  unfold layM
  have HX : Hid (∀ w1, Below ((w.alloc (.cells f.cs 45)).alloc (.cells zeroMb 77)).heap.size ((w.alloc (.cells f.cs 45)).alloc (.cells zeroMb 77)) w1 →
      LaS w (w1.alloc (.cells #[.int .i64 z, .int .i64 a] 68)) w1.heap.size f.cs #[.int .i64 z, .int .i64 a]) := fun w1 h => by
    have hs := h.size
    simp only [World.size_alloc] at hs
    have h1 := Bk.new (w.alloc (.cells f.cs 45)) 77 zeroMb
    rw [World.size_alloc] at h1
    exact ⟨(((Bk.new w _ _).alloc _).below h).alloc _, (h1.below h).alloc _, Bk.new w1 _ _, ((below_new2 w _ _).trans (h.mono (by simp; omega))).alloc (by omega) _, by omega⟩
  by_cases hbi : 0 ≤ f.bits
  · obtain ⟨q1, q2, q3⟩ := hb hbi
    have HB := veil (fun W => layBits_any f en (8 * z) pk W he0 he1 (by omega) (by omega) hbi (by omega))
    simp only [if_pos hbi]
    generalize layB f en (8 * z) pk = R at *
    obtain ⟨r1, r2, r3, r4⟩ := R
    unfold mbV mbC FdOf.v FdOf.cs extV zeroMb ShT.v ShT.cs at *
    simp only at *
    generalize f.t.sh = a1 at *
    generalize f.t.k = a2 at *
    generalize f.t.n = a3 at *
    generalize f.t.op = a4 at *
    generalize f.t.of.length = a4l at *
    generalize f.t.oc = a4c at *
    generalize f.t.fp = a5 at *
    generalize f.t.fs.length = a5l at *
    generalize f.t.fc = a5c at *
    generalize f.t.pk = a6 at *
    generalize f.t.al = a7 at *
    generalize f.bits = bi at *
    generalize f.nm = nm at *
    have hge : bi ≥ 0 := hbi
    go_enter Try.func71, Try.ntmps71
    go_upto_region 2 with (go_at_call 64; refine (unveil HM _ _).mono ?_; rintro r w1 ⟨rfl, hb1⟩)
    have HL := veil (unveil HX w1 hb1)
    have HE : Hid (w1.heap.size = w1.heap.size) := rfl
    generalize w1.alloc (.cells #[.int .i64 z, .int .i64 a] 68) = W0 at HL ⊢
    generalize w1.heap.size = E at *
    clear hb1 HM HX
    obtain ⟨c0, c1, c2, c3, c4, c5, c6, c7, c8⟩ := (unveil HL).f.nine
    obtain ⟨x0, x1⟩ := (unveil HL).e.two
    have hl0 := (unveil HL).f.lt
    have hl1 := (unveil HL).z.lt
    go_wp2_with (go_at_call 86; refine (unveil HB _).mono ?_; rintro r w' ⟨rfl, hw'⟩; have zz := (unveil HL).z.below hw'; obtain ⟨z0, z1, z2, z3, z4, z5, z6, z7, z8, z9, z10, z11, z12⟩ := zz.thirteen; obtain ⟨y0, y1, y2, y3, y4, y5, y6, y7, y8, y9, y10, y11, y12⟩ := zz.froz13; have hl3 := zz.lt)
    exact bodyPost_ret (res_m (f := Try.f71) rfl rfl (zz.put13 _ _ _ _ _ _ _ _ _ _ _ _ _) rfl) rfl ⟨rfl, below_put13 ((unveil HL).be.trans (hw'.mono (unveil HL).be.size)) (by omega) _ _ _ _ _ _ _ _ _ _ _ _ _⟩
  · have hlt : f.bits < 0 := by omega
    obtain ⟨AA, HAA⟩ : ∃ AA, Hid ((if pk then 1 else a) = AA) := ⟨_, rfl⟩
    simp only [if_neg hbi]
    rw [unveil HAA]
    have hA1 : 1 ≤ AA ∧ AA ≤ 64 := by have := unveil HAA; cases pk <;> simp at this <;> omega
    obtain ⟨hA1, hA2⟩ := hA1
    have HU := veil (fun W => up_any en (8 * AA) W he0 (by omega) (by omega) (by omega))
    generalize upM en (8 * AA) = UP at *
    unfold mbV mbC FdOf.v FdOf.cs extV zeroMb ShT.v ShT.cs at *
    simp only at *
    generalize f.t.sh = a1 at *
    generalize f.t.k = a2 at *
    generalize f.t.n = a3 at *
    generalize f.t.op = a4 at *
    generalize f.t.of.length = a4l at *
    generalize f.t.oc = a4c at *
    generalize f.t.fp = a5 at *
    generalize f.t.fs.length = a5l at *
    generalize f.t.fc = a5c at *
    generalize f.t.pk = a6 at *
    generalize f.t.al = a7 at *
    generalize f.bits = bi at *
    generalize f.nm = nm at *
    clear hb
    have hge : ¬ bi ≥ 0 := hbi
    go_enter Try.func71, Try.ntmps71
    go_upto_region 2 with (go_at_call 64; refine (unveil HM _ _).mono ?_; rintro r w1 ⟨rfl, hb1⟩)
    have HL := veil (unveil HX w1 hb1)
    generalize w1.alloc (.cells #[.int .i64 z, .int .i64 a] 68) = W0 at HL ⊢
    generalize w1.heap.size = E at *
    clear hb1 HM HX
    obtain ⟨c0, c1, c2, c3, c4, c5, c6, c7, c8⟩ := (unveil HL).f.nine
    obtain ⟨x0, x1⟩ := (unveil HL).e.two
    have x0f := (unveil HL).e.frozen 0
    have x1f := (unveil HL).e.frozen 1
    have hl0 := (unveil HL).f.lt
    have hl1 := (unveil HL).z.lt
    go_upto_if 21 with fail
    go_cut [] (fun wx => Hid (LaS w wx E #[.string ⟨nm.toArray⟩, .int .i64 a1, .int .i64 a2, .int .i64 a3, .slice a4 a4l a4c, .slice a5 a5l a5c, .bool a6, .int .i64 a7, .int .i64 bi] #[.int .i64 z, .int .i64 AA]))
    case first =>
      cases pk
      · go_wp2_with fail
        go_meet
        case rel =>
          have e := unveil HAA
          simp only [Bool.false_eq_true, if_false] at e
          rw [← e]
          exact HL
      · go_wp2_with fail
        go_meet
        case rel =>
          have e := unveil HAA
          simp only [if_true] at e
          rw [← e]
          have hs := (unveil HL).set 1 (.int .i64 1)
          simp only [List.setIfInBounds_toArray, List.set_cons_zero, List.set_cons_succ] at hs
          exact hs
    case rest =>
      clear HL HAA c0 c1 c2 c3 c4 c5 c6 c7 c8 x0 x1 x0f x1f hl0 hl1
      have HL := hcut
      clear hcut
      go_upto_region 6 with fail
      have hw8 : IntKind.i64.wrap (8 * AA) = 8 * AA := by rw [IntKind.wrap_i64]; omega
      have hw9 : IntKind.i64.wrap (8 * z) = 8 * z := by rw [IntKind.wrap_i64]; omega
      refine wp_region_noPanic (wpIn_wide.1 (wpIn_region_mix (ro := none) (n := 0) (fun w' => Hid (LaS w w' E #[.string ⟨nm.toArray⟩, .int .i64 a1, .int .i64 a2, .int .i64 a3, .slice a4 a4l a4c, .slice a5 a5l a5c, .bool a6, .int .i64 a7, .int .i64 bi] #[.int .i64 z, .int .i64 AA]))
        [(0, true), (1, true), (2, true), (3, true), (4, true), (6, true), (7, true), (8, true), (9, true), (10, true), (11, true), (13, true), (14, true), (5, false), (12, true), (15, true)]
        16 hmixW (by kernel_rfl) (by kernel_rfl) (by kernel_rfl) (by kernel_rfl) (by kernel_rfl) (by kernel_rfl) (fun _ _ _ _ h => h) (unveil HL).drew ?_))
      have HS1 := veil (unveil HL).drew
      refine mix_pure _ rfl _ (.inl ⟨rfl, fun W hS => (by obtain ⟨c0, c1, c2, c3, c4, c5, c6, c7, c8⟩ := (unveil hS).f.nine; go_simp; rfl)⟩) (fun B hB => ?_); simp only [Act.put, List.setIfInBounds_toArray, List.set_cons_zero, List.set_cons_succ] at hB; subst hB
      refine mix_pure _ rfl _ (.inl ⟨rfl, fun W hS => (by go_simp; rfl)⟩) (fun B hB => ?_); simp only [Act.put, List.setIfInBounds_toArray, List.set_cons_zero, List.set_cons_succ] at hB; subst hB
      refine mix_pure _ rfl _ (.inl ⟨rfl, fun W hS => (by go_simp; rfl)⟩) (fun B hB => ?_); simp only [Act.put, List.setIfInBounds_toArray, List.set_cons_zero, List.set_cons_succ] at hB; subst hB
      refine mix_pure _ rfl _ (.inl ⟨rfl, fun W hS => (by obtain ⟨x0, x1⟩ := (unveil hS).e.two; go_simp; rfl)⟩) (fun B hB => ?_); simp only [Act.put, List.setIfInBounds_toArray, List.set_cons_zero, List.set_cons_succ] at hB; subst hB
      refine mix_pure _ rfl (.int .i64 (8 * AA)) (.inl ⟨rfl, fun W hS => (by go_simp; first | done | rw [hw8])⟩) (fun B hB => ?_); simp only [Act.put, List.setIfInBounds_toArray, List.set_cons_zero, List.set_cons_succ] at hB; subst hB
      refine mix_pure _ rfl _ (.inl ⟨rfl, fun W hS => (by go_simp; rfl)⟩) (fun B hB => ?_); simp only [Act.put, List.setIfInBounds_toArray, List.set_cons_zero, List.set_cons_succ] at hB; subst hB
      refine mix_pure _ rfl _ (.inl ⟨rfl, fun W hS => (by obtain ⟨x0, x1⟩ := (unveil hS).e.two; go_simp; rfl)⟩) (fun B hB => ?_); simp only [Act.put, List.setIfInBounds_toArray, List.set_cons_zero, List.set_cons_succ] at hB; subst hB
      refine mix_pure _ rfl (.int .i64 (8 * z)) (.inl ⟨rfl, fun W hS => (by go_simp; first | done | rw [hw9])⟩) (fun B hB => ?_); simp only [Act.put, List.setIfInBounds_toArray, List.set_cons_zero, List.set_cons_succ] at hB; subst hB
      refine mix_pure _ rfl _ (.inl ⟨rfl, fun W hS => (by go_simp; rfl)⟩) (fun B hB => ?_); simp only [Act.put, List.setIfInBounds_toArray, List.set_cons_zero, List.set_cons_succ] at hB; subst hB
      refine mix_pure _ rfl _ (.inl ⟨rfl, fun W hS => (by go_simp; rfl)⟩) (fun B hB => ?_); simp only [Act.put, List.setIfInBounds_toArray, List.set_cons_zero, List.set_cons_succ] at hB; subst hB
      refine mix_pure _ rfl _ (.inl ⟨rfl, fun W hS => (by have c2 := (unveil hS).f.cell 2; simp only [List.getElem?_toArray, List.getElem?_cons_succ, List.getElem?_cons_zero] at c2; go_simp; rfl)⟩) (fun B hB => ?_); simp only [Act.put, List.setIfInBounds_toArray, List.set_cons_zero, List.set_cons_succ] at hB; subst hB
      refine mix_pure _ rfl _ (.inl ⟨rfl, fun W hS => (by go_simp; rfl)⟩) (fun B hB => ?_); simp only [Act.put, List.setIfInBounds_toArray, List.set_cons_zero, List.set_cons_succ] at hB; subst hB
      refine mix_pure _ rfl _ (.inl ⟨rfl, fun W hS => (by obtain ⟨x0, x1⟩ := (unveil hS).e.two; go_simp; rfl)⟩) (fun B hB => ?_); simp only [Act.put, List.setIfInBounds_toArray, List.set_cons_zero, List.set_cons_succ] at hB; subst hB
      refine mix_sole _ rfl (fun K hK => ?_)
      go_simp
      refine ⟨trivial, rfl, (callsIn_wide.2 (unveil HU _)).mono ?_⟩
      rintro e W1 ⟨rfl, hb⟩
      obtain rfl := hb.symm
      refine hK _ _ HS1 ?_
      clear hK K hb
      refine mix_pure _ rfl _ (.inl ⟨rfl, fun W hS => (by go_simp; rfl)⟩) (fun B hB => ?_); simp only [Act.put, List.setIfInBounds_toArray, List.set_cons_zero, List.set_cons_succ] at hB; subst hB
      refine mix_pure _ rfl _ (.inl ⟨rfl, fun W hS => (by go_simp; rfl)⟩) (fun B hB => ?_); simp only [Act.put, List.setIfInBounds_toArray, List.set_cons_zero, List.set_cons_succ] at hB; subst hB
      refine mix_nil ?_
      generalize World.drew _ = Wd at HS1 ⊢
      have zz := (unveil HS1).z
      obtain ⟨z0, z1, z2, z3, z4, z5, z6, z7, z8, z9, z10, z11, z12⟩ := zz.thirteen
      obtain ⟨y0, y1, y2, y3, y4, y5, y6, y7, y8, y9, y10, y11, y12⟩ := zz.froz13
      refine listIn_last rfl (fun K hK => ?_)
      go_simp
      refine hK _ _ ?_
      clear hK K
      go_wp2_with fail
      exact bodyPost_ret (res_m (f := Try.f71) rfl rfl (zz.put13 _ _ _ _ _ _ _ _ _ _ _ _ _) rfl) rfl ⟨rfl, below_put13 (unveil HS1).be (by omega) _ _ _ _ _ _ _ _ _ _ _ _ _⟩
end Go.Proofs.Ytkiebejidpebdaa
namespace Go.Proofs.Ytkiebejidpebdaa
open Go Go.RowKit Go.Shelf
attribute [local go_sem] Oper.semAt_some
set_option linter.unusedVariables false
set_option linter.unusedSimpArgs false

/-- What is asked of a member, and of what its type takes. -/
def FOk (f : FdOf ShT) (e : Int × Int) : Prop := 0 ≤ e.1 ∧ e.1 ≤ 65537 ∧ 1 ≤ e.2 ∧ e.2 ≤ 64 ∧ (0 ≤ f.bits → 1 ≤ e.1 ∧ e.1 ≤ 8 ∧ f.bits ≤ 8 * e.1)
theorem lay_bound {f : FdOf ShT} {e : Int × Int} (h : FOk f e) {en : Int} (h0 : 0 ≤ en) (pk : Bool) :
    en ≤ (layM e f en pk).bit ∧ (layM e f en pk).bit ≤ en + 511 ∧ 0 ≤ (layM e f en pk).bits ∧ (layM e f en pk).bits ≤ 524296 ∧ 1 ≤ (layM e f en pk).al ∧ (layM e f en pk).al ≤ 64 := by
  obtain ⟨h1, h2, h3, h4, h5⟩ := h
  unfold layM
  by_cases hb : 0 ≤ f.bits
  · obtain ⟨q1, q2, q3⟩ := h5 hb
    rw [if_pos hb]
    have hu := upM_le (n := en) (m := 8 * e.1) h0 (by omega)
    unfold layB
    simp only
    refine ⟨by split <;> omega, by split <;> omega, hb, by omega, by split <;> omega, by split <;> omega⟩
  · rw [if_neg hb]
    simp only
    have hu := upM_le (n := en) (m := 8 * (if pk then 1 else e.2)) h0 (by split <;> omega)
    refine ⟨hu.1, ?_, by omega, by omega, by split <;> omega, by split <;> omega⟩
    have := hu.2.1
    split at this <;> simp_all <;> omega
def mlM (meas : ShT → Int × Int) (pk st : Bool) : Int → List (FdOf ShT) → List (FdOf ShT × Mb)
  | _, [] => []
  | en, f :: r => (f, layM (meas f.t) f en pk) :: mlM meas pk st (if st then (layM (meas f.t) f en pk).bit + (layM (meas f.t) f en pk).bits else en) r
def ShT.ml (meas : ShT → Int × Int) (t : ShT) : List (FdOf ShT × Mb) := mlM meas t.pk (t.sh == 4) 0 t.fs
def encM (x : FdOf ShT × Mb) : Array Value := #[mbV x.1 x.2]
/-- What an iterator over members asks of its rounds. -/
def KpM (N0 : Nat) (A B : World) : Prop := Below N0 A B ∧ (∀ j cs, Bk A j 77 cs → Bk B j 77 cs) ∧ (∀ j cs, Bk A j 25 cs → Bk B j 25 cs)
theorem KpM.trans {N0 : Nat} {A B C : World} (h : KpM N0 A B) (k : KpM N0 B C) : KpM N0 A C := ⟨h.1.trans k.1, fun j cs b => k.2.1 j cs (h.2.1 j cs b), fun j cs b => k.2.2 j cs (h.2.2 j cs b)⟩
theorem KpM.below {N0 : Nat} {A B : World} (h : Below A.heap.size A B) (hN : N0 ≤ A.heap.size) : KpM N0 A B := ⟨h.mono hN, fun j cs b => b.below h, fun j cs b => b.below h⟩
theorem KpM.drew {N0 : Nat} (A : World) : KpM N0 A A.drew := ⟨(Below.refl _ A).drew, fun j cs b => b, fun j cs b => b⟩
theorem KpM.set {N0 : Nat} {A : World} {b i : Nat} {T : TypeId} {cs : Array Value} (hb : Bk A b T cs) (h1 : T ≠ 77) (h2 : T ≠ 25) (hN : N0 ≤ b) (v : Value) : KpM N0 A (A.setCell ⟨b, i, none⟩ v) := by
  refine ⟨(Below.refl _ A).setCell (p := ⟨b, i, none⟩) hN v, fun j cs' h => ?_, fun j cs' h => ?_⟩
  all_goals
    refine h.other _ _ (fun e => ?_)
    subst e
    unfold Bk at h hb
    rw [hb] at h
    simp at h
    first | exact h1 h.2 | exact h2 h.2
theorem KpM.put {N0 : Nat} {A : World} {l : Nat} {o : Obj} (hl : A.heap[l]? = some o) (ho : o.isCells = false) (hN : N0 ≤ l) (o' : Obj) : KpM N0 A (A.putObj l o') := by
  refine ⟨(Below.refl _ A).grown (grownBy_putObj' A l o') (by have := (Array.getElem?_eq_some_iff.1 hl).1; omega) (fun r e => by cases e; omega), fun j cs' h => ?_, fun j cs' h => ?_⟩
  all_goals
    refine (World.putObj_heap_other (fun e => ?_)).trans h
    subst e
    unfold Bk at h
    rw [hl] at h
    cases h
    cases ho
theorem members_any (t : ShT) (w : World) :
    Calls Try.prog 43 #[t.v] w fun e w' => e = .returned (.func (.func 70) #[] #[.pointer (some ⟨w.heap.size, 0, none⟩)]) ∧ w' = w.alloc (.cells t.cs 25) := by
  unfold ShT.v ShT.cs
  go_enter Try.func43, Try.ntmps43
  go_wp2
  go_ret
  exact ⟨rfl, rfl⟩
set_option maxRecDepth 100000 in
set_option maxHeartbeats 20000000 in
theorem members1_in (n : Nat) (h1 : 1 ≤ n) (lp Bd N0 : Nat) (t : ShT) (meas : ShT → Int × Int) (hfl : t.fs.length ≤ 40) (hok : ∀ f ∈ t.fs, FOk f (meas f.t))
    (hm : ∀ f ∈ t.fs, ∀ W, f.t.In W.heap.size W → Calls Try.prog 64 #[f.t.v] W fun r w' => r = .returned (extV (meas f.t)) ∧ Below W.heap.size W w')
    (J Jx : List (FdOf ShT × Mb) → World → Prop) (W : World)
    (hJ : AbidesO W.heap.size W.heap.size 0 J) (hJx : AbidesO W.heap.size W.heap.size 0 Jx)
    (hY : ∀ pre x W1, J pre W1 → W.heap.size + 0 ≤ W1.heap.size → noRow 5 W.heap.size 0 W1 → pre ++ [x] <+: t.ml meas → YieldAt Fence.wide (n - 1) Try.prog lp (encM x) W1 fun e W' =>
      (e = .returned (.bool true) ∧ J (pre ++ [x]) W' ∧ KeepsO W.heap.size 0 W1 W' ∧ KpM N0 W1 W') ∨ (e = .returned (.bool false) ∧ Jx (pre ++ [x]) W' ∧ KeepsO W.heap.size 0 W1 W'))
    (hN : N0 ≤ W.heap.size) (hb : Bk W Bd 25 t.cs) (hin : t.In N0 W) (h0 : J [] W) :
    CallsIn Fence.wide n Try.prog 70 #[.func (.yield lp) #[] #[], .pointer (some ⟨Bd, 0, none⟩)] W fun e W' => (∃ v, e = .returned v) ∧
      (J (t.ml meas) W' ∨ (∃ pre, pre <+: t.ml meas ∧ Jx pre W')) := by
  obtain ⟨c0, c1, c2, c3, c4, c5, c6⟩ := TyB.seven (t := t) hb
  have HIN := veil hin
  have HB := veil hb
  have HY := veil hY
  have HJ := veil hJ
  have HM := veil hm
  have HOK := veil hok
  clear hin hb hY hJ hm hok c0 c1 c2 c3 c5 c6
  refine callsIn_of_wp Try.func70 rfl trivial ?_ rfl
  simp only [Try.ntmps70, List.size_toArray, List.length_cons, List.length_nil, Nat.reduceAdd, Nat.reduceSub, Array.replicate_succ, Array.replicate_zero, List.push_toArray, List.append_toArray, List.nil_append, List.cons_append]
  gi_wp2
  gi_loopw [3, 10] (fun s i wr => ∃ (k : Nat) (en : Int), i = .int .i64 k ∧ s = .int .i64 en ∧ k ≤ t.fs.length ∧ 0 ≤ en ∧ en ≤ 524808 * k ∧ (∃ pre, J pre wr ∧ Hid (t.ml meas = pre ++ mlM meas t.pk (t.sh == 4) en (t.fs.drop k))) ∧ W.heap.size ≤ wr.heap.size ∧ Hid (Below N0 W wr) ∧ Hid (Bk wr Bd 25 t.cs))
    (fun s i wr => t.fs.length - (intOf i).toNat)
  case atStart => exact ⟨0, 0, rfl, rfl, Nat.zero_le _, Int.le_refl _, by omega, ⟨[], h0, by rw [List.drop_zero]; rfl⟩, Nat.le_refl _, Below.refl _ _, HB⟩
  case round =>
    obtain ⟨k, en, rfl, rfl, hk, hen0, hen1, ⟨pre, hJp, hml⟩, hsz, hbe, hbx⟩ := hrel
    by_cases hlt : k < t.fs.length
    · obtain ⟨g, o, hpp, hg, hc, _, hfin⟩ := ((unveil HIN).below (unveil hbe)).fs k hlt
      obtain ⟨d0, d1, d2, d3, d4, d5, d6, d7, d8⟩ := nine hc
      obtain ⟨e0, _, _, _, _, e5, _⟩ := TyB.seven (t := t) (unveil hbx)
      have hBlt := (unveil hbx).lt
      have hmem : t.fs[k] ∈ t.fs := List.getElem_mem _
      have hfo := unveil HOK _ hmem
      obtain ⟨b1, b2, b3, b4, b5, b6⟩ := lay_bound hfo hen0 t.pk
      have hdr : t.fs.drop k = t.fs[k] :: t.fs.drop (k + 1) := List.drop_eq_getElem_cons hlt
      have hml' := unveil hml
      rw [hdr, mlM] at hml'
      have HLA : Hid (∀ ob, Calls Try.prog 71 #[t.fs[k].v, .int .i64 en, .bool t.pk] (wr.alloc ob) fun r w' => r = .returned (mbV t.fs[k] (layM (meas t.fs[k].t) t.fs[k] en t.pk)) ∧ Below (wr.alloc ob).heap.size (wr.alloc ob) w') := fun ob =>
        lay_any t.fs[k] en t.pk (meas t.fs[k].t) _ hen0 (by omega) hfo.1 hfo.2.1 hfo.2.2.1 hfo.2.2.2.1 hfo.2.2.2.2 (fun W' hb' => unveil HM _ hmem W' (((hfin.below ((Below.refl _ wr).alloc (by have := (unveil hbe).size; omega) ob)).mono (by have := (unveil hbe).size; simp; omega)).below hb' |>.mono hb'.size))
      have HY2 : Hid (∀ ob W2, Below (wr.alloc ob).heap.size (wr.alloc ob) W2 → YieldAt Fence.wide (n - 1) Try.prog lp (encM (t.fs[k], layM (meas t.fs[k].t) t.fs[k] en t.pk)) (W2.alloc (.cells (mbC t.fs[k] (layM (meas t.fs[k].t) t.fs[k] en t.pk)) 77)) fun e W' =>
          (e = .returned (.bool true) ∧ J (pre ++ [(t.fs[k], layM (meas t.fs[k].t) t.fs[k] en t.pk)]) W' ∧ KeepsO W.heap.size 0 (W2.alloc (.cells (mbC t.fs[k] (layM (meas t.fs[k].t) t.fs[k] en t.pk)) 77)) W' ∧ KpM N0 (W2.alloc (.cells (mbC t.fs[k] (layM (meas t.fs[k].t) t.fs[k] en t.pk)) 77)) W') ∨ (e = .returned (.bool false) ∧ Jx (pre ++ [(t.fs[k], layM (meas t.fs[k].t) t.fs[k] en t.pk)]) W' ∧ KeepsO W.heap.size 0 (W2.alloc (.cells (mbC t.fs[k] (layM (meas t.fs[k].t) t.fs[k] en t.pk)) 77)) W')) := fun ob W2 h2 => by
        have hs2 := h2.size
        simp only [World.size_alloc] at hs2
        exact unveil HY pre _ _ ((unveil HJ).alloc _ ((unveil HJ).turn _ _ _ none ((unveil HJ).alloc ob hJp) (below_grown h2) (fun r e => by cases e))) (by simp; omega) (fun j c fz q1 q2 => by omega) (by rw [hml']; exact ⟨_, List.append_assoc _ _ _⟩)
      have HPRE : Hid (pre ++ [(t.fs[k], layM (meas t.fs[k].t) t.fs[k] en t.pk)] <+: t.ml meas) := by unfold Hid; rw [hml']; exact ⟨_, List.append_assoc _ _ _⟩
      have HML : Hid (t.ml meas = (pre ++ [(t.fs[k], layM (meas t.fs[k].t) t.fs[k] en t.pk)]) ++ mlM meas t.pk (t.sh == 4) (if (t.sh == 4) then (layM (meas t.fs[k].t) t.fs[k] en t.pk).bit + (layM (meas t.fs[k].t) t.fs[k] en t.pk).bits else en) (t.fs.drop (k + 1))) := by unfold Hid; rw [hml', List.append_assoc]; rfl
      have HKB : Hid (∀ ob W2 W5, Below (wr.alloc ob).heap.size (wr.alloc ob) W2 → KpM N0 (W2.alloc (.cells (mbC t.fs[k] (layM (meas t.fs[k].t) t.fs[k] en t.pk)) 77)) W5 → KeepsO W.heap.size 0 (W2.alloc (.cells (mbC t.fs[k] (layM (meas t.fs[k].t) t.fs[k] en t.pk)) 77)) W5 →
          Bk W5 W2.heap.size 77 (mbC t.fs[k] (layM (meas t.fs[k].t) t.fs[k] en t.pk)) ∧ Bk W5 Bd 25 t.cs ∧ Below N0 W W5 ∧ W.heap.size ≤ W5.heap.size) := fun ob W2 W5 h2 h5 h6 => by
        have hs2 := h2.size
        have hs6 := h6.size
        simp only [World.size_alloc] at hs2 hs6
        have hb0 := (unveil hbe).size
        have b0 : Bk W2 Bd 25 t.cs := Bk.below (Bk.alloc (unveil hbx) ob) h2
        exact ⟨h5.2.1 _ _ (Bk.new _ _ _), h5.2.2 _ _ (b0.alloc _), ((((unveil hbe).alloc (by omega) ob).trans (h2.mono (by simp; omega))).alloc (by omega) _).trans h5.1, by omega⟩
      rw [hpp]
      clear hml' hdr hc hfo hmem hfin
      generalize hf : t.fs[k] = f at *
      generalize hM : layM (meas f.t) f en t.pk = M at *
      obtain ⟨m1, m2, m3, m4⟩ := M
      simp only at b1 b2 b3 b4 b5 b6
      unfold mbV mbC FdOf.v FdOf.cs encM at *
      unfold mbV mbC at *
      simp only at *
      gi_wp2_with (refine ⟨trivial, ?_⟩; gi_at_call 71; refine (callsIn_wide.2 (unveil HLA _)).mono ?_; rintro e W2 ⟨rfl, hb2⟩; obtain ⟨fn, tmps, assign, body, hy, hRR⟩ := unveil HY2 _ W2 hb2; have HR := veil hRR; clear hRR)
      refine (unveil HR).mono ?_
      rintro e W5 (⟨rfl, hJ5, hk5, hb5⟩ | ⟨rfl, hJx5, hk5⟩)
      · obtain ⟨bm, bt, bbe, bsz⟩ := unveil HKB _ W2 W5 hb2 hb5 hk5
        have q9 := bm.cell 9
        have q10 := bm.cell 10
        simp only [List.getElem?_toArray, List.getElem?_cons_succ, List.getElem?_cons_zero] at q9 q10
        obtain ⟨r0, _, _, _, _, _, _⟩ := TyB.seven (t := t) bt
        have HBT := veil bt
        have HBB := veil bbe
        clear bm bt bbe hb2 hb5 HR hy HKB HY2 HLA e0 e5 d0 d1 d2 d3 d4 d5 d6 d7 d8
        cases hs : t.sh == 4
        · gi_wp2
          go_roundw
          case rel =>
            have hml2 := unveil HML
            rw [hs] at hml2
            exact ⟨k + 1, en, by go_num, rfl, by omega, hen0, by omega, ⟨_, hJ5, by rw [hs]; exact hml2⟩, bsz, HBB, HBT⟩
          case measure => simp [intOf]; omega
        · gi_wp2
          go_roundw
          case rel =>
            have hml2 := unveil HML
            rw [hs] at hml2
            exact ⟨k + 1, m1 + m2, by go_num, rfl, by omega, by omega, by omega, ⟨_, hJ5, by rw [hs]; exact hml2⟩, bsz, HBB, HBT⟩
          case measure => simp [intOf]; omega
      · gi_wp2
        refine bodyPost_ret (results_none rfl _ _ _) rfl ?_
        exact ⟨⟨_, rfl⟩, .inr ⟨_, unveil HPRE, hJx5⟩⟩
    · obtain rfl : k = t.fs.length := by omega
      have hml' := unveil hml
      rw [List.drop_length, mlM, List.append_nil] at hml'
      rw [← hml'] at hJp
      gi_wp2
      refine bodyPost_end (results_none (fn := Try.f70) rfl _ _ _) rfl ?_
      exact ⟨⟨_, rfl⟩, .inl hJp⟩
theorem members_stops (n : Nat) (h1 : 1 ≤ n) (Bd N0 : Nat) (t : ShT) (meas : ShT → Int × Int) (hfl : t.fs.length ≤ 40) (hok : ∀ f ∈ t.fs, FOk f (meas f.t))
    (hm : ∀ f ∈ t.fs, ∀ W, f.t.In W.heap.size W → Calls Try.prog 64 #[f.t.v] W fun r w' => r = .returned (extV (meas f.t)) ∧ Below W.heap.size W w')
    (w : World) (hN : N0 ≤ w.heap.size) (hb : Bk w Bd 25 t.cs) (hin : t.In N0 w) :
    SeqStopsO Fence.wide n 0 Try.prog 70 #[.pointer (some ⟨Bd, 0, none⟩)] encM (KpM N0) (t.ml meas) w :=
  fun lp J Jx W hW hJ hJx hY h0 => members1_in n h1 lp Bd N0 t meas hfl hok hm J Jx W hJ hJx hY (Nat.le_trans hN hW.size) (hb.below hW) (hin.below (hW.mono hN)) h0
end Go.Proofs.Ytkiebejidpebdaa
namespace Go.Proofs.Ytkiebejidpebdaa
open Go Go.RowKit Go.Shelf
attribute [local go_sem] Oper.semAt_some
set_option linter.unusedVariables false
set_option linter.unusedSimpArgs false

/-- Right, but for sizes, and not deeper than so much. -/
def rigM : Nat → ShT → Bool
  | 0, _ => false
  | d + 1, t => formM t && t.parts.all (rigM d)
theorem parts_in {B : Nat} {W : World} {t : ShT} (h : t.In B W) {x : ShT} (hx : x ∈ t.parts) : x.In B W := by
  unfold ShT.parts at hx
  rcases List.mem_append.1 hx with hx | hx
  · obtain ⟨i, hi, rfl⟩ := List.getElem_of_mem hx
    obtain ⟨_, _, _, _, _, r⟩ := h.of i hi
    exact r
  · obtain ⟨f, hf, rfl⟩ := List.mem_map.1 hx
    obtain ⟨i, hi, rfl⟩ := List.getElem_of_mem hf
    obtain ⟨_, _, _, _, _, _, r⟩ := h.fs i hi
    exact r
theorem form_few {t : ShT} (h : formM t = true) : t.of.length ≤ 1 ∧ t.fs.length ≤ 40 := by
  unfold formM formW ffsM at h
  repeat' split at h
  all_goals first
    | cases h
    | (simp only [Bool.and_eq_true, beq_iff_eq, decide_eq_true_eq] at h; omega)
theorem BoxedS.turn {W W' : World} {row : Option Nat} {b : Nat} {t : TypeId} {v : Value} (h : Boxed W b t v) (hg : W.grownBy W' row) (hr : ∀ r, row = some r → b < r) : Boxed W' b t v :=
  (hg.block b h.lt (fun e => by have := hr b e.symm; omega)).trans h
/-- What a round of right hands on; what it leaves when it ends. -/
def RtI (w : World) (O d : Nat) (D : Int) (pre : List ShT) (W : World) : Prop :=
  Boxed W O 4 (.bool true) ∧ Boxed W (w.heap.size + 1) 3 (.int .i64 D) ∧ Below w.heap.size w W ∧ Hid (∀ x ∈ pre, rigM d x = true)
def RtX (w : World) (O d : Nat) (t : ShT) (c : Code) (W : World) : Prop :=
  c = .exit 0 ∧ Boxed W O 4 (.bool false) ∧ Below w.heap.size w W ∧ Hid (t.parts.all (rigM d) = false)
theorem RtI.abides (w : World) (O d : Nat) (D : Int) (B C : Nat) (h1 : O < B) (h2 : w.heap.size + 1 < B) : AbidesO B C 0 (RtI w O d D) := by
  refine ⟨fun pre X Y row hs hg hr => ?_, fun pre X hs => ?_⟩
  · obtain ⟨a, b, c, e⟩ := hs
    have hr' : ∀ r, row = some r → B ≤ r := fun r e => (hr r e).1
    exact ⟨BoxedS.turn a hg (fun r e => by have := hr' r e; omega), BoxedS.turn b hg (fun r e => by have := hr' r e; omega), c.grown hg c.size (fun r e => by have := hr' r e; omega), e⟩
  · obtain ⟨a, b, c, e⟩ := hs
    exact ⟨a, b, c.drew, e⟩
theorem RtX.abides (w : World) (O d : Nat) (t : ShT) (B C : Nat) (c : Code) (h1 : O < B) (h2 : w.heap.size + 1 < B) : AbidesO B C 0 (fun (_ : List ShT) W => RtX w O d t c W) := by
  refine ⟨fun pre X Y row hs hg hr => ?_, fun pre X hs => ?_⟩
  · obtain ⟨rfl, a, c, e⟩ := hs
    have hr' : ∀ r, row = some r → B ≤ r := fun r e => (hr r e).1
    exact ⟨rfl, BoxedS.turn a hg (fun r e => by have := hr' r e; omega), c.grown hg c.size (fun r e => by have := hr' r e; omega), e⟩
  · obtain ⟨rfl, a, c, e⟩ := hs
    exact ⟨rfl, a, c.drew, e⟩
set_option maxRecDepth 100000 in
set_option maxHeartbeats 8000000 in
theorem right_zero (t : ShT) (w : World) : Calls Try.prog 63 #[t.v, .int .i64 7] w fun e w' => e = .returned (.bool (rigM 0 t)) ∧ Below w.heap.size w w' := by
  unfold ShT.v ShT.cs rigM
  refine (callsIn_wide (n := 4)).1 ?_
  refine callsIn_of_wp_marks Try.func63 rfl trivial ?_ rfl
  simp only [Try.ntmps63, List.size_toArray, List.length_cons, List.length_nil, Nat.reduceAdd, Nat.reduceSub, Array.replicate_succ, Array.replicate_zero, List.push_toArray, List.append_toArray, List.nil_append, List.cons_append]
  gi_wp2
  refine wpIn_scope_straight ?_
  gi_wp2_with (refine ⟨trivial, ?_⟩)
  exact ⟨_, results_tmp rfl _ _ _, rfl, ((Below.refl _ w).alloc (Nat.le_refl _) _).alloc (by simp) _⟩
set_option maxRecDepth 100000 in
set_option maxHeartbeats 8000000 in
theorem right_succ (d : Nat) (hd : d < 6) (t : ShT) (w : World) (hin : t.In w.heap.size w)
    (ih : ∀ (x : ShT) (W : World), x.In W.heap.size W → Calls Try.prog 63 #[x.v, .int .i64 (7 - d)] W fun e w' => e = .returned (.bool (rigM d x)) ∧ Below W.heap.size W w') :
    Calls Try.prog 63 #[t.v, .int .i64 (6 - d)] w fun e w' => e = .returned (.bool (rigM (d + 1) t)) ∧ Below w.heap.size w w' := by
  have HIN := veil hin
  have IH := veil ih
  clear ih hin
  unfold rigM
  have HBE : Hid (∀ o o', Below w.heap.size w ((w.alloc o).alloc o')) := fun o o' => ((Below.refl _ w).alloc (Nat.le_refl _) _).alloc (by simp) _
  have HFO : Hid (∀ o o', Calls Try.prog 80 #[t.v] ((w.alloc o).alloc o') fun e w' => e = .returned (.bool (formM t)) ∧ Below ((w.alloc o).alloc o').heap.size ((w.alloc o).alloc o') w') :=
    fun o o' => formed_is t _ (((unveil HIN).below (unveil HBE o o')).mono (by simp; omega))
  have HFM := veil (form_few (t := t))
  have HWI := veil (within_any t)
  have HWS := veil (within_stops 3 (by decide))
  have hvt : t.v = .agg t.cs := rfl
  obtain ⟨FO, hFO⟩ : ∃ FO, formM t = FO := ⟨_, rfl⟩
  rw [hFO] at HFO HFM ⊢
  clear hFO
  have hD : (6 - (d : Int)) ≤ 6 := by omega
  have hD0 : 0 ≤ (6 - (d : Int)) := by omega
  have IH' : Hid (∀ (x : ShT) (W : World), x.In W.heap.size W → Calls Try.prog 63 #[x.v, .int .i64 (6 - d + 1)] W fun e w' => e = .returned (.bool (rigM d x)) ∧ Below W.heap.size W w') := by
    rw [show (6 - (d : Int) + 1) = 7 - d by omega]; exact IH
  clear IH hd
  generalize (6 - (d : Int)) = D at *
  cases FO
  · have h6 : ¬ D > 6 := by omega
    unfold ShT.v ShT.cs at HFO ⊢
    refine (callsIn_wide (n := 4)).1 ?_
    refine callsIn_of_wp_marks Try.func63 rfl trivial ?_ rfl
    simp only [Try.ntmps63, List.size_toArray, List.length_cons, List.length_nil, Nat.reduceAdd, Nat.reduceSub, Array.replicate_succ, Array.replicate_zero, List.push_toArray, List.append_toArray, List.nil_append, List.cons_append]
    gi_wp2
    refine wpIn_scope_straight ?_
    gi_wp2_with (refine ⟨trivial, ?_⟩; gi_at_call 80; refine (callsIn_wide.2 (unveil HFO _ _)).mono ?_; rintro e w' ⟨rfl, hw'⟩)
    exact ⟨_, results_tmp rfl _ _ _, rfl, (unveil HBE _ _).trans (hw'.mono (by simp; omega))⟩
  · have h6 : ¬ D > 6 := by omega
    obtain ⟨hol, hfl⟩ := unveil HFM rfl
    unfold ShT.v ShT.cs at HFO HWI ⊢
    refine (callsIn_wide (n := 4)).1 ?_
    refine callsIn_of_wp_marks Try.func63 rfl trivial ?_ rfl
    simp only [Try.ntmps63, List.size_toArray, List.length_cons, List.length_nil, Nat.reduceAdd, Nat.reduceSub, Array.replicate_succ, Array.replicate_zero, List.push_toArray, List.append_toArray, List.nil_append, List.cons_append]
    gi_wp2
    refine wpIn_scope_straight ?_
    have HX : Hid (∀ w1, Below ((w.alloc (.cells t.cs 25)).alloc (.cells #[.int .i64 D] 3)).heap.size ((w.alloc (.cells t.cs 25)).alloc (.cells #[.int .i64 D] 3)) w1 →
        TyB w1 w.heap.size t ∧ Boxed w1 (w.heap.size + 1) 3 (.int .i64 D) ∧ Below w.heap.size w w1 ∧ w.heap.size + 2 ≤ w1.heap.size) := fun w1 h =>
      ⟨((TyB.new w t).alloc _).below h, by
        have h1 := Boxed.new (w.alloc (.cells t.cs 25)) 3 (.int .i64 D)
        rw [World.size_alloc] at h1
        exact (h.block _ (by simp)).trans h1, (unveil HBE _ _).trans (h.mono (by simp; omega)), by have := h.size; simpa using this⟩
    unfold ShT.cs at HX
    gi_wp2_with (refine ⟨trivial, ?_⟩; gi_at_call 80; refine (callsIn_wide.2 (unveil HFO _ _)).mono ?_; rintro e w1 ⟨rfl, hb1⟩; obtain ⟨xt, xd, xb, xs⟩ := unveil HX w1 hb1; obtain ⟨x0, x1, x2, x3, x4, x5, x6⟩ := xt.seven; have hlx : w.heap.size < w1.heap.size := xt.lt)
    refine wpIn_label ?_
    gi_wp2_with (refine ⟨trivial, ?_⟩; gi_at_call 81; refine (callsIn_wide.2 (unveil HWI _)).mono ?_; rintro e w' ⟨rfl, rfl⟩)
    have hz : ((w1.alloc (.cells #[.bool true] 4)).alloc (.cells t.cs 25)).heap.size = w1.heap.size + 2 := by simp
    have hbe : Below w.heap.size w ((w1.alloc (.cells #[.bool true] 4)).alloc (.cells t.cs 25)) := (xb.alloc (by omega) _).alloc (by simp; omega) _
    have b0 : Boxed ((w1.alloc (.cells #[.bool true] 4)).alloc (.cells t.cs 25)) w1.heap.size 4 (.bool true) := (Boxed.new w1 _ _).alloc _
    have b1 : Boxed ((w1.alloc (.cells #[.bool true] 4)).alloc (.cells t.cs 25)) (w.heap.size + 1) 3 (.int .i64 D) := (xd.alloc _).alloc _
    have b2 : TyB ((w1.alloc (.cells #[.bool true] 4)).alloc (.cells t.cs 25)) (w1.heap.size + 1) t := by
      have := TyB.new (w1.alloc (.cells #[.bool true] 4)) t
      rwa [World.size_alloc] at this
    unfold ShT.cs at hz hbe b0 b1 b2
    have hW0 : ∃ W0, (w1.alloc (.cells #[.bool true] 4)).alloc (.cells #[.int .i64 t.sh, .int .i64 t.k, .int .i64 t.n, .slice t.op t.of.length t.oc, .slice t.fp t.fs.length t.fc, .bool t.pk, .int .i64 t.al] 25) = W0 := ⟨_, rfl⟩
    obtain ⟨W0, hW0⟩ := hW0
    rw [hW0] at hz hbe b0 b1 b2 ⊢
    clear hW0 x0 x1 x2 x3 x4 x5 x6 xt xd xb hb1
    refine wpIn_rangeFunc_ownA (k := 0) rfl (by decide) (gf := 93) (lb := #[.pointer (some ⟨w1.heap.size + 1, 0, none⟩)]) rfl trivial (enters_of Try.func93 (by kernel_rfl) rfl)
      (unveil HWS (w1.heap.size + 1) w.heap.size t (by omega) (by omega) W0 (by omega) b2 ((unveil HIN).below hbe)) KpS.trans (fun W lb o o' hlb hlo _ _ => ?kb) (fun W o hW => ?ka) (Below.refl _ _) (fun _ => rfl)
      (RtI w w1.heap.size d D) (fun c _ W => RtX w w1.heap.size d t c W) (RtI.abides w _ d D _ _ (by omega) (by omega)) (fun c => RtX.abides w _ d t _ _ c (by omega) (by omega))
      ⟨b0, b1, hbe, fun x hx => by cases hx⟩ (fun x => .cells x.cs 25)
      (fun x A => { tmps := #[.agg #[.int .i64 t.sh, .int .i64 t.k, .int .i64 t.n, .slice t.op t.of.length t.oc, .slice t.fp t.fs.length t.fc, .bool t.pk, .int .i64 t.al], .int .i64 D, .pointer (some ⟨w.heap.size, 0, none⟩), .pointer (some ⟨w.heap.size + 1, 0, none⟩), .bool false, .pointer (some ⟨w1.heap.size, 0, none⟩), .pointer (some ⟨A, 0, none⟩), .int .i64 D, .bool (decide (6 < D)), .bool (decide (6 < D)), .agg #[.int .i64 t.sh, .int .i64 t.k, .int .i64 t.n, .slice t.op t.of.length t.oc, .slice t.fp t.fs.length t.fc, .bool t.pk, .int .i64 t.al], .bool true, .bool false, .bool (decide (6 < D)), .agg #[.int .i64 t.sh, .int .i64 t.k, .int .i64 t.n, .slice t.op t.of.length t.oc, .slice t.fp t.fs.length t.fc, .bool t.pk, .int .i64 t.al], .func (.func 93) #[] #[.pointer (some ⟨w1.heap.size + 1, 0, none⟩)], .agg #[.int .i64 x.sh, .int .i64 x.k, .int .i64 x.n, .slice x.op x.of.length x.oc, .slice x.fp x.fs.length x.fc, .bool x.pk, .int .i64 x.al], undef, undef, undef, undef, undef, undef], defers := [] })
      ?assign ?body ?done ?stop
    case kb =>
      have hlt := (Array.getElem?_eq_some_iff.1 hlo).1
      exact ⟨(Below.refl _ W).grown (grownBy_putObj' W lb o') (by omega) (fun r e => by cases e; omega), World.putObj_heap_other (by omega)⟩
    case ka =>
      exact ⟨(Below.refl _ W).alloc (by omega) o, Below.heap_alloc W o _ (by omega)⟩
    case assign =>
      intro l' x W' K hK
      simp only [encT, ShT.v, ShT.cs] at hK ⊢
      gi_wp2
      simpa using hK
    case body =>
      rintro l' pre x W1 A hA hxA hno ⟨o0, o1, obe, oal⟩ hpre
      have hxt : TyB W1 A x := hxA
      obtain ⟨y0, y1, y2, y3, y4, y5, y6⟩ := hxt.seven
      have hmem : x ∈ t.parts := hpre.subset (by simp)
      have HC := veil (unveil IH' x W1 ((parts_in ((unveil HIN).below obe) hmem).mono obe.size))
      have hdc := o1.cell
      have HMEM := veil hmem
      have HO0 := veil o0
      have HO1 := veil o1
      have HOB := veil obe
      have HPR : Hid (∀ W2, Below W1.heap.size W1 W2 → Boxed W2 w1.heap.size 4 (.bool true) ∧ Boxed W2 (w.heap.size + 1) 3 (.int .i64 D) ∧ Below w.heap.size w W2 ∧ (∀ B k, KeepsO B k W1 W2) ∧ KpS w.heap.size (w1.heap.size + 1) W1 W2) := fun W2 h2 =>
        ⟨(h2.block _ o0.lt).trans o0, (h2.block _ o1.lt).trans o1, obe.trans (h2.mono obe.size), fun B k => KeepsO.grown (below_grown h2) (fun r e => by cases e), h2.mono obe.size, h2.block _ (by have := hxt.lt; omega)⟩
      obtain ⟨F, hF⟩ : ∃ F, rigM d x = F := ⟨_, rfl⟩
      have HFF := veil hF
      rw [hF] at HC
      unfold ShT.v ShT.cs at HC
      clear hF hmem o0 o1 obe hxA hxt hno
      cases F
      · gi_wp2_with (refine ⟨trivial, ?_⟩; gi_at_call 63; refine (callsIn_wide.2 (unveil HC)).mono ?_; rintro e W2 ⟨rfl, hb2⟩; obtain ⟨q0, q1, q2, q3, q4⟩ := unveil HPR W2 hb2; have q0c := q0.cell; have q0f := q0.frozen)
        refine ⟨((q3 _ 0).from (Nat.le_refl _)).trans ((KeepsOthers.setCell _ _ _).from _), (q3 _ _).trans (KeepsO.setCell (.inl (by omega))), rfl, Boxed.set _ q0, q2.setCell (p := ⟨w1.heap.size, 0, none⟩) (by show _ ≤ w1.heap.size; omega) _, ?_⟩
        exact List.all_eq_false.2 ⟨x, unveil HMEM, by rw [unveil HFF]; simp⟩
      · gi_wp2_with (refine ⟨trivial, ?_⟩; gi_at_call 63; refine (callsIn_wide.2 (unveil HC)).mono ?_; rintro e W2 ⟨rfl, hb2⟩; obtain ⟨q0, q1, q2, q3, q4⟩ := unveil HPR W2 hb2)
        refine ⟨(q3 _ 0).from (Nat.le_refl _), q3 _ _, q4, q0, q1, q2, fun z hz => ?_⟩
        rcases List.mem_append.1 hz with hz | hz
        · exact unveil oal z hz
        · obtain rfl := List.mem_singleton.1 hz
          exact unveil HFF
    case done =>
      rintro D' W' hD' ⟨c0, c1, cbe, cal⟩ hK
      have d0 := c0.cell
      gi_wp2
      refine ⟨by simp, .inl ⟨_, _, rfl, run_takeDeferred hK, ?_⟩⟩
      refine ⟨_, results_tmp rfl _ _ _, ?_, cbe.grown (grownBy_putObj' W' D' _) cbe.size (fun r e => by cases e; omega)⟩
      rw [List.all_eq_true.2 (unveil cal)]
      rfl
    case stop =>
      rintro D' c pre W' hD' _ ⟨rfl, c0, cbe, cal⟩ hK
      have d0 := c0.cell
      gi_wp2
      refine ⟨by simp, .inl ⟨_, _, rfl, run_takeDeferred hK, ?_⟩⟩
      refine ⟨_, results_tmp rfl _ _ _, ?_, cbe.grown (grownBy_putObj' W' D' _) cbe.size (fun r e => by cases e; omega)⟩
      rw [unveil cal]
      rfl
theorem right_any : ∀ (d : Nat), d ≤ 6 → ∀ (t : ShT) (w : World), t.In w.heap.size w →
    Calls Try.prog 63 #[t.v, .int .i64 (7 - d)] w fun e w' => e = .returned (.bool (rigM d t)) ∧ Below w.heap.size w w'
  | 0, _, t, w, _ => right_zero t w
  | d + 1, hd, t, w, h => by
    rw [show ((7 : Int) - ((d + 1 : Nat) : Int)) = 6 - d by omega]
    exact right_succ d (by omega) t w h (fun x W hx => right_any d (by omega) x W hx)
end Go.Proofs.Ytkiebejidpebdaa
