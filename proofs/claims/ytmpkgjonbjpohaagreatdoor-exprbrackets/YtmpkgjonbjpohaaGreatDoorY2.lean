/-
  Package kind: the words that kinds are said with: placeOf, placed, either, together, kind.
  Package kind: count, how often each word is said.
  Package kind: count, the walk.
  Package kind: together, kind, Of.
  Package kind: kind of a tally, Of.
-/
import Derived.Test.YtmpkgjonbjpohaaGreatDoorHa
import Derived.Test.YtmpkgjonbjpohaaGreatDoorNa
import Derived.Below
import Derived.Deep.LoopGhost
import Derived.BigRegion
import Derived.RangeFuncNested
import Derived.RangeFuncBound
import Derived.RangeFuncCalls
import Derived.RangeFuncLeaves
import Derived.Shelf.Abstract
import Derived.Shelf.RegionOpen
import Derived.OwnWalkIn
import Derived.TacticsInMore
import Derived.LoopNIn
import Derived.LoopIn
import Derived.BigRegionIn
import Derived.RegionIn
import Derived.Deep.DeepCutAuto
import Derived.Laws.ResultCell
namespace Go.Proofs.YtmpkgjonbjpohaaGreatDoor
open Go Go.RowKit Go.Shelf
attribute [local go_sem] Oper.semAt_some
set_option linter.unusedVariables false
set_option linter.unusedSimpArgs false

/-- Strings in memory. -/
def StG (B : Nat) (W : World) (v : Value) (l : List (List UInt8)) : Prop :=
  ∃ p cap, v = .slice p l.length cap ∧ ∀ (i : Nat) (h : i < l.length), ∃ g o, p = some ⟨g, o, none⟩ ∧ g < B ∧
    W.cell? ⟨g, o + i, none⟩ = some (.string ⟨l[i].toArray⟩)
theorem StG.below {B : Nat} {W W' : World} {v : Value} {l : List (List UInt8)} (h : StG B W v l) (hb : Below B W W') : StG B W' v l := by
  obtain ⟨p, cap, rfl, hc⟩ := h
  refine ⟨p, cap, rfl, fun i hi => ?_⟩
  obtain ⟨g, o, rfl, h1, c0⟩ := hc i hi
  exact ⟨g, o, rfl, h1, (hb.cell (p := ⟨g, o + i, none⟩) h1).trans c0⟩
/-- A word's place, and whether it has one. -/
def plcM (s : List UInt8) : Int := if s == [99, 104, 97, 114] then 0 else if s == [115, 104, 111, 114, 116] then 1 else if s == [108, 111, 110, 103] then 2 else if s == [105, 110, 116] then 3 else if s == [115, 105, 103, 110, 101, 100] then 4 else if s == [117, 110, 115, 105, 103, 110, 101, 100] then 5 else 0
def thrM (s : List UInt8) : Bool := if s == [99, 104, 97, 114] then true else if s == [115, 104, 111, 114, 116] then true else if s == [108, 111, 110, 103] then true else if s == [105, 110, 116] then true else if s == [115, 105, 103, 110, 101, 100] then true else if s == [117, 110, 115, 105, 103, 110, 101, 100] then true else false
theorem plc_cases (s : List UInt8) : (thrM s = false ∧ plcM s = 0) ∨ (thrM s = true ∧ (plcM s = 0 ∨ plcM s = 1 ∨ plcM s = 2 ∨ plcM s = 3 ∨ plcM s = 4 ∨ plcM s = 5)) := by
  unfold thrM plcM
  repeat' split
  all_goals simp
set_option maxRecDepth 100000 in
set_option maxHeartbeats 4000000 in
theorem placeOf_any (s : List UInt8) (w : World) : Calls Tryz.prog 172 #[.string ⟨s.toArray⟩] w fun e w' => e = .returned (.tuple #[.int .i64 (plcM s), .bool (thrM s)]) ∧ w' = w := by
  go_enter Tryz.func172, Tryz.ntmps172
  go_wp2
  all_goals go_ret2
  all_goals (refine ⟨?_, rfl⟩; first | (simp [plcM, thrM, *]; done) | (simp_all [plcM, thrM]; done))
theorem kplaced_any (p : Option Addr) (len cap : Nat) (w : World) :
    Calls Tryz.prog 157 #[.slice p len cap] w fun e w' => e = .returned (.func (.func 171) #[] #[.pointer (some ⟨w.heap.size, 0, none⟩)]) ∧ w' = w.alloc (.cells #[.slice p len cap] 91) := by
  go_enter Tryz.func157, Tryz.ntmps157
  go_wp2
  go_ret
  exact ⟨rfl, rfl⟩
def encS (s : List UInt8) : Array Value := #[.int .i64 (plcM s), .bool (thrM s)]
set_option maxRecDepth 100000 in
set_option maxHeartbeats 4000000 in
theorem placed1_in (n : Nat) (h1 : 1 ≤ n) (lp Bd B0 : Nat) (p : Option Addr) (cap : Nat) (l : List (List UInt8)) (hl : l.length ≤ 9223372036854775806) (J Jx : List (List UInt8) → World → Prop) (W : World)
    (hJ : AbidesO W.heap.size W.heap.size 0 J) (hJx : AbidesO W.heap.size W.heap.size 0 Jx)
    (hY : ∀ pre x W1, J pre W1 → W.heap.size + 0 ≤ W1.heap.size → noRow 5 W.heap.size 0 W1 → pre ++ [x] <+: l → YieldAt Fence.wide (n - 1) Tryz.prog lp (encS x) W1 fun e W' =>
      (e = .returned (.bool true) ∧ J (pre ++ [x]) W' ∧ KeepsO W.heap.size 0 W1 W' ∧ Below B0 W1 W') ∨ (e = .returned (.bool false) ∧ Jx (pre ++ [x]) W' ∧ KeepsO W.heap.size 0 W1 W'))
    (hBW : B0 ≤ W.heap.size) (hBd : Boxed W Bd 91 (.slice p l.length cap)) (hT : StG B0 W (.slice p l.length cap) l) (h0 : J [] W) :
    CallsIn Fence.wide n Tryz.prog 171 #[.func (.yield lp) #[] #[], .pointer (some ⟨Bd, 0, none⟩)] W fun e W' => (∃ v, e = .returned v) ∧
      (J l W' ∨ (∃ pre, pre <+: l ∧ Jx pre W')) := by
  have hc := hBd.cell
  have HT := veil hT
  have HL := veil hl
  clear hT
  refine callsIn_of_wp Tryz.func171 rfl trivial ?_ rfl
  simp only [Tryz.ntmps171, List.size_toArray, List.length_cons, List.length_nil, Nat.reduceAdd, Nat.reduceSub, Array.replicate_succ, Array.replicate_zero, List.push_toArray, List.append_toArray, List.nil_append, List.cons_append]
  gi_wp2
  gi_loopw [9] (fun i wr => ∃ (k : Nat), i = .int .i64 k ∧ k ≤ l.length ∧ J (l.take k) wr ∧ W.heap.size ≤ wr.heap.size ∧ Hid (Below B0 W wr))
    (fun i wr => l.length - (intOf i).toNat)
  case atStart => exact ⟨0, rfl, Nat.zero_le _, h0, Nat.le_refl _, Below.refl _ _⟩
  case round =>
    obtain ⟨k, rfl, hk, hJp, hsz, hbe⟩ := hrel
    by_cases hlt : k < l.length
    · obtain ⟨p', cap', hp', hcs⟩ := (unveil HT).below (unveil hbe)
      obtain ⟨g, o, hpp, hg, a0⟩ := hcs k hlt
      obtain ⟨rfl, rfl⟩ : p = some ⟨g, o, none⟩ ∧ cap = cap' := by
        have e := hp'
        simp at e
        exact ⟨e.1.trans hpp, e.2⟩
      have HP := veil (placeOf_any l[k])
      have htk : l.take k ++ [l[k]] = l.take (k + 1) := by rw [List.take_succ_eq_append_getElem hlt]
      obtain ⟨fn, tmps, assign, body, hy, hRR⟩ := hY (l.take k) l[k] wr hJp (by omega) (fun j c fz h1 h2 => by omega) (by rw [htk]; exact List.take_prefix _ _)
      rw [htk] at hRR
      simp only [encS] at hy
      have HR := veil hRR
      clear hRR hY hcs htk hp' hpp
      generalize plcM l[k] = PL at *
      generalize thrM l[k] = TH at *
      gi_wp2_with (first
        | (refine ⟨trivial, ?_⟩; gi_at_call 172; refine (callsIn_wide.2 (unveil HP _)).mono ?_; rintro e w' ⟨rfl, hw'⟩; obtain rfl := hw'.symm)
        | fail)
      refine (unveil HR).mono ?_
      rintro e W5 (⟨rfl, hJ5, hk5, hb5⟩ | ⟨rfl, hJx5, hk5⟩)
      · gi_wp2
        go_roundw
        case rel => exact ⟨k + 1, by go_num, by omega, hJ5, by have := hk5.size; exact Nat.le_trans hsz this, (unveil hbe).trans hb5⟩
        case measure => simp [intOf]; omega
      · gi_wp2
        refine bodyPost_ret (results_none rfl _ _ _) rfl ?_
        exact ⟨⟨_, rfl⟩, .inr ⟨_, List.take_prefix _ _, hJx5⟩⟩
    · obtain rfl : k = l.length := by omega
      rw [List.take_length] at hJp
      gi_wp2
      refine bodyPost_end (results_none (fn := Tryz.f171) rfl _ _ _) rfl ?_
      exact ⟨⟨_, rfl⟩, .inl hJp⟩
theorem placed_stops (n : Nat) (h1 : 1 ≤ n) (Bd B0 : Nat) (p : Option Addr) (cap : Nat) (l : List (List UInt8)) (hl : l.length ≤ 9223372036854775806) (w : World) (hBw : B0 ≤ w.heap.size) (hb : Boxed w Bd 91 (.slice p l.length cap)) (hT : StG B0 w (.slice p l.length cap) l) :
    SeqStopsO Fence.wide n 0 Tryz.prog 171 #[.pointer (some ⟨Bd, 0, none⟩)] encS (Below B0) l w :=
  fun lp J Jx W hW hJ hJx hY h0 => placed1_in n h1 lp Bd B0 p cap l hl J Jx W hJ hJx hY (Nat.le_trans hBw hW.size) ((hW.block Bd hb.lt).trans hb) (hT.below (hW.mono hBw)) h0
theorem either_any (b : Bool) (x y : Int) (w : World) : Calls Tryz.prog 158 #[.bool b, .int .i64 x, .int .i64 y] w fun e w' => e = .returned (.int .i64 (if b then x else y)) ∧ w' = w := by
  cases b
  all_goals (
    go_enter Tryz.func158, Tryz.ntmps158
    go_wp2
    go_ret
    exact ⟨rfl, rfl⟩)
end Go.Proofs.YtmpkgjonbjpohaaGreatDoor
namespace Go.Proofs.YtmpkgjonbjpohaaGreatDoor
open Go Go.RowKit Go.Shelf
attribute [local go_sem] Oper.semAt_some
set_option linter.unusedVariables false
set_option linter.unusedSimpArgs false

/-- How often each of the six words is said. -/
structure Ty where
  c : Int
  s : Int
  l : Int
  i : Int
  g : Int
  u : Int
def Ty.cells (t : Ty) : Array Value := #[.int .i64 t.c, .int .i64 t.s, .int .i64 t.l, .int .i64 t.i, .int .i64 t.g, .int .i64 t.u]
def Ty.ok (t : Ty) : Prop := (0 ≤ t.c ∧ t.c ≤ 1) ∧ (0 ≤ t.s ∧ t.s ≤ 1) ∧ (0 ≤ t.l ∧ t.l ≤ 2) ∧ (0 ≤ t.i ∧ t.i ≤ 1) ∧ (0 ≤ t.g ∧ t.g ≤ 1) ∧ (0 ≤ t.u ∧ t.u ≤ 1)
def zTy : Ty := ⟨0, 0, 0, 0, 0, 0⟩
/-- One word more; none, if it is none, or said too often. -/
def Ty.more (t : Ty) (s : List UInt8) : Option Ty :=
  if thrM s then
    if plcM s == 0 then (if t.c == 1 then none else some { t with c := t.c + 1 })
    else if plcM s == 1 then (if t.s == 1 then none else some { t with s := t.s + 1 })
    else if plcM s == 2 then (if t.l == 2 then none else some { t with l := t.l + 1 })
    else if plcM s == 3 then (if t.i == 1 then none else some { t with i := t.i + 1 })
    else if plcM s == 4 then (if t.g == 1 then none else some { t with g := t.g + 1 })
    else (if t.u == 1 then none else some { t with u := t.u + 1 })
  else none
def cntM (t : Ty) : List (List UInt8) → Ty × Bool
  | [] => (t, true)
  | s :: r => match t.more s with
    | none => (t, false)
    | some t' => cntM t' r
def TBox (W : World) (b : Nat) (t : Ty) : Prop := W.heap[b]? = some (.cells t.cells 171 (0, 0))
theorem TBox.lt {W : World} {b : Nat} {t : Ty} (h : TBox W b t) : b < W.heap.size := (Array.getElem?_eq_some_iff.1 h).1
theorem TBox.six {W : World} {b : Nat} {t : Ty} (h : TBox W b t) : W.cell? ⟨b, 0, none⟩ = some (.int .i64 t.c) ∧ W.cell? ⟨b, 1, none⟩ = some (.int .i64 t.s) ∧ W.cell? ⟨b, 2, none⟩ = some (.int .i64 t.l) ∧
    W.cell? ⟨b, 3, none⟩ = some (.int .i64 t.i) ∧ W.cell? ⟨b, 4, none⟩ = some (.int .i64 t.g) ∧ W.cell? ⟨b, 5, none⟩ = some (.int .i64 t.u) := by
  refine ⟨?_, ?_, ?_, ?_, ?_, ?_⟩ <;> (rw [World.cell?, show W.heap[b]? = _ from h]; rfl)
theorem TBox.frozen {W : World} {b : Nat} {t : Ty} (h : TBox W b t) (i : Nat) : W.frozen? ⟨b, i, none⟩ = false := by
  simp [World.frozen?, show W.heap[b]? = _ from h]
theorem TBox.turn {W W' : World} {row : Option Nat} {b : Nat} {x : Ty} (h : TBox W b x) (hg : W.grownBy W' row) (hr : ∀ r, row = some r → b < r) : TBox W' b x :=
  (hg.block b h.lt (fun e => by have := hr b e.symm; omega)).trans h
theorem TBox.setCell {W : World} {b j i : Nat} {x : Ty} (h : TBox W b x) (hj : b ≠ j) (v : Value) : TBox (W.setCell ⟨j, i, none⟩ v) b x := (Below.heap_setCell _ _ _ b hj).trans h
theorem grown_setK (w : World) (b i : Nat) (v : Value) : w.grownBy (w.setCell ⟨b, i, none⟩ v) (some b) :=
  ⟨rfl, rfl, rfl, (KeepsWalks.setCell w _ v).size, fun k _ hk => Below.heap_setCell _ _ _ k (fun e => hk (by simp at e; rw [e]))⟩
theorem drewK {B : Nat} {W W' : World} (h : Below B W W') : Below B W W'.drew := ⟨h.os, h.tape, h.output, h.size, h.block⟩
theorem BoxedK.turn {W W' : World} {row : Option Nat} {b : Nat} {t : TypeId} {v : Value} (h : Boxed W b t v) (hg : W.grownBy W' row) (hr : ∀ r, row = some r → b < r) : Boxed W' b t v :=
  h.kept hg (fun e => by have := hr b e.symm; omega)
/-- How often each word may be said: the package variable. -/
def Mo (W : World) : Prop := W.cell? ⟨5, 0, none⟩ = some (.int .i64 1) ∧ W.cell? ⟨5, 1, none⟩ = some (.int .i64 1) ∧ W.cell? ⟨5, 2, none⟩ = some (.int .i64 2) ∧ W.cell? ⟨5, 3, none⟩ = some (.int .i64 1) ∧ W.cell? ⟨5, 4, none⟩ = some (.int .i64 1) ∧ W.cell? ⟨5, 5, none⟩ = some (.int .i64 1)
theorem Mo.below {B : Nat} {W W' : World} (h : Mo W) (hb : Below B W W') (hB : 10 < B) : Mo W' := by
  obtain ⟨h0, h1, h2, h3, h4, h5⟩ := h
  have k : ∀ i, W'.cell? ⟨5, i, none⟩ = W.cell? ⟨5, i, none⟩ := fun i => hb.cell (p := ⟨5, i, none⟩) (by show 5 < B; omega)
  exact ⟨(k 0).trans h0, (k 1).trans h1, (k 2).trans h2, (k 3).trans h3, (k 4).trans h4, (k 5).trans h5⟩
/-- What a round hands on; what it leaves when it ends. -/
def CrI (w : World) (l : List (List UInt8)) (R : Ty × Bool) (pre : List (List UInt8)) (W : World) : Prop :=
  ∃ T : Ty, TBox W (w.heap.size + 1) T ∧ Hid T.ok ∧ TBox W w.heap.size zTy ∧ Boxed W (w.heap.size + 2) 4 (.bool (decide (0 < l.length))) ∧ Below w.heap.size w W ∧ Hid (∀ rest, pre ++ rest = l → cntM T rest = R)
def CrX (w : World) (R : Ty × Bool) (c : Code) (W : World) : Prop :=
  c = .exit 0 ∧ ∃ T : Ty, TBox W (w.heap.size + 1) T ∧ TBox W w.heap.size zTy ∧ Boxed W (w.heap.size + 2) 4 (.bool false) ∧ Below w.heap.size w W ∧ Hid (R = (T, false))
theorem CrI.abides (w : World) (l : List (List UInt8)) (R : Ty × Bool) : AbidesO (w.heap.size + 4) (w.heap.size + 6) 0 (CrI w l R) := by
  refine ⟨fun pre X Y row hs hg hr => ?_, fun pre X hs => ?_⟩
  · obtain ⟨T, h1, h2, h3, h4, h5, h6⟩ := hs
    have hr' : ∀ r, row = some r → w.heap.size + 4 ≤ r := fun r e => (hr r e).1
    exact ⟨T, h1.turn hg (fun r e => by have := hr' r e; omega), h2, h3.turn hg (fun r e => by have := hr' r e; omega), BoxedK.turn h4 hg (fun r e => by have := hr' r e; omega), h5.grown hg h5.size (fun r e => by have := hr' r e; omega), h6⟩
  · obtain ⟨T, h1, h2, h3, h4, h5, h6⟩ := hs
    exact ⟨T, h1, h2, h3, h4, h5.drew, h6⟩
theorem CrX.abides (w : World) (R : Ty × Bool) (c : Code) : AbidesO (w.heap.size + 4) (w.heap.size + 6) 0 (fun (_ : List (List UInt8)) W => CrX w R c W) := by
  refine ⟨fun pre X Y row hs hg hr => ?_, fun pre X hs => ?_⟩
  · obtain ⟨rfl, T, h1, h3, h4, h5, h6⟩ := hs
    have hr' : ∀ r, row = some r → w.heap.size + 4 ≤ r := fun r e => (hr r e).1
    exact ⟨rfl, T, h1.turn hg (fun r e => by have := hr' r e; omega), h3.turn hg (fun r e => by have := hr' r e; omega), BoxedK.turn h4 hg (fun r e => by have := hr' r e; omega), h5.grown hg h5.size (fun r e => by have := hr' r e; omega), h6⟩
  · obtain ⟨rfl, T, h1, h3, h4, h5, h6⟩ := hs
    exact ⟨rfl, T, h1, h3, h4, h5.drew, h6⟩
theorem six_tally {w : World} {R : Nat} {z0 z1 z2 z3 z4 z5 : Value} (h : w.heap[R]? = some (.cells #[z0, z1, z2, z3, z4, z5] 171 (0, 0))) (a0 a1 a2 a3 a4 a5 : Value) :
    ((((((w.setCell ⟨R, 0, none⟩ a0).setCell ⟨R, 1, none⟩ a1).setCell ⟨R, 2, none⟩ a2).setCell ⟨R, 3, none⟩ a3).setCell ⟨R, 4, none⟩ a4).setCell ⟨R, 5, none⟩ a5).heap[R]? = some (.cells #[a0, a1, a2, a3, a4, a5] 171 (0, 0)) := by
  simp [World.setCell, Array.getElem?_modify, h]
theorem res_count {tmps : Array Value} {w : World} {R : Nat} {cs : Array Value} (hp : tmps.getD 2 undef = .pointer (some ⟨R, 0, none⟩)) (hg : w.heap[R]? = some (.cells cs 171 (0, 0))) (hz : cs.size = 6) :
    (results Tryz.f136 tmps).run Tryz.prog w = .ok (.tuple #[.agg cs, tmps.getD 3 undef]) w := by
  rw [results_cell_tmp rfl, hp]
  have hi : (Tryz.prog.info? 171).map (·.size) = some cs.size := by rw [hz]; kernel_rfl
  simp [asAddr, run_loadVar_row w R 171 171 cs (0, 0) _ hg Tryz.underlying171 rfl hi]
theorem TBox.put {W : World} {b : Nat} {t t' : Ty} (h : TBox W b t) (i : Nat) (v : Value) (ht : t.cells.setIfInBounds i v = t'.cells) : TBox (W.setCell ⟨b, i, none⟩ v) b t' := by
  unfold TBox at *
  rw [← ht]
  simp [World.setCell, Array.getElem?_modify, h]
theorem TBox.drewK {W : World} {b : Nat} {t : Ty} (h : TBox W b t) : TBox W.drew b t := h
theorem BoxedK.drew {W : World} {b : Nat} {t : TypeId} {v : Value} (h : Boxed W b t v) : Boxed W.drew b t v := h
theorem BoxedK.setCell {b i j : Nat} {t : TypeId} {u : Value} {W : World} (h : Boxed W j t u) (hj : j ≠ b) (v : Value) : Boxed (W.setCell ⟨b, i, none⟩ v) j t u := (Below.heap_setCell W ⟨b, i, none⟩ v j hj).trans h
theorem more_some {t t' : Ty} {s : List UInt8} (h : t.more s = some t') (ho : t.ok) : t'.ok ∧ ∀ r, cntM t (s :: r) = cntM t' r := by
  refine ⟨?_, fun r => by rw [cntM, h]⟩
  unfold Ty.more at h
  unfold Ty.ok at *
  obtain ⟨⟨_, _⟩, ⟨_, _⟩, ⟨_, _⟩, ⟨_, _⟩, ⟨_, _⟩, ⟨_, _⟩⟩ := ho
  cases hth : thrM s
  · rw [hth] at h; cases h
  · rw [hth, if_pos rfl] at h
    have key : ∀ (b : Bool) (x : Ty), (if b = true then none else some x) = some t' → b = false ∧ x = t' := by
      intro b x e
      cases b
      · exact ⟨rfl, by simpa using e⟩
      · cases e
    by_cases q0 : (plcM s == 0) = true
    · rw [if_pos q0] at h; obtain ⟨e, rfl⟩ := key _ _ h; simp at e ⊢; omega
    rw [if_neg q0] at h
    by_cases q1 : (plcM s == 1) = true
    · rw [if_pos q1] at h; obtain ⟨e, rfl⟩ := key _ _ h; simp at e ⊢; omega
    rw [if_neg q1] at h
    by_cases q2 : (plcM s == 2) = true
    · rw [if_pos q2] at h; obtain ⟨e, rfl⟩ := key _ _ h; simp at e ⊢; omega
    rw [if_neg q2] at h
    by_cases q3 : (plcM s == 3) = true
    · rw [if_pos q3] at h; obtain ⟨e, rfl⟩ := key _ _ h; simp at e ⊢; omega
    rw [if_neg q3] at h
    by_cases q4 : (plcM s == 4) = true
    · rw [if_pos q4] at h; obtain ⟨e, rfl⟩ := key _ _ h; simp at e ⊢; omega
    rw [if_neg q4] at h
    obtain ⟨e, rfl⟩ := key _ _ h; simp at e ⊢; omega
def put6K (W : World) (b : Nat) (a0 a1 a2 a3 a4 a5 : Value) : World := (((((W.setCell ⟨b, 0, none⟩ a0).setCell ⟨b, 1, none⟩ a1).setCell ⟨b, 2, none⟩ a2).setCell ⟨b, 3, none⟩ a3).setCell ⟨b, 4, none⟩ a4).setCell ⟨b, 5, none⟩ a5
theorem TBox.put6 {W : World} {b : Nat} {z x : Ty} (h : TBox W b z) : TBox (put6K W b (.int .i64 x.c) (.int .i64 x.s) (.int .i64 x.l) (.int .i64 x.i) (.int .i64 x.g) (.int .i64 x.u)) b x := six_tally h _ _ _ _ _ _
theorem heap_put6K (W : World) (b D : Nat) (hD : D ≠ b) (a0 a1 a2 a3 a4 a5 : Value) : (put6K W b a0 a1 a2 a3 a4 a5).heap[D]? = W.heap[D]? := by
  have h : ∀ (W : World) (i : Nat) (v : Value), (W.setCell ⟨b, i, none⟩ v).heap[D]? = W.heap[D]? := fun W i v => Below.heap_setCell W ⟨b, i, none⟩ v D hD
  unfold put6K
  rw [h, h, h, h, h, h]
theorem below_put6K {B b : Nat} {w W : World} (h : Below B w W) (hb : B ≤ b) (a0 a1 a2 a3 a4 a5 : Value) : Below B w (put6K W b a0 a1 a2 a3 a4 a5) := by
  unfold put6K
  exact (((((h.setCell (p := ⟨b, 0, none⟩) hb _).setCell (p := ⟨b, 1, none⟩) hb _).setCell (p := ⟨b, 2, none⟩) hb _).setCell (p := ⟨b, 3, none⟩) hb _).setCell (p := ⟨b, 4, none⟩) hb _).setCell (p := ⟨b, 5, none⟩) hb _
theorem heap_drewK (W : World) (D : Nat) : W.drew.heap[D]? = W.heap[D]? := rfl
/-- What count ends with. -/
theorem count_fin {w W' : World} {D' : Nat} {tc ts tl ti tg tu : Int} (h0 : TBox W' w.heap.size zTy) (hb : Below w.heap.size w W') (hK : W'.heap[D']? = some (.deferred (some []))) (hD : D' ≠ w.heap.size) :
    TBox (put6K W' w.heap.size (.int .i64 tc) (.int .i64 ts) (.int .i64 tl) (.int .i64 ti) (.int .i64 tg) (.int .i64 tu)).drew w.heap.size ⟨tc, ts, tl, ti, tg, tu⟩ ∧ (put6K W' w.heap.size (.int .i64 tc) (.int .i64 ts) (.int .i64 tl) (.int .i64 ti) (.int .i64 tg) (.int .i64 tu)).drew.heap[D']? = some (.deferred (some [])) ∧ Below w.heap.size w (put6K W' w.heap.size (.int .i64 tc) (.int .i64 ts) (.int .i64 tl) (.int .i64 ti) (.int .i64 tg) (.int .i64 tu)).drew :=
  ⟨TBox.drewK (TBox.put6 (x := ⟨tc, ts, tl, ti, tg, tu⟩) h0), (heap_drewK _ _).trans ((heap_put6K W' w.heap.size D' hD _ _ _ _ _ _).trans hK), drewK (below_put6K hb (Nat.le_refl _) _ _ _ _ _ _)⟩
end Go.Proofs.YtmpkgjonbjpohaaGreatDoor
namespace Go.Proofs.YtmpkgjonbjpohaaGreatDoor
open Go Go.RowKit Go.Shelf
attribute [local go_sem] Oper.semAt_some
set_option linter.unusedVariables false
set_option linter.unusedSimpArgs false

set_option maxRecDepth 100000 in
set_option maxHeartbeats 4000000 in
theorem count_any (p : Option Addr) (cap : Nat) (l : List (List UInt8)) (w : World) (hl : l.length ≤ 9223372036854775806) (hT : StG w.heap.size w (.slice p l.length cap) l) (hmo : Mo w) (hw0 : 10 < w.heap.size) :
    Calls Tryz.prog 136 #[.slice p l.length cap] w fun e w' => e = .returned (.tuple #[.agg (cntM zTy l).1.cells, .bool ((cntM zTy l).2 && decide (0 < l.length))]) ∧ Below w.heap.size w w' := by
  have HT := veil hT
  have HMO := veil hmo
  obtain ⟨R, hR0⟩ : ∃ R, cntM zTy l = R := ⟨_, rfl⟩
  rw [hR0]
  have HR0 := veil hR0
  clear hR0 hT hmo
  refine (callsIn_wide (n := 4)).1 ?_
  refine callsIn_of_wp_marks Tryz.func136 rfl trivial ?_ rfl
  simp only [Tryz.ntmps136, List.size_toArray, List.length_cons, List.length_nil, Nat.reduceAdd, Nat.reduceSub, Array.replicate_succ, Array.replicate_zero, List.push_toArray, List.append_toArray, List.nil_append, List.cons_append]
  gi_wp2
  refine wpIn_scope_straight ?_
  gi_wp2
  refine wpIn_label ?_
  gi_wp2_with (refine ⟨trivial, ?_⟩; gi_at_call 157; refine (callsIn_wide.2 (kplaced_any p l.length cap _)).mono ?_; rintro e w' ⟨rfl, rfl⟩)
  have hz : ((((w.alloc (.cells #[.int .i64 0, .int .i64 0, .int .i64 0, .int .i64 0, .int .i64 0, .int .i64 0] 171)).alloc (.cells #[.int .i64 0, .int .i64 0, .int .i64 0, .int .i64 0, .int .i64 0, .int .i64 0] 171)).alloc (.cells #[.bool (decide (0 < l.length))] 4)).alloc (.cells #[.slice p l.length cap] 91)).heap.size = w.heap.size + 4 := by simp
  have hbe : Below w.heap.size w ((((w.alloc (.cells #[.int .i64 0, .int .i64 0, .int .i64 0, .int .i64 0, .int .i64 0, .int .i64 0] 171)).alloc (.cells #[.int .i64 0, .int .i64 0, .int .i64 0, .int .i64 0, .int .i64 0, .int .i64 0] 171)).alloc (.cells #[.bool (decide (0 < l.length))] 4)).alloc (.cells #[.slice p l.length cap] 91)) := ((((Below.refl _ w).alloc (Nat.le_refl _) _).alloc (by simp) _).alloc (by simp; omega) _).alloc (by simp; omega) _
  have b0 : TBox ((((w.alloc (.cells #[.int .i64 0, .int .i64 0, .int .i64 0, .int .i64 0, .int .i64 0, .int .i64 0] 171)).alloc (.cells #[.int .i64 0, .int .i64 0, .int .i64 0, .int .i64 0, .int .i64 0, .int .i64 0] 171)).alloc (.cells #[.bool (decide (0 < l.length))] 4)).alloc (.cells #[.slice p l.length cap] 91)) w.heap.size zTy := ((Below.heap_alloc _ _ _ (by simp; omega)).trans ((Below.heap_alloc _ _ _ (by simp; omega)).trans ((Below.heap_alloc _ _ _ (by simp)).trans (World.alloc_heap_new w _))))
  have b1 : TBox ((((w.alloc (.cells #[.int .i64 0, .int .i64 0, .int .i64 0, .int .i64 0, .int .i64 0, .int .i64 0] 171)).alloc (.cells #[.int .i64 0, .int .i64 0, .int .i64 0, .int .i64 0, .int .i64 0, .int .i64 0] 171)).alloc (.cells #[.bool (decide (0 < l.length))] 4)).alloc (.cells #[.slice p l.length cap] 91)) (w.heap.size + 1) zTy := by
    have := (Below.heap_alloc _ (.cells #[.slice p l.length cap] 91) _ (by simp)).trans ((Below.heap_alloc _ (.cells #[.bool (decide (0 < l.length))] 4) _ (by simp)).trans (World.alloc_heap_new (w.alloc (.cells #[.int .i64 0, .int .i64 0, .int .i64 0, .int .i64 0, .int .i64 0, .int .i64 0] 171)) (.cells #[.int .i64 0, .int .i64 0, .int .i64 0, .int .i64 0, .int .i64 0, .int .i64 0] 171)))
    rwa [World.size_alloc] at this
  have b2 : Boxed ((((w.alloc (.cells #[.int .i64 0, .int .i64 0, .int .i64 0, .int .i64 0, .int .i64 0, .int .i64 0] 171)).alloc (.cells #[.int .i64 0, .int .i64 0, .int .i64 0, .int .i64 0, .int .i64 0, .int .i64 0] 171)).alloc (.cells #[.bool (decide (0 < l.length))] 4)).alloc (.cells #[.slice p l.length cap] 91)) (w.heap.size + 2) 4 (.bool (decide (0 < l.length))) := by
    have := (Boxed.new ((w.alloc (.cells #[.int .i64 0, .int .i64 0, .int .i64 0, .int .i64 0, .int .i64 0, .int .i64 0] 171)).alloc (.cells #[.int .i64 0, .int .i64 0, .int .i64 0, .int .i64 0, .int .i64 0, .int .i64 0] 171)) 4 (.bool (decide (0 < l.length)))).alloc (.cells #[.slice p l.length cap] 91)
    rwa [World.size_alloc, World.size_alloc] at this
  have b3 : Boxed ((((w.alloc (.cells #[.int .i64 0, .int .i64 0, .int .i64 0, .int .i64 0, .int .i64 0, .int .i64 0] 171)).alloc (.cells #[.int .i64 0, .int .i64 0, .int .i64 0, .int .i64 0, .int .i64 0, .int .i64 0] 171)).alloc (.cells #[.bool (decide (0 < l.length))] 4)).alloc (.cells #[.slice p l.length cap] 91)) (w.heap.size + 3) 91 (.slice p l.length cap) := by
    have := Boxed.new (((w.alloc (.cells #[.int .i64 0, .int .i64 0, .int .i64 0, .int .i64 0, .int .i64 0, .int .i64 0] 171)).alloc (.cells #[.int .i64 0, .int .i64 0, .int .i64 0, .int .i64 0, .int .i64 0, .int .i64 0] 171)).alloc (.cells #[.bool (decide (0 < l.length))] 4)) 91 (.slice p l.length cap)
    rwa [World.size_alloc, World.size_alloc, World.size_alloc] at this
  generalize ((((w.alloc (.cells #[.int .i64 0, .int .i64 0, .int .i64 0, .int .i64 0, .int .i64 0, .int .i64 0] 171)).alloc (.cells #[.int .i64 0, .int .i64 0, .int .i64 0, .int .i64 0, .int .i64 0, .int .i64 0] 171)).alloc (.cells #[.bool (decide (0 < l.length))] 4)).alloc (.cells #[.slice p l.length cap] 91)) = W0 at *
  generalize hD : decide (0 < l.length) = D at *
  refine wpIn_rangeFunc_ownO (k := 0) rfl (by decide) (gf := 171) (lb := #[.pointer (some ⟨w.heap.size + 1 + 1 + 1, 0, none⟩)]) rfl trivial (enters_of Tryz.func171 (by kernel_rfl) rfl)
    (placed_stops 3 (by decide) (w.heap.size + 3) w.heap.size p cap l hl W0 (by omega) b3 ((unveil HT).below hbe)) Below.trans (fun W lb o o' hlb hlo _ _ => ?kb) (Below.refl _ _) (fun _ => rfl)
    (CrI w l R) (fun c _ W => CrX w R c W) (by rw [hz]; exact CrI.abides w l R) (fun c => by rw [hz]; exact CrX.abides w R c)
    ⟨zTy, b1, by unfold Hid Ty.ok zTy; simp, b0, by rw [hD]; exact b2, hbe, fun rest h => by rw [List.nil_append] at h; rw [h]; exact unveil HR0⟩
    (fun x => { tmps := #[.slice p l.length cap, undef, .pointer (some ⟨w.heap.size, 0, none⟩), .bool false, .pointer (some ⟨w.heap.size + 1, 0, none⟩), .pointer (some ⟨w.heap.size + 1 + 1, 0, none⟩), .int .i64 (plcM x), .bool (thrM x), .slice p l.length cap, .int .i64 l.length, .bool D, .slice p l.length cap, .func (.func 171) #[] #[.pointer (some ⟨w.heap.size + 1 + 1 + 1, 0, none⟩)], .int .i64 (plcM x), .bool (thrM x), undef, undef, undef, undef, undef, undef, undef, undef, undef, undef, undef, undef, undef, undef, undef, undef, undef, undef], defers := [] })
    ?assign ?body ?done ?stop
  case kb =>
    have hlt := (Array.getElem?_eq_some_iff.1 hlo).1
    exact (Below.refl _ W).grown (grownBy_putObj' W lb o') (by omega) (fun r e => by cases e; omega)
  case assign =>
    intro l' x W' K hK
    simp only [encS] at hK ⊢
    gi_wp2
    simpa using hK
  case body =>
    rintro l' pre x W1 hA hno ⟨T, c1, hok, c0, c2, hbe1, hcol⟩ hpre
    rw [hz] at hA hno
    obtain ⟨rest, hrest⟩ := hpre
    have hcol1 := unveil hcol (x :: rest) (by rw [← hrest]; simp)
    obtain ⟨m0, m1, m2, m3, m4, m5⟩ := (unveil HMO).below hbe1 hw0
    obtain ⟨t0, t1, t2, t3, t4, t5⟩ := c1.six
    have f0 := c1.frozen 0
    have f1 := c1.frozen 1
    have f2 := c1.frozen 2
    have f3 := c1.frozen 3
    have f4 := c1.frozen 4
    have f5 := c1.frozen 5
    have d2 := c2.cell
    have e2 := c2.frozen
    have hmix : Tryz.prog.follows .mixedOrders = true := by kernel_rfl
    have hX : T.more x = none → KeepsFrom W0.heap.size W1 (W1.drew.setCell ⟨w.heap.size + 1 + 1, 0, none⟩ (.bool false)) ∧ KeepsO (W0.heap.size + 2) 0 W1 (W1.drew.setCell ⟨w.heap.size + 1 + 1, 0, none⟩ (.bool false)) ∧ CrX w R (.exit 0) (W1.drew.setCell ⟨w.heap.size + 1 + 1, 0, none⟩ (.bool false)) := fun hm =>
      ⟨((KeepsOthers.drew _).from _).trans ((KeepsOthers.setCell _ _ _).from _), (KeepsO.drew _).trans (KeepsO.setCell (.inl (by omega))), rfl, T, (TBox.drewK c1).setCell (by omega) _, (TBox.drewK c0).setCell (by omega) _, Boxed.set _ (BoxedK.drew c2), (drewK hbe1).setCell (p := ⟨w.heap.size + 1 + 1, 0, none⟩) (by show _ ≤ w.heap.size + 1 + 1; omega) _, by
        rw [cntM, hm] at hcol1
        exact hcol1.symm⟩
    have hN : ∀ (T' : Ty) (i : Nat) (v : Value), T.more x = some T' → T.cells.setIfInBounds i v = T'.cells → KeepsFrom W0.heap.size W1 (W1.drew.setCell ⟨w.heap.size + 1, i, none⟩ v) ∧ KeepsO (W0.heap.size + 2) 0 W1 (W1.drew.setCell ⟨w.heap.size + 1, i, none⟩ v) ∧ Below w.heap.size W1 (W1.drew.setCell ⟨w.heap.size + 1, i, none⟩ v) ∧ CrI w l R (pre ++ [x]) (W1.drew.setCell ⟨w.heap.size + 1, i, none⟩ v) := fun T' i v hm hc =>
      ⟨((KeepsOthers.drew _).from _).trans ((KeepsOthers.setCell _ _ _).from _), (KeepsO.drew _).trans (KeepsO.grown (grown_setK _ _ _ _) (fun r e => .inl (by cases e; omega))), (drewK (Below.refl _ W1)).setCell (p := ⟨w.heap.size + 1, i, none⟩) (by show _ ≤ w.heap.size + 1; omega) _, T', (TBox.drewK c1).put i v hc, (more_some hm (unveil hok)).1, (TBox.drewK c0).setCell (by omega) _, BoxedK.setCell (BoxedK.drew c2) (by omega) _, (drewK hbe1).setCell (p := ⟨w.heap.size + 1, i, none⟩) (by show _ ≤ w.heap.size + 1; omega) _, fun rest' h => by
        rw [List.append_assoc] at h
        have := unveil hcol _ h
        rw [← this]
        exact ((more_some hm (unveil hok)).2 _).symm⟩
    have HX := veil hX
    have HN := veil hN
    have HOK := unveil hok
    unfold Ty.ok at HOK
    obtain ⟨⟨o0, p0⟩, ⟨o1, p1⟩, ⟨o2, p2⟩, ⟨o3, p3⟩, ⟨o4, p4⟩, ⟨o5, p5⟩⟩ := HOK
    have hl1 : w.heap.size + 1 < W1.heap.size := c1.lt
    have hl2 : w.heap.size + 1 + 1 < W1.heap.size := c2.lt
    clear hX hN hcol1 hcol hok hno hrest c0 c1 c2
    unfold Ty.more at HX HN
    obtain ⟨tc, ts, tl, ti, tg, tu⟩ := T
    simp only [Ty.cells] at *
    rcases plc_cases x with ⟨hth, hpl⟩ | ⟨hth, hpl⟩
    · rw [hth] at HX HN ⊢
      rw [hpl] at HX HN ⊢
      gi_wp2
      refine wpIn_region_still_round 10 hmix (by kernel_rfl) (by kernel_rfl) ?_
      simp only [List.take_succ_cons, List.take_zero, List.drop_succ_cons, List.drop_zero]
      refine still_first (fun K hK => ?_)
      iterate 10 (refine still_next hK (fun K1 hK1 => ?_); clear hK K; revert K1 hK1; intro K hK; go_simp)
      refine still_last hK ?_
      gi_wp2
      exact unveil HX rfl
    · rcases hpl with hpl | hpl | hpl | hpl | hpl | hpl
      · rw [hth] at HX HN ⊢
        rw [hpl] at HX HN ⊢
        cases hq : tc == 1
        · gi_wp2
          refine wpIn_region_still_round 10 hmix (by kernel_rfl) (by kernel_rfl) ?_
          simp only [List.take_succ_cons, List.take_zero, List.drop_succ_cons, List.drop_zero]
          refine still_first (fun K hK => ?_)
          iterate 10 (refine still_next hK (fun K1 hK1 => ?_); clear hK K; revert K1 hK1; intro K hK; go_simp)
          refine still_last hK ?_
          gi_wp2
          exact unveil HN ⟨tc + 1, ts, tl, ti, tg, tu⟩ 0 _ (by simp [hq]) rfl
        · gi_wp2
          refine wpIn_region_still_round 10 hmix (by kernel_rfl) (by kernel_rfl) ?_
          simp only [List.take_succ_cons, List.take_zero, List.drop_succ_cons, List.drop_zero]
          refine still_first (fun K hK => ?_)
          iterate 10 (refine still_next hK (fun K1 hK1 => ?_); clear hK K; revert K1 hK1; intro K hK; go_simp)
          refine still_last hK ?_
          gi_wp2
          exact unveil HX (by simp [hq])
      · rw [hth] at HX HN ⊢
        rw [hpl] at HX HN ⊢
        cases hq : ts == 1
        · gi_wp2
          refine wpIn_region_still_round 10 hmix (by kernel_rfl) (by kernel_rfl) ?_
          simp only [List.take_succ_cons, List.take_zero, List.drop_succ_cons, List.drop_zero]
          refine still_first (fun K hK => ?_)
          iterate 10 (refine still_next hK (fun K1 hK1 => ?_); clear hK K; revert K1 hK1; intro K hK; go_simp)
          refine still_last hK ?_
          gi_wp2
          exact unveil HN ⟨tc, ts + 1, tl, ti, tg, tu⟩ 1 _ (by simp [hq]) rfl
        · gi_wp2
          refine wpIn_region_still_round 10 hmix (by kernel_rfl) (by kernel_rfl) ?_
          simp only [List.take_succ_cons, List.take_zero, List.drop_succ_cons, List.drop_zero]
          refine still_first (fun K hK => ?_)
          iterate 10 (refine still_next hK (fun K1 hK1 => ?_); clear hK K; revert K1 hK1; intro K hK; go_simp)
          refine still_last hK ?_
          gi_wp2
          exact unveil HX (by simp [hq])
      · rw [hth] at HX HN ⊢
        rw [hpl] at HX HN ⊢
        cases hq : tl == 2
        · gi_wp2
          refine wpIn_region_still_round 10 hmix (by kernel_rfl) (by kernel_rfl) ?_
          simp only [List.take_succ_cons, List.take_zero, List.drop_succ_cons, List.drop_zero]
          refine still_first (fun K hK => ?_)
          iterate 10 (refine still_next hK (fun K1 hK1 => ?_); clear hK K; revert K1 hK1; intro K hK; go_simp)
          refine still_last hK ?_
          gi_wp2
          exact unveil HN ⟨tc, ts, tl + 1, ti, tg, tu⟩ 2 _ (by simp [hq]) rfl
        · gi_wp2
          refine wpIn_region_still_round 10 hmix (by kernel_rfl) (by kernel_rfl) ?_
          simp only [List.take_succ_cons, List.take_zero, List.drop_succ_cons, List.drop_zero]
          refine still_first (fun K hK => ?_)
          iterate 10 (refine still_next hK (fun K1 hK1 => ?_); clear hK K; revert K1 hK1; intro K hK; go_simp)
          refine still_last hK ?_
          gi_wp2
          exact unveil HX (by simp [hq])
      · rw [hth] at HX HN ⊢
        rw [hpl] at HX HN ⊢
        cases hq : ti == 1
        · gi_wp2
          refine wpIn_region_still_round 10 hmix (by kernel_rfl) (by kernel_rfl) ?_
          simp only [List.take_succ_cons, List.take_zero, List.drop_succ_cons, List.drop_zero]
          refine still_first (fun K hK => ?_)
          iterate 10 (refine still_next hK (fun K1 hK1 => ?_); clear hK K; revert K1 hK1; intro K hK; go_simp)
          refine still_last hK ?_
          gi_wp2
          exact unveil HN ⟨tc, ts, tl, ti + 1, tg, tu⟩ 3 _ (by simp [hq]) rfl
        · gi_wp2
          refine wpIn_region_still_round 10 hmix (by kernel_rfl) (by kernel_rfl) ?_
          simp only [List.take_succ_cons, List.take_zero, List.drop_succ_cons, List.drop_zero]
          refine still_first (fun K hK => ?_)
          iterate 10 (refine still_next hK (fun K1 hK1 => ?_); clear hK K; revert K1 hK1; intro K hK; go_simp)
          refine still_last hK ?_
          gi_wp2
          exact unveil HX (by simp [hq])
      · rw [hth] at HX HN ⊢
        rw [hpl] at HX HN ⊢
        cases hq : tg == 1
        · gi_wp2
          refine wpIn_region_still_round 10 hmix (by kernel_rfl) (by kernel_rfl) ?_
          simp only [List.take_succ_cons, List.take_zero, List.drop_succ_cons, List.drop_zero]
          refine still_first (fun K hK => ?_)
          iterate 10 (refine still_next hK (fun K1 hK1 => ?_); clear hK K; revert K1 hK1; intro K hK; go_simp)
          refine still_last hK ?_
          gi_wp2
          exact unveil HN ⟨tc, ts, tl, ti, tg + 1, tu⟩ 4 _ (by simp [hq]) rfl
        · gi_wp2
          refine wpIn_region_still_round 10 hmix (by kernel_rfl) (by kernel_rfl) ?_
          simp only [List.take_succ_cons, List.take_zero, List.drop_succ_cons, List.drop_zero]
          refine still_first (fun K hK => ?_)
          iterate 10 (refine still_next hK (fun K1 hK1 => ?_); clear hK K; revert K1 hK1; intro K hK; go_simp)
          refine still_last hK ?_
          gi_wp2
          exact unveil HX (by simp [hq])
      · rw [hth] at HX HN ⊢
        rw [hpl] at HX HN ⊢
        cases hq : tu == 1
        · gi_wp2
          refine wpIn_region_still_round 10 hmix (by kernel_rfl) (by kernel_rfl) ?_
          simp only [List.take_succ_cons, List.take_zero, List.drop_succ_cons, List.drop_zero]
          refine still_first (fun K hK => ?_)
          iterate 10 (refine still_next hK (fun K1 hK1 => ?_); clear hK K; revert K1 hK1; intro K hK; go_simp)
          refine still_last hK ?_
          gi_wp2
          exact unveil HN ⟨tc, ts, tl, ti, tg, tu + 1⟩ 5 _ (by simp [hq]) rfl
        · gi_wp2
          refine wpIn_region_still_round 10 hmix (by kernel_rfl) (by kernel_rfl) ?_
          simp only [List.take_succ_cons, List.take_zero, List.drop_succ_cons, List.drop_zero]
          refine still_first (fun K hK => ?_)
          iterate 10 (refine still_next hK (fun K1 hK1 => ?_); clear hK K; revert K1 hK1; intro K hK; go_simp)
          refine still_last hK ?_
          gi_wp2
          exact unveil HX (by simp [hq])
  case done =>
    rintro D' W' hD' ⟨T, c1, hok, c0, c2, hbe1, hcol⟩ hK
    have hRR := veil (unveil hcol [] (by simp))
    obtain ⟨t0, t1, t2, t3, t4, t5⟩ := c1.six
    obtain ⟨z0, z1, z2, z3, z4, z5⟩ := c0.six
    have f0 := c0.frozen 0
    have f1 := c0.frozen 1
    have f2 := c0.frozen 2
    have f3 := c0.frozen 3
    have f4 := c0.frozen 4
    have f5 := c0.frozen 5
    have d2 := c2.cell
    rw [hD] at d2
    have HC0 := veil c0
    have HBB := veil hbe1
    have HK := veil hK
    obtain ⟨tc, ts, tl, ti, tg, tu⟩ := T
    simp only [zTy] at *
    have hKlt := (Array.getElem?_eq_some_iff.1 hK).1
    clear c0 c1 c2 hok hcol hK hbe1
    have hfin := count_fin (tc := tc) (ts := ts) (tl := tl) (ti := ti) (tg := tg) (tu := tu) (unveil HC0) (unveil HBB) (unveil HK) (by omega)
    unfold put6K at hfin
    have HF := veil hfin
    clear hfin
    gi_wp2
    gi_region
    all_goals (
      gi_wp2
      obtain ⟨hT6, hK', hb'⟩ := unveil HF
      generalize ((((((W'.setCell ⟨w.heap.size, 0, none⟩ (.int .i64 tc)).setCell ⟨w.heap.size, 1, none⟩ (.int .i64 ts)).setCell ⟨w.heap.size, 2, none⟩ (.int .i64 tl)).setCell ⟨w.heap.size, 3, none⟩ (.int .i64 ti)).setCell ⟨w.heap.size, 4, none⟩ (.int .i64 tg)).setCell ⟨w.heap.size, 5, none⟩ (.int .i64 tu)).drew = W6 at hT6 hK' hb' ⊢
      refine ⟨by simp, .inl ⟨_, _, rfl, run_takeDeferred hK', ?_⟩⟩
      refine ⟨_, res_count rfl (((grownBy_putObj' W6 D' _).block w.heap.size hT6.lt (fun e => by cases e; omega)).trans hT6) rfl, ?_, hb'.grown (grownBy_putObj' W6 D' _) hb'.size (fun r e => by cases e; omega)⟩
      rw [← unveil hRR]
      simp [cntM, Ty.cells, ← hD])
  case stop =>
    rintro D' c pre W' hD' _ ⟨rfl, T, c1, c0, c2, hbe1, hR⟩ hK
    obtain ⟨t0, t1, t2, t3, t4, t5⟩ := c1.six
    obtain ⟨z0, z1, z2, z3, z4, z5⟩ := c0.six
    have f0 := c0.frozen 0
    have f1 := c0.frozen 1
    have f2 := c0.frozen 2
    have f3 := c0.frozen 3
    have f4 := c0.frozen 4
    have f5 := c0.frozen 5
    have d2 := c2.cell
    have HC0 := veil c0
    have HBB := veil hbe1
    have HK := veil hK
    obtain ⟨tc, ts, tl, ti, tg, tu⟩ := T
    simp only [zTy] at *
    have hKlt := (Array.getElem?_eq_some_iff.1 hK).1
    clear c0 c1 c2 hK hbe1
    have hfin := count_fin (tc := tc) (ts := ts) (tl := tl) (ti := ti) (tg := tg) (tu := tu) (unveil HC0) (unveil HBB) (unveil HK) (by omega)
    unfold put6K at hfin
    have HF := veil hfin
    clear hfin
    gi_wp2
    gi_region
    all_goals (
      gi_wp2
      obtain ⟨hT6, hK', hb'⟩ := unveil HF
      generalize ((((((W'.setCell ⟨w.heap.size, 0, none⟩ (.int .i64 tc)).setCell ⟨w.heap.size, 1, none⟩ (.int .i64 ts)).setCell ⟨w.heap.size, 2, none⟩ (.int .i64 tl)).setCell ⟨w.heap.size, 3, none⟩ (.int .i64 ti)).setCell ⟨w.heap.size, 4, none⟩ (.int .i64 tg)).setCell ⟨w.heap.size, 5, none⟩ (.int .i64 tu)).drew = W6 at hT6 hK' hb' ⊢
      refine ⟨by simp, .inl ⟨_, _, rfl, run_takeDeferred hK', ?_⟩⟩
      refine ⟨_, res_count rfl (((grownBy_putObj' W6 D' _).block w.heap.size hT6.lt (fun e => by cases e; omega)).trans hT6) rfl, ?_, hb'.grown (grownBy_putObj' W6 D' _) hb'.size (fun r e => by cases e; omega)⟩
      rw [unveil hR]
      simp [Ty.cells])
end Go.Proofs.YtmpkgjonbjpohaaGreatDoor
namespace Go.Proofs.YtmpkgjonbjpohaaGreatDoor
open Go Go.RowKit Go.Shelf
set_option linter.unusedVariables false
set_option linter.unusedSimpArgs false

def Ty.tog (t : Ty) : Bool := !(decide (0 < t.c) && (decide (0 < t.s) || decide (0 < t.l) || decide (0 < t.i))) && !(decide (0 < t.s) && decide (0 < t.l)) && (t.g == 0 || t.u == 0)
def Ty.kin (t : Ty) : Int := if 0 < t.c then (if 0 < t.u then 2 else 1) else if 0 < t.s then (if 0 < t.u then 4 else 3) else if 0 < t.l then (if 0 < t.u then 8 else 7) else (if 0 < t.u then 6 else 5)
set_option maxRecDepth 100000 in
set_option maxHeartbeats 8000000 in
theorem together_any (t : Ty) (w : World) : Calls Tryz.prog 137 #[.agg t.cells] w fun e w' => e = .returned (.bool t.tog) ∧ Below w.heap.size w w' := by
  have HB : Hid (Below w.heap.size w (w.alloc (.cells t.cells 171))) := (Below.refl _ w).alloc (Nat.le_refl _) _
  have b0 : TBox (w.alloc (.cells t.cells 171)) w.heap.size t := World.alloc_heap_new w _
  have HX := veil b0
  clear b0
  unfold Ty.tog
  obtain ⟨c, s, l, i, g, u⟩ := t
  simp only [Ty.cells] at *
  cases hc : decide (0 < c)
  · cases hs : decide (0 < s)
    · cases hl : decide (0 < l)
      · cases hg : g == 0
        · cases hu : u == 0
          · go_enter Tryz.func137, Tryz.ntmps137
            go_upto_region 1 with fail
            generalize w.alloc (.cells #[.int .i64 c, .int .i64 s, .int .i64 l, .int .i64 i, .int .i64 g, .int .i64 u] 171) = W1 at HX HB ⊢
            obtain ⟨x0, x1, x2, x3, x4, x5⟩ := (unveil HX).six
            simp only at x0 x1 x2 x3 x4 x5
            go_quiet (fail)
            go_wp2
            go_ret
            exact ⟨by simp [*], by have := unveil HB; exact ⟨this.os, this.tape, this.output, this.size, this.block⟩⟩
          · go_enter Tryz.func137, Tryz.ntmps137
            go_upto_region 1 with fail
            generalize w.alloc (.cells #[.int .i64 c, .int .i64 s, .int .i64 l, .int .i64 i, .int .i64 g, .int .i64 u] 171) = W1 at HX HB ⊢
            obtain ⟨x0, x1, x2, x3, x4, x5⟩ := (unveil HX).six
            simp only at x0 x1 x2 x3 x4 x5
            go_quiet (fail)
            go_wp2
            go_ret
            exact ⟨by simp [*], by have := unveil HB; exact ⟨this.os, this.tape, this.output, this.size, this.block⟩⟩
        · go_enter Tryz.func137, Tryz.ntmps137
          go_upto_region 1 with fail
          generalize w.alloc (.cells #[.int .i64 c, .int .i64 s, .int .i64 l, .int .i64 i, .int .i64 g, .int .i64 u] 171) = W1 at HX HB ⊢
          obtain ⟨x0, x1, x2, x3, x4, x5⟩ := (unveil HX).six
          simp only at x0 x1 x2 x3 x4 x5
          go_quiet (fail)
          go_wp2
          go_ret
          exact ⟨by simp [*], by have := unveil HB; exact ⟨this.os, this.tape, this.output, this.size, this.block⟩⟩
      · cases hg : g == 0
        · cases hu : u == 0
          · go_enter Tryz.func137, Tryz.ntmps137
            go_upto_region 1 with fail
            generalize w.alloc (.cells #[.int .i64 c, .int .i64 s, .int .i64 l, .int .i64 i, .int .i64 g, .int .i64 u] 171) = W1 at HX HB ⊢
            obtain ⟨x0, x1, x2, x3, x4, x5⟩ := (unveil HX).six
            simp only at x0 x1 x2 x3 x4 x5
            go_quiet (fail)
            go_wp2
            go_ret
            exact ⟨by simp [*], by have := unveil HB; exact ⟨this.os, this.tape, this.output, this.size, this.block⟩⟩
          · go_enter Tryz.func137, Tryz.ntmps137
            go_upto_region 1 with fail
            generalize w.alloc (.cells #[.int .i64 c, .int .i64 s, .int .i64 l, .int .i64 i, .int .i64 g, .int .i64 u] 171) = W1 at HX HB ⊢
            obtain ⟨x0, x1, x2, x3, x4, x5⟩ := (unveil HX).six
            simp only at x0 x1 x2 x3 x4 x5
            go_quiet (fail)
            go_wp2
            go_ret
            exact ⟨by simp [*], by have := unveil HB; exact ⟨this.os, this.tape, this.output, this.size, this.block⟩⟩
        · go_enter Tryz.func137, Tryz.ntmps137
          go_upto_region 1 with fail
          generalize w.alloc (.cells #[.int .i64 c, .int .i64 s, .int .i64 l, .int .i64 i, .int .i64 g, .int .i64 u] 171) = W1 at HX HB ⊢
          obtain ⟨x0, x1, x2, x3, x4, x5⟩ := (unveil HX).six
          simp only at x0 x1 x2 x3 x4 x5
          go_quiet (fail)
          go_wp2
          go_ret
          exact ⟨by simp [*], by have := unveil HB; exact ⟨this.os, this.tape, this.output, this.size, this.block⟩⟩
    · cases hl : decide (0 < l)
      · cases hg : g == 0
        · cases hu : u == 0
          · go_enter Tryz.func137, Tryz.ntmps137
            go_upto_region 1 with fail
            generalize w.alloc (.cells #[.int .i64 c, .int .i64 s, .int .i64 l, .int .i64 i, .int .i64 g, .int .i64 u] 171) = W1 at HX HB ⊢
            obtain ⟨x0, x1, x2, x3, x4, x5⟩ := (unveil HX).six
            simp only at x0 x1 x2 x3 x4 x5
            go_quiet (fail)
            go_wp2
            go_ret
            exact ⟨by simp [*], by have := unveil HB; exact ⟨this.os, this.tape, this.output, this.size, this.block⟩⟩
          · go_enter Tryz.func137, Tryz.ntmps137
            go_upto_region 1 with fail
            generalize w.alloc (.cells #[.int .i64 c, .int .i64 s, .int .i64 l, .int .i64 i, .int .i64 g, .int .i64 u] 171) = W1 at HX HB ⊢
            obtain ⟨x0, x1, x2, x3, x4, x5⟩ := (unveil HX).six
            simp only at x0 x1 x2 x3 x4 x5
            go_quiet (fail)
            go_wp2
            go_ret
            exact ⟨by simp [*], by have := unveil HB; exact ⟨this.os, this.tape, this.output, this.size, this.block⟩⟩
        · go_enter Tryz.func137, Tryz.ntmps137
          go_upto_region 1 with fail
          generalize w.alloc (.cells #[.int .i64 c, .int .i64 s, .int .i64 l, .int .i64 i, .int .i64 g, .int .i64 u] 171) = W1 at HX HB ⊢
          obtain ⟨x0, x1, x2, x3, x4, x5⟩ := (unveil HX).six
          simp only at x0 x1 x2 x3 x4 x5
          go_quiet (fail)
          go_wp2
          go_ret
          exact ⟨by simp [*], by have := unveil HB; exact ⟨this.os, this.tape, this.output, this.size, this.block⟩⟩
      · go_enter Tryz.func137, Tryz.ntmps137
        go_upto_region 1 with fail
        generalize w.alloc (.cells #[.int .i64 c, .int .i64 s, .int .i64 l, .int .i64 i, .int .i64 g, .int .i64 u] 171) = W1 at HX HB ⊢
        obtain ⟨x0, x1, x2, x3, x4, x5⟩ := (unveil HX).six
        simp only at x0 x1 x2 x3 x4 x5
        go_quiet (fail)
        go_wp2
        go_ret
        exact ⟨by simp [*], by have := unveil HB; exact ⟨this.os, this.tape, this.output, this.size, this.block⟩⟩
  · cases hs : decide (0 < s)
    · cases hl : decide (0 < l)
      · cases hi : decide (0 < i)
        · cases hg : g == 0
          · cases hu : u == 0
            · go_enter Tryz.func137, Tryz.ntmps137
              go_upto_region 1 with fail
              generalize w.alloc (.cells #[.int .i64 c, .int .i64 s, .int .i64 l, .int .i64 i, .int .i64 g, .int .i64 u] 171) = W1 at HX HB ⊢
              obtain ⟨x0, x1, x2, x3, x4, x5⟩ := (unveil HX).six
              simp only at x0 x1 x2 x3 x4 x5
              go_quiet (fail)
              go_wp2
              go_ret
              exact ⟨by simp [*], by have := unveil HB; exact ⟨this.os, this.tape, this.output, this.size, this.block⟩⟩
            · go_enter Tryz.func137, Tryz.ntmps137
              go_upto_region 1 with fail
              generalize w.alloc (.cells #[.int .i64 c, .int .i64 s, .int .i64 l, .int .i64 i, .int .i64 g, .int .i64 u] 171) = W1 at HX HB ⊢
              obtain ⟨x0, x1, x2, x3, x4, x5⟩ := (unveil HX).six
              simp only at x0 x1 x2 x3 x4 x5
              go_quiet (fail)
              go_wp2
              go_ret
              exact ⟨by simp [*], by have := unveil HB; exact ⟨this.os, this.tape, this.output, this.size, this.block⟩⟩
          · go_enter Tryz.func137, Tryz.ntmps137
            go_upto_region 1 with fail
            generalize w.alloc (.cells #[.int .i64 c, .int .i64 s, .int .i64 l, .int .i64 i, .int .i64 g, .int .i64 u] 171) = W1 at HX HB ⊢
            obtain ⟨x0, x1, x2, x3, x4, x5⟩ := (unveil HX).six
            simp only at x0 x1 x2 x3 x4 x5
            go_quiet (fail)
            go_wp2
            go_ret
            exact ⟨by simp [*], by have := unveil HB; exact ⟨this.os, this.tape, this.output, this.size, this.block⟩⟩
        · go_enter Tryz.func137, Tryz.ntmps137
          go_upto_region 1 with fail
          generalize w.alloc (.cells #[.int .i64 c, .int .i64 s, .int .i64 l, .int .i64 i, .int .i64 g, .int .i64 u] 171) = W1 at HX HB ⊢
          obtain ⟨x0, x1, x2, x3, x4, x5⟩ := (unveil HX).six
          simp only at x0 x1 x2 x3 x4 x5
          go_quiet (fail)
          go_wp2
          go_ret
          exact ⟨by simp [*], by have := unveil HB; exact ⟨this.os, this.tape, this.output, this.size, this.block⟩⟩
      · go_enter Tryz.func137, Tryz.ntmps137
        go_upto_region 1 with fail
        generalize w.alloc (.cells #[.int .i64 c, .int .i64 s, .int .i64 l, .int .i64 i, .int .i64 g, .int .i64 u] 171) = W1 at HX HB ⊢
        obtain ⟨x0, x1, x2, x3, x4, x5⟩ := (unveil HX).six
        simp only at x0 x1 x2 x3 x4 x5
        go_quiet (fail)
        go_wp2
        go_ret
        exact ⟨by simp [*], by have := unveil HB; exact ⟨this.os, this.tape, this.output, this.size, this.block⟩⟩
    · cases hl : decide (0 < l)
      · go_enter Tryz.func137, Tryz.ntmps137
        go_upto_region 1 with fail
        generalize w.alloc (.cells #[.int .i64 c, .int .i64 s, .int .i64 l, .int .i64 i, .int .i64 g, .int .i64 u] 171) = W1 at HX HB ⊢
        obtain ⟨x0, x1, x2, x3, x4, x5⟩ := (unveil HX).six
        simp only at x0 x1 x2 x3 x4 x5
        go_quiet (fail)
        go_wp2
        go_ret
        exact ⟨by simp [*], by have := unveil HB; exact ⟨this.os, this.tape, this.output, this.size, this.block⟩⟩
      · go_enter Tryz.func137, Tryz.ntmps137
        go_upto_region 1 with fail
        generalize w.alloc (.cells #[.int .i64 c, .int .i64 s, .int .i64 l, .int .i64 i, .int .i64 g, .int .i64 u] 171) = W1 at HX HB ⊢
        obtain ⟨x0, x1, x2, x3, x4, x5⟩ := (unveil HX).six
        simp only at x0 x1 x2 x3 x4 x5
        go_quiet (fail)
        go_wp2
        go_ret
        exact ⟨by simp [*], by have := unveil HB; exact ⟨this.os, this.tape, this.output, this.size, this.block⟩⟩
end Go.Proofs.YtmpkgjonbjpohaaGreatDoor
namespace Go.Proofs.YtmpkgjonbjpohaaGreatDoor
open Go Go.RowKit Go.Shelf
set_option linter.unusedVariables false
set_option linter.unusedSimpArgs false

set_option maxRecDepth 100000 in
set_option maxHeartbeats 8000000 in
theorem kindT_any (t : Ty) (w : World) : Calls Tryz.prog 138 #[.agg t.cells] w fun e w' => e = .returned (.int .i64 t.kin) ∧ Below w.heap.size w w' := by
  have HB : Hid (Below w.heap.size w (w.alloc (.cells t.cells 171))) := (Below.refl _ w).alloc (Nat.le_refl _) _
  have b0 : TBox (w.alloc (.cells t.cells 171)) w.heap.size t := World.alloc_heap_new w _
  have HX := veil b0
  clear b0
  have HE := veil either_any
  obtain ⟨K, hK⟩ : ∃ K, t.kin = K := ⟨_, rfl⟩
  rw [hK]
  have HK := veil hK
  clear hK
  unfold Ty.kin at HK
  obtain ⟨c, s, l, i, g, u⟩ := t
  simp only [Ty.cells] at *
  cases hu : decide (0 < u)
  · cases hc : decide (0 < c)
    · cases hs : decide (0 < s)
      · cases hl : decide (0 < l)
        · go_enter Tryz.func138, Tryz.ntmps138
          go_upto_region 1 with fail
          generalize w.alloc (.cells #[.int .i64 c, .int .i64 s, .int .i64 l, .int .i64 i, .int .i64 g, .int .i64 u] 171) = W1 at HX HB ⊢
          obtain ⟨x0, x1, x2, x3, x4, x5⟩ := (unveil HX).six
          simp only at x0 x1 x2 x3 x4 x5
          go_wp2_with (go_at_call 158; refine (unveil HE _ _ _ _).mono ?_; rintro e w' ⟨rfl, hw'⟩; obtain rfl := hw'.symm; simp only [if_true, Bool.false_eq_true, if_false])
          go_ret
          refine ⟨?_, unveil HB⟩
          rw [← unveil HK]
          simp only [decide_eq_true_eq, decide_eq_false_iff_not] at *
          simp [*]
        · go_enter Tryz.func138, Tryz.ntmps138
          go_upto_region 1 with fail
          generalize w.alloc (.cells #[.int .i64 c, .int .i64 s, .int .i64 l, .int .i64 i, .int .i64 g, .int .i64 u] 171) = W1 at HX HB ⊢
          obtain ⟨x0, x1, x2, x3, x4, x5⟩ := (unveil HX).six
          simp only at x0 x1 x2 x3 x4 x5
          go_wp2_with (go_at_call 158; refine (unveil HE _ _ _ _).mono ?_; rintro e w' ⟨rfl, hw'⟩; obtain rfl := hw'.symm; simp only [if_true, Bool.false_eq_true, if_false])
          go_ret
          refine ⟨?_, unveil HB⟩
          rw [← unveil HK]
          simp only [decide_eq_true_eq, decide_eq_false_iff_not] at *
          simp [*]
      · go_enter Tryz.func138, Tryz.ntmps138
        go_upto_region 1 with fail
        generalize w.alloc (.cells #[.int .i64 c, .int .i64 s, .int .i64 l, .int .i64 i, .int .i64 g, .int .i64 u] 171) = W1 at HX HB ⊢
        obtain ⟨x0, x1, x2, x3, x4, x5⟩ := (unveil HX).six
        simp only at x0 x1 x2 x3 x4 x5
        go_wp2_with (go_at_call 158; refine (unveil HE _ _ _ _).mono ?_; rintro e w' ⟨rfl, hw'⟩; obtain rfl := hw'.symm; simp only [if_true, Bool.false_eq_true, if_false])
        go_ret
        refine ⟨?_, unveil HB⟩
        rw [← unveil HK]
        simp only [decide_eq_true_eq, decide_eq_false_iff_not] at *
        simp [*]
    · go_enter Tryz.func138, Tryz.ntmps138
      go_upto_region 1 with fail
      generalize w.alloc (.cells #[.int .i64 c, .int .i64 s, .int .i64 l, .int .i64 i, .int .i64 g, .int .i64 u] 171) = W1 at HX HB ⊢
      obtain ⟨x0, x1, x2, x3, x4, x5⟩ := (unveil HX).six
      simp only at x0 x1 x2 x3 x4 x5
      go_wp2_with (go_at_call 158; refine (unveil HE _ _ _ _).mono ?_; rintro e w' ⟨rfl, hw'⟩; obtain rfl := hw'.symm; simp only [if_true, Bool.false_eq_true, if_false])
      go_ret
      refine ⟨?_, unveil HB⟩
      rw [← unveil HK]
      simp only [decide_eq_true_eq, decide_eq_false_iff_not] at *
      simp [*]
  · cases hc : decide (0 < c)
    · cases hs : decide (0 < s)
      · cases hl : decide (0 < l)
        · go_enter Tryz.func138, Tryz.ntmps138
          go_upto_region 1 with fail
          generalize w.alloc (.cells #[.int .i64 c, .int .i64 s, .int .i64 l, .int .i64 i, .int .i64 g, .int .i64 u] 171) = W1 at HX HB ⊢
          obtain ⟨x0, x1, x2, x3, x4, x5⟩ := (unveil HX).six
          simp only at x0 x1 x2 x3 x4 x5
          go_wp2_with (go_at_call 158; refine (unveil HE _ _ _ _).mono ?_; rintro e w' ⟨rfl, hw'⟩; obtain rfl := hw'.symm; simp only [if_true, Bool.false_eq_true, if_false])
          go_ret
          refine ⟨?_, unveil HB⟩
          rw [← unveil HK]
          simp only [decide_eq_true_eq, decide_eq_false_iff_not] at *
          simp [*]
        · go_enter Tryz.func138, Tryz.ntmps138
          go_upto_region 1 with fail
          generalize w.alloc (.cells #[.int .i64 c, .int .i64 s, .int .i64 l, .int .i64 i, .int .i64 g, .int .i64 u] 171) = W1 at HX HB ⊢
          obtain ⟨x0, x1, x2, x3, x4, x5⟩ := (unveil HX).six
          simp only at x0 x1 x2 x3 x4 x5
          go_wp2_with (go_at_call 158; refine (unveil HE _ _ _ _).mono ?_; rintro e w' ⟨rfl, hw'⟩; obtain rfl := hw'.symm; simp only [if_true, Bool.false_eq_true, if_false])
          go_ret
          refine ⟨?_, unveil HB⟩
          rw [← unveil HK]
          simp only [decide_eq_true_eq, decide_eq_false_iff_not] at *
          simp [*]
      · go_enter Tryz.func138, Tryz.ntmps138
        go_upto_region 1 with fail
        generalize w.alloc (.cells #[.int .i64 c, .int .i64 s, .int .i64 l, .int .i64 i, .int .i64 g, .int .i64 u] 171) = W1 at HX HB ⊢
        obtain ⟨x0, x1, x2, x3, x4, x5⟩ := (unveil HX).six
        simp only at x0 x1 x2 x3 x4 x5
        go_wp2_with (go_at_call 158; refine (unveil HE _ _ _ _).mono ?_; rintro e w' ⟨rfl, hw'⟩; obtain rfl := hw'.symm; simp only [if_true, Bool.false_eq_true, if_false])
        go_ret
        refine ⟨?_, unveil HB⟩
        rw [← unveil HK]
        simp only [decide_eq_true_eq, decide_eq_false_iff_not] at *
        simp [*]
    · go_enter Tryz.func138, Tryz.ntmps138
      go_upto_region 1 with fail
      generalize w.alloc (.cells #[.int .i64 c, .int .i64 s, .int .i64 l, .int .i64 i, .int .i64 g, .int .i64 u] 171) = W1 at HX HB ⊢
      obtain ⟨x0, x1, x2, x3, x4, x5⟩ := (unveil HX).six
      simp only at x0 x1 x2 x3 x4 x5
      go_wp2_with (go_at_call 158; refine (unveil HE _ _ _ _).mono ?_; rintro e w' ⟨rfl, hw'⟩; obtain rfl := hw'.symm; simp only [if_true, Bool.false_eq_true, if_false])
      go_ret
      refine ⟨?_, unveil HB⟩
      rw [← unveil HK]
      simp only [decide_eq_true_eq, decide_eq_false_iff_not] at *
      simp [*]
/-- The kind that words say, or the error. -/
def kofM (l : List (List UInt8)) : Int × Int := if (cntM zTy l).2 && decide (0 < l.length) && (cntM zTy l).1.tog then ((cntM zTy l).1.kin, 0) else (0, 80)
set_option maxRecDepth 100000 in
set_option maxHeartbeats 8000000 in
theorem Of_any (p : Option Addr) (cap : Nat) (l : List (List UInt8)) (w : World) (hl : l.length ≤ 9223372036854775806) (hT : StG w.heap.size w (.slice p l.length cap) l) (hmo : Mo w) (hw0 : 10 < w.heap.size) :
    Calls Tryz.prog 125 #[.slice p l.length cap] w fun e w' => e = .returned (.tuple #[.int .i64 (kofM l).1, .int .i64 (kofM l).2]) ∧ Below w.heap.size w w' := by
  have HC := veil (count_any p cap l w hl hT hmo hw0)
  clear hT hmo hw0 hl
  unfold kofM
  generalize cntM zTy l = R at *
  obtain ⟨T, k⟩ := R
  generalize decide (0 < l.length) = D at *
  simp only at *
  have HTG := veil (together_any T)
  have HKI := veil (kindT_any T)
  generalize T.tog = TG at *
  generalize T.kin = KI at *
  obtain ⟨c, s, tl, i, g, u⟩ := T
  simp only [Ty.cells] at *
  cases hk : k && D
  · rw [hk] at HC
    clear hk HTG HKI
    go_enter Tryz.func125, Tryz.ntmps125
    go_wp2_with (go_at_call 136; refine (unveil HC).mono ?_; rintro e W1 ⟨rfl, hb1⟩)
    go_ret2
    exact ⟨rfl, hb1.alloc hb1.size _⟩
  · rw [hk] at HC
    clear hk
    cases TG
    · go_enter Tryz.func125, Tryz.ntmps125
      go_wp2_with (first
        | (go_at_call 136; refine (unveil HC).mono ?_; rintro e W1 ⟨rfl, hb1⟩)
        | (go_at_call 137; refine (unveil HTG _).mono ?_; rintro e W2 ⟨rfl, hb2⟩))
      go_ret2
      exact ⟨rfl, (hb1.alloc hb1.size _).trans (hb2.mono (by have := hb1.size; simp; omega))⟩
    · go_enter Tryz.func125, Tryz.ntmps125
      go_wp2_with (first
        | (go_at_call 136; refine (unveil HC).mono ?_; rintro e W1 ⟨rfl, hb1⟩)
        | (go_at_call 137; refine (unveil HTG _).mono ?_; rintro e W2 ⟨rfl, hb2⟩
           have e1 := hb2.cell (p := ⟨W1.heap.size, 0, none⟩) (by simp)
           have e2 := hb2.cell (p := ⟨W1.heap.size, 1, none⟩) (by simp)
           have e3 := hb2.cell (p := ⟨W1.heap.size, 2, none⟩) (by simp)
           have e4 := hb2.cell (p := ⟨W1.heap.size, 3, none⟩) (by simp)
           have e5 := hb2.cell (p := ⟨W1.heap.size, 4, none⟩) (by simp)
           have e6 := hb2.cell (p := ⟨W1.heap.size, 5, none⟩) (by simp))
        | (go_at_call 138; refine (unveil HKI _).mono ?_; rintro e W3 ⟨rfl, hb3⟩))
      go_ret2
      have hs := hb1.size
      have hs2 := hb2.size
      simp at hs2
      exact ⟨rfl, ((hb1.alloc hb1.size _).trans (hb2.mono (by simp; omega))).trans (hb3.mono (by omega))⟩
end Go.Proofs.YtmpkgjonbjpohaaGreatDoor
