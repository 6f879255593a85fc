/-
  text.physical: the physical lines of every string, one by one, for whatever loop body.
-/
import Derived.Test.YtaoekfokpbebfaaDoorTd
import Derived.Test.YtaoekfokpbebfaaDoorReg
namespace Go.Proofs.YtaoekfokpbebfaaDoor.Sx
open Go Go.RowKit Go.Shelf
attribute [local go_sem] Oper.semAt_some
set_option linter.unusedVariables false

theorem Boxed.below {W W' : World} {n b : Nat} {t : TypeId} {v : Value} (h : Boxed W b t v) (hb : Below n W W') (hn : b < n) : Boxed W' b t v := (hb.block b hn).trans h
theorem Boxed.drew {W : World} {b : Nat} {t : TypeId} {v : Value} (h : Boxed W b t v) : Boxed W.drew b t v := h

set_option maxHeartbeats 400000 in
theorem lineEnds_any (s : ByteArray) (w : World) :
    Calls Tryd.prog 38 #[.string s] w fun e w' => e = .returned (.func (.func 49) #[] #[.pointer (some ⟨w.heap.size, 0, none⟩)]) ∧ w' = w.alloc (.cells #[.string s] 9) := by
  go_enter Tryd.func38, Tryd.ntmps38
  go_wp2
  go_ret
  exact ⟨rfl, rfl⟩

theorem lineEnds_stops (n : Nat) (h1 : 1 ≤ n) (Bd : Nat) (s : ByteArray) (hs : s.size ≤ maxLen) (w : World) (hb : Boxed w Bd 9 (.string s)) :
    SeqStopsO Fence.wide n 0 Tryd.prog 49 #[.pointer (some ⟨Bd, 0, none⟩)] encE (keepsB Bd) (Tx.endsAt s.data.toList 0) w :=
  fun l J Jx W hW _ _ hY h0 => lineEnds1_in n h1 l Bd s hs J Jx W.heap.size hY W (Nat.le_refl _) (Boxed.below hb hW hb.lt) h0

theorem keepsB_t {b : Nat} {A B C : World} (h : keepsB b A B) (k : keepsB b B C) : keepsB b A C := Eq.trans k h
theorem keepsB_b {b m : Nat} (hb : b < m) (W : World) (l : Nat) (o o' : Obj) (hl : m ≤ l) (_ : W.heap[l]? = some o) (_ : o.isCells = false) (_ : o.isWalk = false) : keepsB b W (W.putObj l o') :=
  World.putObj_heap_other (by omega)

theorem Boxed.turn {W W' : World} {row : Option Nat} {b : Nat} {t : TypeId} {v : Value} (h : Boxed W b t v) (hg : W.grownBy W' row) (hr : ∀ r, row = some r → b < r) : Boxed W' b t v :=
  h.kept hg (fun e => by have := hr b e.symm; omega)
theorem Boxed.keepsO {B k : Nat} {W W' : World} {b : Nat} {t : TypeId} {v : Value} (h : Boxed W b t v) (hk : KeepsO B k W W') (h1 : B ≤ b) (h2 : b < B + k) : Boxed W' b t v :=
  hk.same b _ h1 h (.inr h2)
theorem Boxed.keepsB {W W' : World} {b : Nat} {t : TypeId} {v : Value} (h : Boxed W b t v) (hk : keepsB b W W') : Boxed W' b t v := Eq.trans hk h
theorem noRow_three {W : World} {B : Nat} {t0 t1 t2 : Value} (h0 : Boxed W B 77 t0) (h1 : Boxed W (B + 1) 3 t1) (h2 : Boxed W (B + 2) 9 t2) : noRow 5 B 3 W := by
  intro j c fz hj hj' h
  obtain rfl | rfl | rfl : j = B ∨ j = B + 1 ∨ j = B + 2 := by omega
  · rw [show W.heap[j]? = _ from h0] at h; cases h
  · rw [show W.heap[B + 1]? = _ from h1] at h; cases h
  · rw [show W.heap[B + 2]? = _ from h2] at h; cases h
theorem roundIn_any {m m' l l' : Nat} {P : Program} {f : FuncId} {tmps : Array Value} {assign body : Code} {w : World} {R : Ending → World → Prop}
    (h : RoundIn Fence.wide m P l f tmps assign body w R) : RoundIn (Fence.wide.inRound l') m' P l f tmps assign body w R :=
  ⟨h.1, fun c cs _ => h.2 c cs (room_wide _)⟩

def encP (x : List UInt8 × Bool) : Array Value := #[.string ⟨x.1.toArray⟩, .bool x.2]

theorem take_data (s : ByteArray) (a b : Nat) : (⟨((s.data.toList.drop a).take (b - a)).toArray⟩ : ByteArray) = s.extract a b := by
  refine WideShapes.bytes_inj ?_
  rw [ByteArray.data_extract, Array.toList_extract]

set_option maxHeartbeats 1000000 in
theorem physical1_in (n : Nat) (hn : 5 ≤ n) (l Bd : Nat) (s : ByteArray) (hs : s.size ≤ maxLen) (J Jx : List (List UInt8 × Bool) → World → Prop) (W : World)
    (hJ : AbidesO W.heap.size W.heap.size 3 J) (hJx : AbidesO W.heap.size W.heap.size 3 Jx)
    (hY : ∀ pre x W1, J pre W1 → W.heap.size + 3 ≤ W1.heap.size → noRow 5 W.heap.size 3 W1 → pre ++ [x] <+: Tx.phys s.data.toList → YieldAt Fence.wide (n - 1) Tryd.prog l (encP x) W1 fun e W' =>
      (e = .returned (.bool true) ∧ J (pre ++ [x]) W' ∧ KeepsO W.heap.size 3 W1 W' ∧ keepsB Bd W1 W') ∨ (e = .returned (.bool false) ∧ Jx (pre ++ [x]) W' ∧ KeepsO W.heap.size 3 W1 W'))
    (hBd : Boxed W Bd 9 (.string s)) (h0 : J [] W) :
    CallsIn Fence.wide n Tryd.prog 37 #[.func (.yield l) #[] #[], .pointer (some ⟨Bd, 0, none⟩)] W fun e W' => (∃ v, e = .returned v) ∧
      (J (Tx.phys s.data.toList) W' ∨ (∃ pre, pre <+: Tx.phys s.data.toList ∧ Jx pre W')) := by
  have h1 : 1 ≤ n := by omega
  have hs' : s.size ≤ 2 ^ 63 - 1 := hs
  have hc := hBd.cell
  refine callsIn_of_wp_marks Tryd.func37 rfl trivial ?_ rfl
  simp only [Tryd.ntmps37, List.size_toArray, List.length_cons, List.length_nil, Nat.reduceAdd, Nat.reduceSub, Array.replicate_succ, Array.replicate_zero, List.push_toArray, List.append_toArray, List.nil_append, List.cons_append]
  have hc2 : ((W.alloc (.cells #[.func (.yield l) #[] #[]] 77)).alloc (.cells #[.int .i64 0] 3)).cell? ⟨Bd, 0, none⟩ = some (.string s) := ((hBd.alloc _).alloc _).cell
  gi_wp2_with (refine ⟨trivial, ?_⟩; gi_at_call 38; refine (callsIn_wide.2 (lineEnds_any s _)).mono ?_; rintro e w' ⟨rfl, rfl⟩)
  have b1 : Boxed (((W.alloc (.cells #[.func (.yield l) #[] #[]] 77)).alloc (.cells #[.int .i64 0] 3)).alloc (.cells #[.string s] 9)) W.heap.size 77 (.func (.yield l) #[] #[]) := ((Boxed.new W 77 _).alloc _).alloc _
  have b2 : Boxed (((W.alloc (.cells #[.func (.yield l) #[] #[]] 77)).alloc (.cells #[.int .i64 0] 3)).alloc (.cells #[.string s] 9)) (W.heap.size + 1) 3 (.int .i64 0) := by
    have := (Boxed.new (W.alloc (.cells #[.func (.yield l) #[] #[]] 77)) 3 (.int .i64 0)).alloc (.cells #[.string s] 9)
    rwa [World.size_alloc] at this
  have b3 : Boxed (((W.alloc (.cells #[.func (.yield l) #[] #[]] 77)).alloc (.cells #[.int .i64 0] 3)).alloc (.cells #[.string s] 9)) (W.heap.size + 2) 9 (.string s) := by
    have := Boxed.new ((W.alloc (.cells #[.func (.yield l) #[] #[]] 77)).alloc (.cells #[.int .i64 0] 3)) 9 (.string s)
    rwa [World.size_alloc, World.size_alloc] at this
  have b4 : Boxed (((W.alloc (.cells #[.func (.yield l) #[] #[]] 77)).alloc (.cells #[.int .i64 0] 3)).alloc (.cells #[.string s] 9)) Bd 9 (.string s) := ((hBd.alloc _).alloc _).alloc _
  have hj0 : J [] (((W.alloc (.cells #[.func (.yield l) #[] #[]] 77)).alloc (.cells #[.int .i64 0] 3)).alloc (.cells #[.string s] 9)) := hJ.alloc _ (hJ.alloc _ (hJ.alloc _ h0))
  have hz : (((W.alloc (.cells #[.func (.yield l) #[] #[]] 77)).alloc (.cells #[.int .i64 0] 3)).alloc (.cells #[.string s] 9)).heap.size = W.heap.size + 3 := by simp
  clear hc2
  generalize (((W.alloc (.cells #[.func (.yield l) #[] #[]] 77)).alloc (.cells #[.int .i64 0] 3)).alloc (.cells #[.string s] 9)) = W0 at *
  have hlt := hBd.lt
  have hmix : Tryd.prog.follows .mixedOrders = true := by kernel_rfl
  refine wpIn_rangeFunc_ownO (k := 0) rfl h1 (gf := 49) (lb := #[.pointer (some ⟨W.heap.size + 1 + 1, 0, none⟩)]) rfl trivial (enters_of Tryd.func49 (by kernel_rfl) rfl)
    (lineEnds_stops (n - 1) (by omega) (W.heap.size + 2) s hs W0 b3) keepsB_t (keepsB_b (by omega)) (Below.refl _ _) (fun _ => rfl)
    (fun pre W' => J (Tx.pcs s.data.toList 0 pre) W' ∧ Boxed W' W.heap.size 77 (.func (.yield l) #[] #[]) ∧ Boxed W' (W.heap.size + 1) 3 (.int .i64 (Tx.lastN 0 pre : Nat)) ∧ Boxed W' Bd 9 (.string s) ∧ Boxed W' (W.heap.size + 2) 9 (.string s))
    (fun c _ W' => c = .ret ∧ ∃ q, q <+: Tx.phys s.data.toList ∧ Jx q W')
    ⟨fun pre X Y row hs hg hr => ?hI, fun pre X hs => ⟨hJ.drew _ _ hs.1, hs.2⟩⟩
    (fun c => ⟨fun pre X Y row hs hg hr => ?hIx, fun pre X hs => ?hIxd⟩)
    ⟨hj0, b1, b2, b4, b3⟩
    (fun x => { tmps := #[.func (.yield l) #[] #[], .pointer (some ⟨Bd, 0, none⟩), .pointer (some ⟨W.heap.size, 0, none⟩), .pointer (some ⟨W.heap.size + 1, 0, none⟩), .int .i64 (x.1 : Nat), .int .i64 (x.2 : Nat), .string s, .func (.func 49) #[] #[.pointer (some ⟨W.heap.size + 1 + 1, 0, none⟩)], .int .i64 (x.1 : Nat), .int .i64 (x.2 : Nat), undef, undef, undef, undef, undef, undef, undef, undef, undef, undef, undef, undef, undef, undef, undef, undef, undef, undef, undef, undef, undef], defers := [] })
    ?assign ?body ?done ?stop
  case hI =>
    have hr' : ∀ r, row = some r → W.heap.size + 3 ≤ r := fun r e => by have := (hr r e).1; omega
    refine ⟨hJ.turn _ X Y row hs.1 hg (fun r e => ⟨by have := hr' r e; omega, ?_⟩), Boxed.turn hs.2.1 hg (fun r e => by have := hr' r e; omega), Boxed.turn hs.2.2.1 hg (fun r e => by have := hr' r e; omega), Boxed.turn hs.2.2.2.1 hg (fun r e => by have := hr' r e; omega), Boxed.turn hs.2.2.2.2 hg (fun r e => by have := hr' r e; omega)⟩
    rcases (hr r e).2 with h | h
    · omega
    · exact .inr h
  case hIx =>
    obtain ⟨rfl, q, hq, hj⟩ := hs
    refine ⟨rfl, q, hq, hJx.turn _ X Y row hj hg (fun r e => ⟨by have := (hr r e).1; omega, ?_⟩)⟩
    rcases (hr r e).2 with h | h
    · omega
    · exact .inr h
  case hIxd =>
    obtain ⟨rfl, q, hq, hj⟩ := hs
    exact ⟨rfl, q, hq, hJx.drew _ _ hj⟩
  case assign =>
    intro l' x W' K hK
    simp only [encE]
    gi_wp2
    exact hK
  case body =>
    rintro l' pre ⟨e, nx⟩ W1 hroom _ ⟨hj, c1, c2, c3, c4⟩ hpre
    obtain ⟨p1, p2, p3⟩ := Tx.ends_next hpre
    have hlen : s.data.toList.length = s.size := by simp
    rw [hlen] at p3
    have hq := Tx.pcs_prefix s.data.toList hpre
    obtain ⟨fn, tmps, assign, body, hy, hR⟩ := hY _ _ W1.drew (hJ.drew _ _ hj) (by show _ ≤ W1.heap.size; omega) (noRow_three (Boxed.drew c1) (Boxed.drew c2) (Boxed.drew c4)) hq
    simp only [encP, take_data, hlen] at hy
    have hR' : RoundIn (Fence.wide.inRound l') (n - 1 - 1 - 1) Tryd.prog l fn tmps assign body W1.drew fun e' W' => ∃ b : Bool, e' = .returned (.bool b) ∧ KeepsO W.heap.size 3 W1 W' ∧
        Hid (bif b then J (Tx.pcs s.data.toList 0 (pre ++ [(e, nx)])) W' ∧ keepsB Bd W1 W' else Jx (Tx.pcs s.data.toList 0 (pre ++ [(e, nx)])) W') := by
      refine (roundIn_any hR).mono ?_
      rw [Tx.pcs_snoc]
      rintro e' W' (⟨rfl, a1, a2, a3⟩ | ⟨rfl, a1, a2⟩)
      · exact ⟨true, rfl, ⟨a2.size, a2.same⟩, a1, a3⟩
      · exact ⟨false, rfl, ⟨a2.size, a2.same⟩, a1⟩
    have HR := hide hR'
    have HQ : Hid (Tx.pcs s.data.toList 0 (pre ++ [(e, nx)]) <+: Tx.phys s.data.toList) := by rw [Tx.pcs_snoc]; exact hq
    clear hR hR' hq hY
    have d1 := c1.cell
    have d2 := c2.cell
    have d3 := c3.cell
    have hn3 : 1 ≤ n - 1 - 1 := by omega
    generalize Tx.lastN 0 pre = st at *
    have H0 := hide h0
    clear h0 hj0
    have q1 : e ≤ s.size := by omega
    have q2 : (st : Int) ≤ (e : Int) := by omega
    have q3 : (e : Int) ≤ (s.size : Int) := by omega
    gi_wp2
    refine wpIn_region_still_round 9 hmix (by kernel_rfl) (by kernel_rfl) ?_
    simp only [List.take_succ_cons, List.take_zero, List.drop_succ_cons, List.drop_zero]
    repeat still_step
    refine wpStill_nil ?_
    gi_wp2_with fail
    refine (unhide HR).mono ?_
    rintro e' W3 ⟨b, rfl, hk3, hb3⟩
    have f2 : Boxed W3 (W.heap.size + 1) 3 (.int .i64 (st : Nat)) := Boxed.keepsO c2 hk3 (by omega) (by omega)
    have g2 := f2.cell
    have g3 := f2.frozen
    cases b
    · gi_wp2
      exact ⟨hk3.from (by omega), hk3.zero (by omega), rfl, _, unhide HQ, unhide hb3⟩
    · gi_wp2
      obtain ⟨hj3, hk4⟩ : J (Tx.pcs s.data.toList 0 (pre ++ [(e, nx)])) W3 ∧ keepsB Bd W1 W3 := unhide hb3
      refine ⟨(hk3.from (by omega)).trans ((KeepsOthers.setCell _ _ _).from _), (hk3.zero (by omega)).trans (KeepsO.setCell (.inl (by omega))), ?_, ?_, ?_, ?_, ?_, ?_⟩
      · exact (Below.heap_setCell _ _ _ _ (by simp)).trans (hk3.block (by omega) (by omega) (by omega))
      · exact hJ.setCell _ hj3 (by omega) (by omega) (by omega)
      · exact Boxed.other (Boxed.keepsO c1 hk3 (by omega) (by omega)) (by omega) _
      · rw [Tx.lastN_snoc]; exact f2.set _
      · exact Boxed.other (Boxed.keepsB c3 hk4) (by omega) _
      · exact Boxed.other (Boxed.keepsO c4 hk3 (by omega) (by omega)) (by omega) _
  case done =>
    rintro D W' hD ⟨hj, c1, c2, c3, c4⟩ hK
    have hlen : s.data.toList.length = s.size := by simp
    have hla := Tx.ends_last s.data.toList
    rw [hlen] at hla
    have d1 := c1.cell
    have d2 := c2.cell
    have d3 := c3.cell
    by_cases hst : Tx.lastN 0 (Tx.endsAt s.data.toList 0) < s.size
    · have hph := Tx.phys_tail s.data.toList (by rw [hlen]; exact hst)
      have hDlt := (Array.getElem?_eq_some_iff.1 hK).1
      obtain ⟨fn, tmps, assign, body, hy, hR⟩ := hY _ (s.data.toList.drop (Tx.lastN 0 (Tx.endsAt s.data.toList 0)), false) W'.drew (hJ.drew _ _ hj) (by show _ ≤ W'.heap.size; omega) (noRow_three (Boxed.drew c1) (Boxed.drew c2) (Boxed.drew c4)) ⟨[], by rw [hph]; simp⟩
      have hx : (⟨(s.data.toList.drop (Tx.lastN 0 (Tx.endsAt s.data.toList 0))).toArray⟩ : ByteArray) = s.extract (Tx.lastN 0 (Tx.endsAt s.data.toList 0)) s.size :=
        WideShapes.bytes_inj (by rw [drop_data])
      simp only [encP, hx] at hy
      have hR' : RoundIn Fence.wide (n - 1) Tryd.prog l fn tmps assign body W'.drew fun e' W3 => ∃ b : Bool, e' = .returned (.bool b) ∧ KeepsO W.heap.size 3 W' W3 ∧
          Hid (bif b then J (Tx.phys s.data.toList) W3 else Jx (Tx.phys s.data.toList) W3) := by
        rw [hph]
        refine hR.mono ?_
        rintro e' W3 (⟨rfl, a1, a2, a3⟩ | ⟨rfl, a1, a2⟩)
        · exact ⟨true, rfl, ⟨a2.size, a2.same⟩, a1⟩
        · exact ⟨false, rfl, ⟨a2.size, a2.same⟩, a1⟩
      have HR := hide hR'
      clear hR hR' hph hY hx
      have H0 := hide h0
      clear h0 hj0
      generalize Tx.lastN 0 (Tx.endsAt s.data.toList 0) = st at *
      have q2 : (st : Int) ≤ (s.size : Int) := by omega
      have q1 : (st : Int) < (s.size : Int) := by omega
      gi_wp2
      refine wpIn_region_still_wide 4 hmix (by kernel_rfl) (by kernel_rfl) ?_
      simp only [List.take_succ_cons, List.take_zero, List.drop_succ_cons, List.drop_zero]
      repeat still_step
      refine wpStill_nil ?_
      gi_wp2_with fail
      refine (unhide HR).mono ?_
      rintro e' W3 ⟨b, rfl, hk3, hb3⟩
      have hK3 := hk3.same D _ (by omega) hK (.inl rfl)
      gi_wp2
      refine ⟨by simp, .inl ⟨_, _, rfl, run_takeDeferred hK3, ?_⟩⟩
      refine ⟨_, results_none rfl _ _ _, ⟨_, rfl⟩, ?_⟩
      cases b
      · exact .inr ⟨_, List.prefix_refl _, hJx.putObj _ (unhide hb3) (by omega) hK3 rfl⟩
      · exact .inl (hJ.putObj _ (unhide hb3) (by omega) hK3 rfl)
    · have hph := Tx.phys_no s.data.toList (by rw [hlen]; exact hst)
      have HP := hide hph
      clear hph
      generalize Tx.lastN 0 (Tx.endsAt s.data.toList 0) = st at *
      have hst' : ¬ (st : Int) < (s.size : Int) := by omega
      gi_wp2
      refine ⟨by simp, .inl ⟨_, _, rfl, run_takeDeferred hK, ?_⟩⟩
      refine ⟨_, results_none rfl _ _ _, ⟨_, rfl⟩, .inl ?_⟩
      rw [unhide HP]
      exact hJ.putObj _ hj (by omega) hK rfl
  case stop =>
    rintro D c pre W' hD _ ⟨rfl, q, hq, hj⟩ hK
    gi_wp2
    refine ⟨by simp, .inl ⟨_, _, rfl, run_takeDeferred hK, ?_⟩⟩
    exact ⟨_, results_none rfl _ _ _, ⟨_, rfl⟩, .inr ⟨q, hq, hJx.putObj _ hj (by omega) hK rfl⟩⟩

set_option maxHeartbeats 400000 in
theorem physical_any (s : ByteArray) (w : World) :
    Calls Tryd.prog 26 #[.string s] w fun e w' => e = .returned (.func (.func 37) #[] #[.pointer (some ⟨w.heap.size, 0, none⟩)]) ∧ w' = w.alloc (.cells #[.string s] 9) := by
  go_enter Tryd.func26, Tryd.ntmps26
  go_wp2
  go_ret
  exact ⟨rfl, rfl⟩

theorem physical_stops (n : Nat) (hn : 5 ≤ n) (Bd : Nat) (s : ByteArray) (hs : s.size ≤ maxLen) (w : World) (hb : Boxed w Bd 9 (.string s)) :
    SeqStopsO Fence.wide n 3 Tryd.prog 37 #[.pointer (some ⟨Bd, 0, none⟩)] encP (keepsB Bd) (Tx.phys s.data.toList) w :=
  fun l J Jx W hW hJ hJx hY h0 => physical1_in n hn l Bd s hs J Jx W hJ hJx hY (Boxed.below hb hW hb.lt) h0
end Go.Proofs.YtaoekfokpbebfaaDoor.Sx
