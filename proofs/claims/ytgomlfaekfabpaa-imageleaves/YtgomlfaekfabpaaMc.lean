/-
  Package shape: walk, of a number and of a pointer.
-/
import Derived.Test.YtgomlfaekfabpaaMb
namespace Go.Proofs.Ytgomlfaekfabpaa
open Go Go.RowKit Go.Shelf
attribute [local go_sem] Oper.semAt_some
set_option linter.unusedVariables false
set_option linter.unusedSimpArgs false

theorem res_w {f : Func} {k : Nat} {tmps : Array Value} {w : World} {R : Nat} {v : Bool} (hr : f.results = #[.cell k 4]) (hp : tmps.getD k undef = .pointer (some ⟨R, 0, none⟩)) (hg : Bk w R 4 #[.bool v]) :
    (results f tmps).run Try.prog w = .ok (.bool v) w := by
  have hp' : tmps[k]?.getD undef = .pointer (some ⟨R, 0, none⟩) := by simpa using hp
  have hc := hg.cell 0
  simp only [List.getElem?_toArray, List.getElem?_cons_zero] at hc
  simp [results, hr, hp', asAddr, loadVar, go_sem, hc, Try.underlying4]
/-- The boxes of walk. -/
structure WaS (N0 B0 l : Nat) (w W : World) (t : ShT) (fr : Int) : Prop where
  t : TyB W w.heap.size t
  f : Bk W (w.heap.size + 1) 2 #[.int .i64 fr]
  y : Bk W (w.heap.size + 1 + 1) 113 #[.func (.yield l) #[] #[]]
  r : Bk W (w.heap.size + 1 + 1 + 1) 4 #[.bool false]
  yk : YK N0 B0 w W
theorem WaS.new (N0 B0 l : Nat) (w : World) (t : ShT) (fr : Int) (hN : N0 ≤ w.heap.size) : WaS N0 B0 l w ((((w.alloc (.cells t.cs 25)).alloc (.cells #[.int .i64 fr] 2)).alloc (.cells #[.func (.yield l) #[] #[]] 113)).alloc (.cells #[.bool false] 4)) t fr := by
  have h1 := Bk.new (w.alloc (.cells t.cs 25)) 2 #[.int .i64 fr]
  have h2 := Bk.new ((w.alloc (.cells t.cs 25)).alloc (.cells #[.int .i64 fr] 2)) 113 #[.func (.yield l) #[] #[]]
  have h3 := Bk.new (((w.alloc (.cells t.cs 25)).alloc (.cells #[.int .i64 fr] 2)).alloc (.cells #[.func (.yield l) #[] #[]] 113)) 4 #[.bool false]
  rw [World.size_alloc] at h1
  rw [World.size_alloc, World.size_alloc] at h2
  rw [World.size_alloc, World.size_alloc, World.size_alloc] at h3
  exact ⟨(((TyB.new w t).alloc _).alloc _).alloc _, (h1.alloc _).alloc _, h2.alloc _, h3, YK.below (((below_new2 w _ _).alloc (by simp; omega) _).alloc (by simp; omega) _) hN⟩
theorem WaS.call {N0 B0 l : Nat} {w W W' : World} {t : ShT} {fr : Int} (h : WaS N0 B0 l w W t fr) (k : YK N0 B0 W W') : WaS N0 B0 l w W' t fr :=
  ⟨k.bk _ _ _ (.inr (.inl rfl)) h.t, k.bk _ _ _ (.inr (.inr (.inl rfl))) h.f, k.bk _ _ _ (.inr (.inr (.inr (.inl rfl)))) h.y, k.bk _ _ _ (.inr (.inr (.inr (.inr rfl)))) h.r, h.yk.trans k⟩
theorem WaS.below {N0 B0 l : Nat} {w W W' : World} {t : ShT} {fr : Int} (h : WaS N0 B0 l w W t fr) (hN : N0 ≤ w.heap.size) (k : Below W.heap.size W W') : WaS N0 B0 l w W' t fr := h.call (YK.below k (Nat.le_trans hN h.yk.size))
theorem WaS.drew {N0 B0 l : Nat} {w W : World} {t : ShT} {fr : Int} (h : WaS N0 B0 l w W t fr) : WaS N0 B0 l w W.drew t fr := ⟨h.t, h.f, h.y, h.r, h.yk.drew⟩
theorem WaS.cells {N0 B0 l : Nat} {w W : World} {t : ShT} {fr : Int} (h : WaS N0 B0 l w W t fr) :
    (W.cell? ⟨w.heap.size, 0, none⟩ = some (.int .i64 t.sh) ∧ W.cell? ⟨w.heap.size, 1, none⟩ = some (.int .i64 t.k) ∧ W.cell? ⟨w.heap.size, 2, none⟩ = some (.int .i64 t.n) ∧ W.cell? ⟨w.heap.size, 3, none⟩ = some (.slice t.op t.of.length t.oc) ∧
      W.cell? ⟨w.heap.size, 4, none⟩ = some (.slice t.fp t.fs.length t.fc) ∧ W.cell? ⟨w.heap.size, 5, none⟩ = some (.bool t.pk) ∧ W.cell? ⟨w.heap.size, 6, none⟩ = some (.int .i64 t.al)) ∧
    W.cell? ⟨w.heap.size + 1, 0, none⟩ = some (.int .i64 fr) ∧ W.cell? ⟨w.heap.size + 1 + 1, 0, none⟩ = some (.func (.yield l) #[] #[]) ∧ W.cell? ⟨w.heap.size + 1 + 1 + 1, 0, none⟩ = some (.bool false) ∧ W.frozen? ⟨w.heap.size + 1 + 1 + 1, 0, none⟩ = false :=
  ⟨h.t.seven, h.f.cell 0, h.y.cell 0, h.r.cell 0, h.r.frozen 0⟩
theorem WaS.fin {N0 B0 l : Nat} {w W : World} {t : ShT} {fr : Int} (h : WaS N0 B0 l w W t fr) (hN : N0 ≤ w.heap.size) (b : Bool) : Bk (W.setCell ⟨w.heap.size + 1 + 1 + 1, 0, none⟩ (.bool b)) (w.heap.size + 1 + 1 + 1) 4 #[.bool b] ∧ YK N0 B0 w (W.setCell ⟨w.heap.size + 1 + 1 + 1, 0, none⟩ (.bool b)) :=
  ⟨h.r.set 0 _, h.yk.turn hN (grownBy_setCell' W _ _) (fun r e => by cases e; omega)⟩
/-- The end: the answer's box is written. -/
theorem WkP.end {J Jx : List Mb → World → Prop} {l N0 B0 : Nat} {full out : List Mb} {w W : World} {t : ShT} {fr : Int} (hy : Yd l N0 B0 full J Jx) (hN : N0 ≤ w.heap.size) (hB : B0 ≤ w.heap.size) (hs : WaS N0 B0 l w W t fr) (b : Bool) (h : if b then J out W else ∃ p, p <+: full ∧ Jx p W) :
    WkP J Jx N0 B0 full w out (.returned (.bool b)) (W.setCell ⟨w.heap.size + 1 + 1 + 1, 0, none⟩ (.bool b)) := by
  cases b
  · obtain ⟨p, hp, hx⟩ := h
    exact .inr ⟨rfl, ⟨p, hp, hy.aX.setCell _ hx (by omega) hs.r⟩, (hs.fin hN _).2⟩
  · exact .inl ⟨rfl, hy.aJ.setCell _ h (by omega) hs.r, (hs.fin hN _).2⟩
theorem hmixL : Try.prog.follows .mixedOrders = true := by kernel_rfl
theorem fldE (a b : Value) (W : World) : (Instr.field 68 (.agg #[a, b]) 0).run Try.prog W = .ok a W := by kernel_rfl
set_option maxRecDepth 100000 in
set_option maxHeartbeats 8000000 in
theorem walk_int (t : ShT) (fr : Int) (l N0 B0 : Nat) (full pre : List Mb) (J Jx : List Mb → World → Prop) (w : World) (hy : Yd l N0 B0 full J Jx) (h1 : (t.sh == 1) = true) (hk : 0 < sizM t.k)
    (hJ : J pre w) (hB : B0 ≤ w.heap.size) (hN : N0 ≤ w.heap.size) (hpre : pre ++ [⟨fr, 8 * sizM t.k, t.k, 0⟩] <+: full) :
    Calls Try.prog 73 #[t.v, .int .i64 fr, .func (.yield l) #[] #[]] w (WkP J Jx N0 B0 full w (pre ++ [⟨fr, 8 * sizM t.k, t.k, 0⟩])) := by
  have HM := veil (fun W => measure_int t W h1 hk)
  have HS0 := veil (WaS.new N0 B0 l w t fr hN)
  have HJ0 := veil (hy.aJ.below (((below_new2 w (.cells t.cs 25) (.cells #[.int .i64 fr] 2)).alloc (by simp; omega) (.cells #[.func (.yield l) #[] #[]] 113)).alloc (by simp; omega) (.cells #[.bool false] 4)) hJ)
  have HY := veil hy
  have HN := veil hN
  have HBB := veil hB
  have HP := veil hpre
  have hc := siz_cases t.k
  clear hy hN hB hpre hJ hk
  unfold ShT.v ShT.cs extV at *
  generalize sizM t.k = z at *
  refine (callsIn_wide (n := 4)).1 ?_
  refine callsIn_of_wp_marks Try.func73 rfl trivial ?_ rfl
  simp only [Try.ntmps73, List.size_toArray, List.length_cons, List.length_nil, Nat.reduceAdd, Nat.reduceSub, Array.replicate_succ, Array.replicate_zero, List.push_toArray, List.append_toArray, List.nil_append, List.cons_append]
  refine wpIn_wide.2 ?_
  go_upto_region 1 with fail
  generalize ((((w.alloc (.cells _ 25)).alloc (.cells #[.int .i64 fr] 2)).alloc (.cells #[.func (.yield l) #[] #[]] 113)).alloc (.cells #[.bool false] 4)) = W0 at HS0 HJ0 ⊢
  obtain ⟨⟨y0, y1, y2, y3, y4, y5, y6⟩, g0, g1, g2, gf⟩ := (unveil HS0).cells
  go_upto_region 3 with fail
  refine wp_region_noPanic (wpIn_wide.1 (wpIn_region_mix (ro := none) (n := 0) (fun w' => Hid (WaS N0 B0 l w w' t fr))
    [(0, true), (1, true), (2, true), (6, true), (7, true), (3, false), (4, true), (5, true), (8, true), (9, false)]
    10 hmixL (by kernel_rfl) (by kernel_rfl) (by kernel_rfl) (by kernel_rfl) (by kernel_rfl) (by kernel_rfl) (fun _ _ _ _ h => h) (unveil HS0).drew ?_))
  iterate 5 (
    refine mix_pure _ rfl _ (.inl ⟨rfl, fun W hS => (by obtain ⟨⟨y0, y1, y2, y3, y4, y5, y6⟩, g0, g1, g2, gf⟩ := (unveil hS).cells; go_simp; rfl)⟩) (fun B hB => ?_)
    simp only [Act.put, List.setIfInBounds_toArray, List.set_cons_zero, List.set_cons_succ] at hB
    subst hB)
  refine mix_sole _ rfl (fun K hK => ?_)
  go_simp
  refine ⟨trivial, rfl, (callsIn_wide.2 (unveil HM _)).mono ?_⟩
  rintro e W5 ⟨rfl, hb5⟩
  have hB5 : Below W0.heap.size W0 W5 := (Below.refl _ W0).drew.trans hb5
  have HS5 := veil ((unveil HS0).below (unveil HN) hB5)
  have HJ5 := veil ((unveil HY).aJ.below hB5 (unveil HJ0))
  refine hK _ _ HS5 ?_
  clear hK K hb5 hB5
  have hf := fun W => fldE (.int .i64 z) (.int .i64 z) W
  refine mix_pure _ rfl (.int .i64 z) (.inl ⟨rfl, fun W hS => (by go_simp)⟩) (fun B hB => ?_)
  simp only [List.getElem_toArray, List.getElem_cons_zero, List.getElem_cons_succ, Act.put, List.setIfInBounds_toArray, List.set_cons_zero, List.set_cons_succ] at hB
  subst hB
  refine mix_pure _ rfl (.int .i64 (8 * z)) (.inl ⟨rfl, fun W hS => (by go_simp; rw [IntKind.wrap_i64]; omega)⟩) (fun B hB => ?_)
  simp only [List.getElem_toArray, List.getElem_cons_zero, List.getElem_cons_succ, Act.put, List.setIfInBounds_toArray, List.set_cons_zero, List.set_cons_succ] at hB
  subst hB
  refine mix_pure _ rfl (.agg #[.int .i64 fr, .int .i64 (8 * z), .int .i64 t.k]) (.inl ⟨rfl, fun W hS => (by go_simp)⟩) (fun B hB => ?_)
  simp only [List.getElem_toArray, List.getElem_cons_zero, List.getElem_cons_succ, Act.put, List.setIfInBounds_toArray, List.set_cons_zero, List.set_cons_succ] at hB
  subst hB
  have hsz := (unveil HS5).yk.size
  obtain ⟨fn, tmps, assign, body, hyy, hRR⟩ := (unveil HY).y pre ⟨fr, 8 * z, t.k, 0⟩ W5 (unveil HJ5) (Nat.le_trans (unveil HBB) hsz) (Nat.le_trans (unveil HN) hsz) (unveil HP) 0
  have HR := veil hRR
  clear hRR hsz
  unfold encS at hyy
  simp only at hyy
  refine mix_sole _ rfl (fun K hK => ?_)
  go_simp
  refine ⟨rfl, (unveil HR).mono ?_⟩
  rintro e W6 (⟨rfl, hJ6, hk6⟩ | ⟨rfl, hX6, hk6⟩)
  · have HS6 := veil ((unveil HS5).call hk6)
    refine hK _ _ HS6 ?_
    clear hK K y0 y1 y2 y3 y4 y5 y6 g0 g1 g2 gf
    refine mix_nil ?_
    obtain ⟨⟨y0, y1, y2, y3, y4, y5, y6⟩, g0, g1, g2, gf⟩ := (unveil HS6).cells
    refine listIn_last rfl (fun K hK => ?_)
    go_simp
    refine hK _ _ ?_
    clear hK K
    go_wp2_with fail
    exact ⟨_, res_w (f := Try.f73) rfl rfl ((unveil HS6).fin (unveil HN) true).1, WkP.end (unveil HY) (unveil HN) (unveil HBB) (unveil HS6) true hJ6⟩
  · have HS6 := veil ((unveil HS5).call hk6)
    refine hK _ _ HS6 ?_
    clear hK K y0 y1 y2 y3 y4 y5 y6 g0 g1 g2 gf
    refine mix_nil ?_
    obtain ⟨⟨y0, y1, y2, y3, y4, y5, y6⟩, g0, g1, g2, gf⟩ := (unveil HS6).cells
    refine listIn_last rfl (fun K hK => ?_)
    go_simp
    refine hK _ _ ?_
    clear hK K
    go_wp2_with fail
    exact ⟨_, res_w (f := Try.f73) rfl rfl ((unveil HS6).fin (unveil HN) false).1, WkP.end (unveil HY) (unveil HN) (unveil HBB) (unveil HS6) false hX6⟩
set_option maxRecDepth 100000 in
set_option maxHeartbeats 8000000 in
theorem walk_ptr (t : ShT) (fr : Int) (l N0 B0 : Nat) (full pre : List Mb) (J Jx : List Mb → World → Prop) (w : World) (hy : Yd l N0 B0 full J Jx) (h1 : (t.sh == 1) = false) (h2 : (t.sh == 2) = true)
    (hJ : J pre w) (hB : B0 ≤ w.heap.size) (hN : N0 ≤ w.heap.size) (hpre : pre ++ [⟨fr, 64, 8, 0⟩] <+: full) :
    Calls Try.prog 73 #[t.v, .int .i64 fr, .func (.yield l) #[] #[]] w (WkP J Jx N0 B0 full w (pre ++ [⟨fr, 64, 8, 0⟩])) := by
  have HS0 := veil (WaS.new N0 B0 l w t fr hN)
  have HJ0 := veil (hy.aJ.below (((below_new2 w (.cells t.cs 25) (.cells #[.int .i64 fr] 2)).alloc (by simp; omega) (.cells #[.func (.yield l) #[] #[]] 113)).alloc (by simp; omega) (.cells #[.bool false] 4)) hJ)
  have HY := veil hy
  have HN := veil hN
  have HBB := veil hB
  have HP := veil hpre
  clear hy hN hB hpre hJ
  unfold ShT.v ShT.cs at *
  refine (callsIn_wide (n := 4)).1 ?_
  refine callsIn_of_wp_marks Try.func73 rfl trivial ?_ rfl
  simp only [Try.ntmps73, List.size_toArray, List.length_cons, List.length_nil, Nat.reduceAdd, Nat.reduceSub, Array.replicate_succ, Array.replicate_zero, List.push_toArray, List.append_toArray, List.nil_append, List.cons_append]
  refine wpIn_wide.2 ?_
  go_upto_region 1 with fail
  generalize ((((w.alloc (.cells _ 25)).alloc (.cells #[.int .i64 fr] 2)).alloc (.cells #[.func (.yield l) #[] #[]] 113)).alloc (.cells #[.bool false] 4)) = W0 at HS0 HJ0 ⊢
  obtain ⟨⟨y0, y1, y2, y3, y4, y5, y6⟩, g0, g1, g2, gf⟩ := (unveil HS0).cells
  have hsz := (unveil HS0).yk.size
  obtain ⟨fn, tmps, assign, body, hyy, hRR⟩ := (unveil HY).y pre ⟨fr, 64, 8, 0⟩ W0 (unveil HJ0) (Nat.le_trans (unveil HBB) hsz) (Nat.le_trans (unveil HN) hsz) (unveil HP) 3
  have HR := veil hRR
  clear hRR hsz
  unfold encS at hyy
  simp only at hyy
  go_upto_region 5 with fail
  refine (wpIn_wide (n := 4)).1 ?_
  gi_wp2
  refine (unveil HR).mono ?_
  rintro e W6 (⟨rfl, hJ6, hk6⟩ | ⟨rfl, hX6, hk6⟩)
  · have HS6 := veil ((unveil HS0).call hk6)
    clear y0 y1 y2 y3 y4 y5 y6 g0 g1 g2 gf
    obtain ⟨⟨y0, y1, y2, y3, y4, y5, y6⟩, g0, g1, g2, gf⟩ := (unveil HS6).cells
    gi_wp2
    go_wp2_with fail
    exact ⟨_, res_w (f := Try.f73) rfl rfl ((unveil HS6).fin (unveil HN) true).1, WkP.end (unveil HY) (unveil HN) (unveil HBB) (unveil HS6) true hJ6⟩
  · have HS6 := veil ((unveil HS0).call hk6)
    clear y0 y1 y2 y3 y4 y5 y6 g0 g1 g2 gf
    obtain ⟨⟨y0, y1, y2, y3, y4, y5, y6⟩, g0, g1, g2, gf⟩ := (unveil HS6).cells
    gi_wp2
    go_wp2_with fail
    exact ⟨_, res_w (f := Try.f73) rfl rfl ((unveil HS6).fin (unveil HN) false).1, WkP.end (unveil HY) (unveil HN) (unveil HBB) (unveil HS6) false hX6⟩
end Go.Proofs.Ytgomlfaekfabpaa
