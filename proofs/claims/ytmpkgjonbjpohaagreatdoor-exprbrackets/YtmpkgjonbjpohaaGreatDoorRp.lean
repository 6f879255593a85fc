/-
  Package expr: take, skip, atKind, line.
-/
import Derived.Test.YtmpkgjonbjpohaaGreatDoorRo
namespace Go.Proofs.YtmpkgjonbjpohaaGreatDoor
open Go Go.RowKit
set_option linter.unusedVariables false
set_option linter.unusedSimpArgs false

theorem res_wd {f : Func} {k : Nat} {tmps : Array Value} {w : World} {R : Nat} {cs : Array Value} (hr : f.results = #[.cell k 42]) (hp : tmps.getD k undef = .pointer (some ⟨R, 0, none⟩)) (hg : w.heap[R]? = some (.cells cs 42 (0, 0))) (hz : cs.size = 6) :
    (results f tmps).run Tryz.prog w = .ok (.agg cs) w := by
  have hi : (Tryz.prog.info? 42).map (·.size) = some cs.size := by rw [hz]; kernel_rfl
  have hp' : tmps[k]?.getD undef = .pointer (some ⟨R, 0, none⟩) := by simpa using hp
  simp [results, hr, hp', asAddr, run_loadVar_row w R 42 42 cs (0, 0) _ hg Tryz.underlying42 rfl hi]
/-- A word is put into its box. -/
theorem wd_put {W : World} {b : Nat} {c0 c1 c2 c3 c4 c5 : Value} (h : Bk W b 42 #[c0, c1, c2, c3, c4, c5]) (a0 a1 a2 a3 a4 a5 : Value) : ∀ W', W' = ((((((W.setCell ⟨b, 0, none⟩ a0).setCell ⟨b, 1, none⟩ a1).setCell ⟨b, 2, none⟩ a2).setCell ⟨b, 3, none⟩ a3).setCell ⟨b, 4, none⟩ a4).setCell ⟨b, 5, none⟩ a5) →
    Bk W' b 42 #[a0, a1, a2, a3, a4, a5] ∧ (∀ n, n ≤ b → Below n W W') ∧ (∀ (j : Nat) (o : Obj), j ≠ b → W.heap[j]? = some o → W'.heap[j]? = some o) ∧ W'.heap.size = W.heap.size := fun W' e => by
  have z0 : Bk (W.setCell ⟨b, 0, none⟩ a0) b 42 #[a0, c1, c2, c3, c4, c5] := h.set 0 _
  have z1 : Bk ((W.setCell ⟨b, 0, none⟩ a0).setCell ⟨b, 1, none⟩ a1) b 42 #[a0, a1, c2, c3, c4, c5] := z0.set 1 _
  have z2 : Bk (((W.setCell ⟨b, 0, none⟩ a0).setCell ⟨b, 1, none⟩ a1).setCell ⟨b, 2, none⟩ a2) b 42 #[a0, a1, a2, c3, c4, c5] := z1.set 2 _
  have z3 : Bk ((((W.setCell ⟨b, 0, none⟩ a0).setCell ⟨b, 1, none⟩ a1).setCell ⟨b, 2, none⟩ a2).setCell ⟨b, 3, none⟩ a3) b 42 #[a0, a1, a2, a3, c4, c5] := z2.set 3 _
  have z4 : Bk (((((W.setCell ⟨b, 0, none⟩ a0).setCell ⟨b, 1, none⟩ a1).setCell ⟨b, 2, none⟩ a2).setCell ⟨b, 3, none⟩ a3).setCell ⟨b, 4, none⟩ a4) b 42 #[a0, a1, a2, a3, a4, c5] := z3.set 4 _
  have z5 : Bk ((((((W.setCell ⟨b, 0, none⟩ a0).setCell ⟨b, 1, none⟩ a1).setCell ⟨b, 2, none⟩ a2).setCell ⟨b, 3, none⟩ a3).setCell ⟨b, 4, none⟩ a4).setCell ⟨b, 5, none⟩ a5) b 42 #[a0, a1, a2, a3, a4, a5] := z4.set 5 _
  refine ⟨by rw [e]; exact z5, fun n hn => ?_, fun j o hj hb => ?_, by rw [e]; simp⟩
  · rw [e]
    have s : ∀ (X : World) i v, Below n W X → Below n W (X.setCell ⟨b, i, none⟩ v) := fun X i v hx => hx.setCell (p := ⟨b, i, none⟩) hn v
    exact s _ _ _ (s _ _ _ (s _ _ _ (s _ _ _ (s _ _ _ (s _ _ _ (Below.refl _ _))))))
  · rw [e]
    have s : ∀ (X : World) i v, X.heap[j]? = some o → (X.setCell ⟨b, i, none⟩ v).heap[j]? = some o := fun X i v hx => (Below.heap_setCell X ⟨b, i, none⟩ v j hj).trans hx
    exact s _ _ _ (s _ _ _ (s _ _ _ (s _ _ _ (s _ _ _ (s _ _ _ hb)))))
/-- A box of another type is turned that the reader doesn't know. -/
theorem RdX.late {W : World} {R : Nat} {wv : Value} {ws : List Wd} {tw crv : Value} {p : Nat} {x : Wd} {cr : List Int} (h : RdX W R wv ws tw crv p x cr) {W' : World} {b : Nat} {T : TypeId} {cs : Array Value} (hb : R < b) (hT : Bk W b T cs) (hne : T ≠ 3) (hk : ∀ (j : Nat) (o : Obj), j ≠ b → W.heap[j]? = some o → W'.heap[j]? = some o) (hB : ∀ n, n ≤ b → Below n W W') : RdX W' R wv ws tw crv p x cr :=
  ⟨hk R _ (by omega) h.b, row_kept h.r (fun g cur _ hg => hk g _ (fun e => by
    subst e
    have : W.heap[g]? = some (.cells cs T (0, 0)) := hT
    rw [this] at hg
    simp at hg
    exact hne hg.2) hg), h.wd.below (hB R (by omega)), h.gl.below (hB R (by omega)) h.gm, h.op.below (hB R (by omega)) (by have := h.gm; show 0 < _; omega), h.mo.below (hB R (by omega)) h.gm, h.gm⟩
theorem FrE.late {R : Nat} {A B B' : World} {b : Nat} (h : FrE R A B) (hb : A.heap.size ≤ b) (hR : R ≤ b) (hk : ∀ (j : Nat) (o : Obj), j ≠ b → B.heap[j]? = some o → B'.heap[j]? = some o) (hB : ∀ n, n ≤ b → Below n B B') : FrE R A B' :=
  ⟨h.be.trans (hB R hR), fun i cs T fz h1 h2 h3 => hk i _ (by have := (Array.getElem?_eq_some_iff.1 h3).1; omega) (h.bk i cs T fz h1 h2 h3)⟩
set_option maxRecDepth 100000 in
set_option maxHeartbeats 8000000 in
theorem etake_any {W : World} {R : Nat} {wv : Value} {ws : List Wd} {tw crv : Value} {p : Nat} {x : Wd} {cr : List Int} (h : RdX W R wv ws tw crv p x cr) (hq : p < ws.length) (hl : ws.length ≤ 1000000) (hws : ∀ y ∈ ws, y.s.length ≤ 140737488355328) :
    Calls Tryz.prog 66 #[.pointer (some ⟨R, 0, none⟩)] W fun e W' => e = .returned (wdV x) ∧ FrE R W W' ∧ RdX W' R wv ws tw crv (p + 1) (nxt ws (p + 1)) cr := by
  have hlt := h.b.lt
  have HST := veil (fun (V : World) (hv : RdX V R wv ws tw crv p x cr) => stand_any hv (p + 1) (by omega) hl hws)
  obtain ⟨xk, xs, xv, xt, xf, xl⟩ := x
  unfold wdV wdC
  have hb0 : Below W.heap.size W ((W.alloc (.cells #[.int .i64 0, .string ⟨#[]⟩, .int .i64 0, .int .i64 0, .string ⟨#[]⟩, .int .i64 0] 42)).alloc (.cells #[.int .i64 xk, .string ⟨xs.toArray⟩, .int .i64 xv, .int .i64 xt, .string ⟨xf.toArray⟩, .int .i64 xl] 42)) := ((Below.refl _ W).alloc (Nat.le_refl _) _).alloc (by simp) _
  have HB0 := veil hb0
  have HX0 := veil (h.below hb0)
  have HZ0 : Hid (Bk ((W.alloc (.cells #[.int .i64 0, .string ⟨#[]⟩, .int .i64 0, .int .i64 0, .string ⟨#[]⟩, .int .i64 0] 42)).alloc (.cells #[.int .i64 xk, .string ⟨xs.toArray⟩, .int .i64 xv, .int .i64 xt, .string ⟨xf.toArray⟩, .int .i64 xl] 42)) W.heap.size 42 #[.int .i64 0, .string ⟨#[]⟩, .int .i64 0, .int .i64 0, .string ⟨#[]⟩, .int .i64 0]) := (Bk.new W _ _).alloc _
  have HW0 : Hid (Bk ((W.alloc (.cells #[.int .i64 0, .string ⟨#[]⟩, .int .i64 0, .int .i64 0, .string ⟨#[]⟩, .int .i64 0] 42)).alloc (.cells #[.int .i64 xk, .string ⟨xs.toArray⟩, .int .i64 xv, .int .i64 xt, .string ⟨xf.toArray⟩, .int .i64 xl] 42)) (W.heap.size + 1) 42 #[.int .i64 xk, .string ⟨xs.toArray⟩, .int .i64 xv, .int .i64 xt, .string ⟨xf.toArray⟩, .int .i64 xl]) := by
    have := Bk.new (W.alloc (.cells #[.int .i64 0, .string ⟨#[]⟩, .int .i64 0, .int .i64 0, .string ⟨#[]⟩, .int .i64 0] 42)) 42 #[.int .i64 xk, .string ⟨xs.toArray⟩, .int .i64 xv, .int .i64 xt, .string ⟨xf.toArray⟩, .int .i64 xl]
    rw [World.size_alloc] at this
    exact this
  clear hb0
  obtain ⟨⟨c0, c1, c2, c3, c4, c5, c6, c7, c8, c9⟩, hlr, _⟩ := h.cells
  clear h
  go_enter Tryz.func66, Tryz.ntmps66
  go_upto_region 2 with fail
  clear c0 c1 c2 c3 c4 c5 c6 c7 c8 c9 hlr
  generalize ((W.alloc (.cells #[.int .i64 0, .string ⟨#[]⟩, .int .i64 0, .int .i64 0, .string ⟨#[]⟩, .int .i64 0] 42)).alloc (.cells #[.int .i64 xk, .string ⟨xs.toArray⟩, .int .i64 xv, .int .i64 xt, .string ⟨xf.toArray⟩, .int .i64 xl] 42)) = W0 at *
  obtain ⟨⟨c0, c1, c2, c3, c4, c5, c6, c7, c8, c9⟩, hlr, _⟩ := (unveil HX0).cells
  have HS2 := veil (unveil HST W0 (unveil HX0))
  have hpp : ((p + 1 : Nat) : Int) = (p : Int) + 1 := by omega
  rw [hpp] at HS2
  go_upto_region 3 with (go_at_call 62; refine (unveil HS2).mono ?_; rintro e W2 ⟨⟨r, rfl⟩, hf2, hx2⟩; have HF2 := veil hf2; have HX2 := veil hx2; have HZ2 := veil (hf2.box (unveil HZ0) (by decide) (by omega)); have HW2 := veil (hf2.box (unveil HW0) (by decide) (by omega)); clear hf2 hx2)
  clear c0 c1 c2 c3 c4 c5 c6 c7 c8 c9 hlr
  have w0 := (unveil HW2).cell 0
  have w1 := (unveil HW2).cell 1
  have w2 := (unveil HW2).cell 2
  have w3 := (unveil HW2).cell 3
  have w4 := (unveil HW2).cell 4
  have w5 := (unveil HW2).cell 5
  have wl := (unveil HW2).lt
  have z0 := (unveil HZ2).cell 0
  have z1 := (unveil HZ2).cell 1
  have z2 := (unveil HZ2).cell 2
  have z3 := (unveil HZ2).cell 3
  have z4 := (unveil HZ2).cell 4
  have z5 := (unveil HZ2).cell 5
  have g0 := (unveil HZ2).frozen 0
  have g1 := (unveil HZ2).frozen 1
  have g2 := (unveil HZ2).frozen 2
  have g3 := (unveil HZ2).frozen 3
  have g4 := (unveil HZ2).frozen 4
  have g5 := (unveil HZ2).frozen 5
  have zl := (unveil HZ2).lt
  simp only [List.getElem?_toArray, List.getElem?_cons_zero, List.getElem?_cons_succ] at w0 w1 w2 w3 w4 w5 z0 z1 z2 z3 z4 z5
  go_wp2_with fail
  obtain ⟨r1, r2, r3, r4⟩ := wd_put (unveil HZ2) (.int .i64 xk) (.string ⟨xs.toArray⟩) (.int .i64 xv) (.int .i64 xt) (.string ⟨xf.toArray⟩) (.int .i64 xl) _ rfl
  exact bodyPost_ret (res_wd (f := Tryz.f66) rfl rfl r1 rfl) rfl ⟨rfl, FrE.late ((FrE.below (unveil HB0) (Nat.le_of_lt hlt)).trans (unveil HF2)) (Nat.le_refl _) (Nat.le_of_lt hlt) r3 r2, (unveil HX2).late hlt (unveil HZ2) (by decide) r3 r2⟩
theorem sg_in {ws : List Wd} {p : Nat} (h : sgW (nxt ws p) ≠ []) : p < ws.length := by
  rcases Nat.lt_or_ge p ws.length with h1 | h1
  · exact h1
  · exfalso
    refine h ?_
    unfold nxt
    rw [List.getElem?_eq_none h1]
    rfl
set_option maxRecDepth 100000 in
set_option maxHeartbeats 8000000 in
theorem skip_any {W : World} {R : Nat} {wv : Value} {ws : List Wd} {tw crv : Value} {p : Nat} {cr : List Int} (h : RdX W R wv ws tw crv p (nxt ws p) cr) (s : List UInt8) (hs : s ≠ []) (hl : ws.length ≤ 1000000) (hws : ∀ y ∈ ws, y.s.length ≤ 140737488355328) :
    Calls Tryz.prog 67 #[.pointer (some ⟨R, 0, none⟩), .string ⟨s.toArray⟩] W fun e W' => e = .returned (.bool (sgW (nxt ws p) == s)) ∧ FrE R W W' ∧ RdX W' R wv ws tw crv (if (sgW (nxt ws p) == s) = true then p + 1 else p) (nxt ws (if (sgW (nxt ws p) == s) = true then p + 1 else p)) cr := by
  have HX := veil h
  have HSG := veil (sign_any h)
  have HTK := veil (fun (hp : p < ws.length) => etake_any h hp hl hws)
  have HIN := veil (@sg_in ws p)
  clear h
  cases hc : sgW (nxt ws p) == s
  · simp only [Bool.false_eq_true, if_false]
    generalize sgW (nxt ws p) = S at *
    have hc' : (S != s) = true := by simp only [bne, hc]; rfl
    go_enter Tryz.func67, Tryz.ntmps67
    go_wp2_with (go_at_call 65; refine (unveil HSG).mono ?_; rintro e W2 ⟨rfl, hw'⟩; obtain rfl := hw'.symm)
    go_ret
    exact ⟨rfl, FrE.refl _ _, unveil HX⟩
  · simp only [if_true]
    have HT2 := veil (unveil HTK (unveil HIN (by
      have : sgW (nxt ws p) = s := by simpa using hc
      rw [this]
      exact hs)))
    clear HTK HIN
    generalize hS : sgW (nxt ws p) = S at *
    have hc' : (S != s) = false := by simp only [bne, hc]; rfl
    clear hS
    go_enter Tryz.func67, Tryz.ntmps67
    go_wp2_with (first
      | (go_at_call 65; refine (unveil HSG).mono ?_; rintro e W2 ⟨rfl, hw'⟩; obtain rfl := hw'.symm)
      | (go_at_call 66; refine (unveil HT2).mono ?_; rintro e W2 ⟨rfl, hf2, hx2⟩; have HF2 := veil hf2; have HX2 := veil hx2; clear hf2 hx2))
    go_ret
    exact ⟨rfl, unveil HF2, unveil HX2⟩
set_option maxRecDepth 100000 in
set_option maxHeartbeats 8000000 in
theorem atKind_any {W : World} {R : Nat} {wv : Value} {ws : List Wd} {tw crv : Value} {p : Nat} {x : Wd} {cr : List Int} (h : RdX W R wv ws tw crv p x cr) :
    Calls Tryz.prog 99 #[.pointer (some ⟨R, 0, none⟩)] W fun e W' => e = .returned (.bool (akW x)) ∧ Below W.heap.size W W' := by
  obtain ⟨⟨c0, c1, c2, c3, c4, c5, c6, c7, c8, c9⟩, hlr, _⟩ := h.cells
  have HOF : Hid (∀ V, V = W.alloc (.cells #[.string ⟨x.s.toArray⟩] 9) → Calls Tryz.prog 125 #[.slice (some ⟨W.heap.size, 0, none⟩) 1 1] V fun e w' => e = .returned (.tuple #[.int .i64 (kofM [x.s]).1, .int .i64 (kofM [x.s]).2]) ∧ Below V.heap.size V w') := fun V e => by
    subst e
    have hb : Below W.heap.size W (W.alloc (.cells #[.string ⟨x.s.toArray⟩] 9)) := (Below.refl _ W).alloc (Nat.le_refl _) _
    refine Of_any (some ⟨W.heap.size, 0, none⟩) 1 [x.s] _ (by simp) ⟨_, _, rfl, fun i hi => ?_⟩ (h.below hb).mo (h.below hb).gl.size
    obtain rfl : i = 0 := by simpa using hi
    refine ⟨W.heap.size, 0, rfl, by simp, ?_⟩
    exact (Bk.new W 9 #[.string ⟨x.s.toArray⟩]).cell 0
  have HX := veil h
  have hb : Hid (Below W.heap.size W (W.alloc (.cells #[.string ⟨x.s.toArray⟩] 9))) := (Below.refl _ W).alloc (Nat.le_refl _) _
  have HX1 := veil (h.below (unveil hb))
  have HO1 := veil (unveil HOF _ rfl)
  clear h HOF
  unfold akW
  generalize kofM [x.s] = KO at *
  obtain ⟨ko, ke⟩ := KO
  simp only at HO1 ⊢
  cases hk : x.kind == 1
  · go_enter Tryz.func99, Tryz.ntmps99
    go_wp2_with (go_at_call 125; refine (unveil HO1).mono ?_; rintro e W2 ⟨rfl, hb2⟩; have HB2 := veil ((unveil hb).trans (hb2.mono (unveil hb).size)); have HX2 := veil ((unveil HX1).below hb2); clear c0 c1 c2 c3 c4 c5 c6 c7 c8 c9 hlr hb2; obtain ⟨⟨c0, c1, c2, c3, c4, c5, c6, c7, c8, c9⟩, hlr, _⟩ := (unveil HX2).cells)
    go_ret
    exact ⟨rfl, unveil HB2⟩
  · go_enter Tryz.func99, Tryz.ntmps99
    go_wp2_with (go_at_call 125; refine (unveil HO1).mono ?_; rintro e W2 ⟨rfl, hb2⟩; have HB2 := veil ((unveil hb).trans (hb2.mono (unveil hb).size)); have HX2 := veil ((unveil HX1).below hb2); clear c0 c1 c2 c3 c4 c5 c6 c7 c8 c9 hlr hb2; obtain ⟨⟨c0, c1, c2, c3, c4, c5, c6, c7, c8, c9⟩, hlr, _⟩ := (unveil HX2).cells)
    go_ret
    exact ⟨by simp, unveil HB2⟩
end Go.Proofs.YtmpkgjonbjpohaaGreatDoor
