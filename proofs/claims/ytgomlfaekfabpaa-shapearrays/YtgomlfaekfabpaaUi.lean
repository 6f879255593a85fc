/-
  Package shape: lay.
-/
import Derived.Test.YtgomlfaekfabpaaUh
import Derived.Deep.RegionHeld3
namespace Go.Proofs.Ytgomlfaekfabpaa
open Go Go.RowKit
set_option linter.unusedVariables false
set_option linter.unusedSimpArgs false

theorem hmixW : Try.prog.follows .mixedOrders = true := by kernel_rfl
def layM (e : Int × Int) (f : FdOf ShT) (en : Int) (pk : Bool) : Mb :=
  if 0 ≤ f.bits then layB f en (8 * e.1) pk else ⟨upM en (8 * (if pk then 1 else e.2)), 8 * e.1, f.t.k, if pk then 1 else e.2⟩
def extV (e : Int × Int) : Value := .agg #[.int .i64 e.1, .int .i64 e.2]
theorem Bk.two {W : World} {b : Nat} {T : TypeId} {v0 v1 : Value} (h : Bk W b T #[v0, v1]) : W.cell? ⟨b, 0, none⟩ = some v0 ∧ W.cell? ⟨b, 1, none⟩ = some v1 := ⟨h.cell 0, h.cell 1⟩
theorem below_new2 (w : World) (o o' : Obj) : Below w.heap.size w ((w.alloc o).alloc o') := ((Below.refl _ w).alloc (Nat.le_refl _) o).alloc (by simp) o'
/-- The three blocks of lay: the member's, the answer's, the extent's. -/
structure LaS (w W : World) (E : Nat) (F X : Array Value) : Prop where
  f : Bk W w.heap.size 45 F
  z : Bk W (w.heap.size + 1) 77 zeroMb
  e : Bk W E 68 X
  be : Below w.heap.size w W
  lt : w.heap.size + 2 ≤ E
theorem LaS.set {w W : World} {E : Nat} {F X : Array Value} (h : LaS w W E F X) (i : Nat) (v : Value) : LaS w (W.setCell ⟨E, i, none⟩ v) E F (X.setIfInBounds i v) :=
  ⟨h.f.other _ _ (by have := h.lt; omega), h.z.other _ _ (by have := h.lt; omega), h.e.set i v, h.be.setCell (p := ⟨E, i, none⟩) (by have := h.lt; show w.heap.size ≤ E; omega) v, h.lt⟩
theorem LaS.drew {w W : World} {E : Nat} {F X : Array Value} (h : LaS w W E F X) : LaS w W.drew E F X := ⟨h.f, h.z, h.e, h.be.drew, h.lt⟩
set_option maxRecDepth 100000 in
set_option maxHeartbeats 40000000 in
theorem lay_any (f : FdOf ShT) (en : Int) (pk : Bool) (e : Int × Int) (w : World) (he0 : 0 ≤ en) (he1 : en ≤ 1073741824) (hz0 : 0 ≤ e.1) (hz1 : e.1 ≤ 65537) (ha0 : 1 ≤ e.2) (ha1 : e.2 ≤ 64)
    (hb : 0 ≤ f.bits → 1 ≤ e.1 ∧ e.1 ≤ 8 ∧ f.bits ≤ 8 * e.1)
    (HM0 : ∀ W, Below w.heap.size w W → Calls Try.prog 64 #[f.t.v] W fun r w' => r = .returned (extV e) ∧ Below W.heap.size W w') :
    Calls Try.prog 71 #[f.v, .int .i64 en, .bool pk] w fun r w' => r = .returned (mbV f (layM e f en pk)) ∧ Below w.heap.size w w' := by
  obtain ⟨z, a⟩ := e
  simp only at hz0 hz1 ha0 ha1 hb
  have HM : Hid (∀ o o', Calls Try.prog 64 #[f.t.v] ((w.alloc o).alloc o') fun r w' => r = .returned (extV (z, a)) ∧ Below ((w.alloc o).alloc o').heap.size ((w.alloc o).alloc o') w') := fun o o' => HM0 _ (below_new2 w o o')
  clear HM0
  unfold layM
  have HX : Hid (∀ w1, Below ((w.alloc (.cells f.cs 45)).alloc (.cells zeroMb 77)).heap.size ((w.alloc (.cells f.cs 45)).alloc (.cells zeroMb 77)) w1 →
      LaS w (w1.alloc (.cells #[.int .i64 z, .int .i64 a] 68)) w1.heap.size f.cs #[.int .i64 z, .int .i64 a]) := fun w1 h => by
    have hs := h.size
    simp only [World.size_alloc] at hs
    have h1 := Bk.new (w.alloc (.cells f.cs 45)) 77 zeroMb
    rw [World.size_alloc] at h1
    exact ⟨(((Bk.new w _ _).alloc _).below h).alloc _, (h1.below h).alloc _, Bk.new w1 _ _, ((below_new2 w _ _).trans (h.mono (by simp; omega))).alloc (by omega) _, by omega⟩
  by_cases hbi : 0 ≤ f.bits
  · obtain ⟨q1, q2, q3⟩ := hb hbi
    have HB := veil (fun W => layBits_any f en (8 * z) pk W he0 he1 (by omega) (by omega) hbi (by omega))
    simp only [if_pos hbi]
    generalize layB f en (8 * z) pk = R at *
    obtain ⟨r1, r2, r3, r4⟩ := R
    unfold mbV mbC FdOf.v FdOf.cs extV zeroMb ShT.v ShT.cs at *
    simp only at *
    generalize f.t.sh = a1 at *
    generalize f.t.k = a2 at *
    generalize f.t.n = a3 at *
    generalize f.t.op = a4 at *
    generalize f.t.of.length = a4l at *
    generalize f.t.oc = a4c at *
    generalize f.t.fp = a5 at *
    generalize f.t.fs.length = a5l at *
    generalize f.t.fc = a5c at *
    generalize f.t.pk = a6 at *
    generalize f.t.al = a7 at *
    generalize f.bits = bi at *
    generalize f.nm = nm at *
    have hge : bi ≥ 0 := hbi
    go_enter Try.func71, Try.ntmps71
    go_upto_region 2 with (go_at_call 64; refine (unveil HM _ _).mono ?_; rintro r w1 ⟨rfl, hb1⟩)
    have HL := veil (unveil HX w1 hb1)
    have HE : Hid (w1.heap.size = w1.heap.size) := rfl
    generalize w1.alloc (.cells #[.int .i64 z, .int .i64 a] 68) = W0 at HL ⊢
    generalize w1.heap.size = E at *
    clear hb1 HM HX
    obtain ⟨c0, c1, c2, c3, c4, c5, c6, c7, c8⟩ := (unveil HL).f.nine
    obtain ⟨x0, x1⟩ := (unveil HL).e.two
    have hl0 := (unveil HL).f.lt
    have hl1 := (unveil HL).z.lt
    go_wp2_with (go_at_call 86; refine (unveil HB _).mono ?_; rintro r w' ⟨rfl, hw'⟩; have zz := (unveil HL).z.below hw'; obtain ⟨z0, z1, z2, z3, z4, z5, z6, z7, z8, z9, z10, z11, z12⟩ := zz.thirteen; obtain ⟨y0, y1, y2, y3, y4, y5, y6, y7, y8, y9, y10, y11, y12⟩ := zz.froz13; have hl3 := zz.lt)
    exact bodyPost_ret (res_m (f := Try.f71) rfl rfl (zz.put13 _ _ _ _ _ _ _ _ _ _ _ _ _) rfl) rfl ⟨rfl, below_put13 ((unveil HL).be.trans (hw'.mono (unveil HL).be.size)) (by omega) _ _ _ _ _ _ _ _ _ _ _ _ _⟩
  · have hlt : f.bits < 0 := by omega
    obtain ⟨AA, HAA⟩ : ∃ AA, Hid ((if pk then 1 else a) = AA) := ⟨_, rfl⟩
    simp only [if_neg hbi]
    rw [unveil HAA]
    have hA1 : 1 ≤ AA ∧ AA ≤ 64 := by have := unveil HAA; cases pk <;> simp at this <;> omega
    obtain ⟨hA1, hA2⟩ := hA1
    have HU := veil (fun W => up_any en (8 * AA) W he0 (by omega) (by omega) (by omega))
    generalize upM en (8 * AA) = UP at *
    unfold mbV mbC FdOf.v FdOf.cs extV zeroMb ShT.v ShT.cs at *
    simp only at *
    generalize f.t.sh = a1 at *
    generalize f.t.k = a2 at *
    generalize f.t.n = a3 at *
    generalize f.t.op = a4 at *
    generalize f.t.of.length = a4l at *
    generalize f.t.oc = a4c at *
    generalize f.t.fp = a5 at *
    generalize f.t.fs.length = a5l at *
    generalize f.t.fc = a5c at *
    generalize f.t.pk = a6 at *
    generalize f.t.al = a7 at *
    generalize f.bits = bi at *
    generalize f.nm = nm at *
    clear hb
    have hge : ¬ bi ≥ 0 := hbi
    go_enter Try.func71, Try.ntmps71
    go_upto_region 2 with (go_at_call 64; refine (unveil HM _ _).mono ?_; rintro r w1 ⟨rfl, hb1⟩)
    have HL := veil (unveil HX w1 hb1)
    generalize w1.alloc (.cells #[.int .i64 z, .int .i64 a] 68) = W0 at HL ⊢
    generalize w1.heap.size = E at *
    clear hb1 HM HX
    obtain ⟨c0, c1, c2, c3, c4, c5, c6, c7, c8⟩ := (unveil HL).f.nine
    obtain ⟨x0, x1⟩ := (unveil HL).e.two
    have x0f := (unveil HL).e.frozen 0
    have x1f := (unveil HL).e.frozen 1
    have hl0 := (unveil HL).f.lt
    have hl1 := (unveil HL).z.lt
    go_upto_if 21 with fail
    go_cut [] (fun wx => Hid (LaS w wx E #[.string ⟨nm.toArray⟩, .int .i64 a1, .int .i64 a2, .int .i64 a3, .slice a4 a4l a4c, .slice a5 a5l a5c, .bool a6, .int .i64 a7, .int .i64 bi] #[.int .i64 z, .int .i64 AA]))
    case first =>
      cases pk
      · go_wp2_with fail
        go_meet
        case rel =>
          have e := unveil HAA
          simp only [Bool.false_eq_true, if_false] at e
          rw [← e]
          exact HL
      · go_wp2_with fail
        go_meet
        case rel =>
          have e := unveil HAA
          simp only [if_true] at e
          rw [← e]
          have hs := (unveil HL).set 1 (.int .i64 1)
          simp only [List.setIfInBounds_toArray, List.set_cons_zero, List.set_cons_succ] at hs
          exact hs
    case rest =>
      clear HL HAA c0 c1 c2 c3 c4 c5 c6 c7 c8 x0 x1 x0f x1f hl0 hl1
      have HL := hcut
      clear hcut
      go_upto_region 6 with fail
      have hw8 : IntKind.i64.wrap (8 * AA) = 8 * AA := by rw [IntKind.wrap_i64]; omega
      have hw9 : IntKind.i64.wrap (8 * z) = 8 * z := by rw [IntKind.wrap_i64]; omega
      refine wp_region_noPanic (wpIn_wide.1 (wpIn_region_mix (ro := none) (n := 0) (fun w' => Hid (LaS w w' E #[.string ⟨nm.toArray⟩, .int .i64 a1, .int .i64 a2, .int .i64 a3, .slice a4 a4l a4c, .slice a5 a5l a5c, .bool a6, .int .i64 a7, .int .i64 bi] #[.int .i64 z, .int .i64 AA]))
        [(0, true), (1, true), (2, true), (3, true), (4, true), (6, true), (7, true), (8, true), (9, true), (10, true), (11, true), (13, true), (14, true), (5, false), (12, true), (15, true)]
        16 hmixW (by kernel_rfl) (by kernel_rfl) (by kernel_rfl) (by kernel_rfl) (by kernel_rfl) (by kernel_rfl) (fun _ _ _ _ h => h) (unveil HL).drew ?_))
      have HS1 := veil (unveil HL).drew
      refine mix_pure _ rfl _ (.inl ⟨rfl, fun W hS => (by obtain ⟨c0, c1, c2, c3, c4, c5, c6, c7, c8⟩ := (unveil hS).f.nine; go_simp; rfl)⟩) (fun B hB => ?_); simp only [Act.put, List.setIfInBounds_toArray, List.set_cons_zero, List.set_cons_succ] at hB; subst hB
      refine mix_pure _ rfl _ (.inl ⟨rfl, fun W hS => (by go_simp; rfl)⟩) (fun B hB => ?_); simp only [Act.put, List.setIfInBounds_toArray, List.set_cons_zero, List.set_cons_succ] at hB; subst hB
      refine mix_pure _ rfl _ (.inl ⟨rfl, fun W hS => (by go_simp; rfl)⟩) (fun B hB => ?_); simp only [Act.put, List.setIfInBounds_toArray, List.set_cons_zero, List.set_cons_succ] at hB; subst hB
      refine mix_pure _ rfl _ (.inl ⟨rfl, fun W hS => (by obtain ⟨x0, x1⟩ := (unveil hS).e.two; go_simp; rfl)⟩) (fun B hB => ?_); simp only [Act.put, List.setIfInBounds_toArray, List.set_cons_zero, List.set_cons_succ] at hB; subst hB
      refine mix_pure _ rfl (.int .i64 (8 * AA)) (.inl ⟨rfl, fun W hS => (by go_simp; first | done | rw [hw8])⟩) (fun B hB => ?_); simp only [Act.put, List.setIfInBounds_toArray, List.set_cons_zero, List.set_cons_succ] at hB; subst hB
      refine mix_pure _ rfl _ (.inl ⟨rfl, fun W hS => (by go_simp; rfl)⟩) (fun B hB => ?_); simp only [Act.put, List.setIfInBounds_toArray, List.set_cons_zero, List.set_cons_succ] at hB; subst hB
      refine mix_pure _ rfl _ (.inl ⟨rfl, fun W hS => (by obtain ⟨x0, x1⟩ := (unveil hS).e.two; go_simp; rfl)⟩) (fun B hB => ?_); simp only [Act.put, List.setIfInBounds_toArray, List.set_cons_zero, List.set_cons_succ] at hB; subst hB
      refine mix_pure _ rfl (.int .i64 (8 * z)) (.inl ⟨rfl, fun W hS => (by go_simp; first | done | rw [hw9])⟩) (fun B hB => ?_); simp only [Act.put, List.setIfInBounds_toArray, List.set_cons_zero, List.set_cons_succ] at hB; subst hB
      refine mix_pure _ rfl _ (.inl ⟨rfl, fun W hS => (by go_simp; rfl)⟩) (fun B hB => ?_); simp only [Act.put, List.setIfInBounds_toArray, List.set_cons_zero, List.set_cons_succ] at hB; subst hB
      refine mix_pure _ rfl _ (.inl ⟨rfl, fun W hS => (by go_simp; rfl)⟩) (fun B hB => ?_); simp only [Act.put, List.setIfInBounds_toArray, List.set_cons_zero, List.set_cons_succ] at hB; subst hB
      refine mix_pure _ rfl _ (.inl ⟨rfl, fun W hS => (by have c2 := (unveil hS).f.cell 2; simp only [List.getElem?_toArray, List.getElem?_cons_succ, List.getElem?_cons_zero] at c2; go_simp; rfl)⟩) (fun B hB => ?_); simp only [Act.put, List.setIfInBounds_toArray, List.set_cons_zero, List.set_cons_succ] at hB; subst hB
      refine mix_pure _ rfl _ (.inl ⟨rfl, fun W hS => (by go_simp; rfl)⟩) (fun B hB => ?_); simp only [Act.put, List.setIfInBounds_toArray, List.set_cons_zero, List.set_cons_succ] at hB; subst hB
      refine mix_pure _ rfl _ (.inl ⟨rfl, fun W hS => (by obtain ⟨x0, x1⟩ := (unveil hS).e.two; go_simp; rfl)⟩) (fun B hB => ?_); simp only [Act.put, List.setIfInBounds_toArray, List.set_cons_zero, List.set_cons_succ] at hB; subst hB
      refine mix_sole _ rfl (fun K hK => ?_)
      go_simp
      refine ⟨trivial, rfl, (callsIn_wide.2 (unveil HU _)).mono ?_⟩
      rintro e W1 ⟨rfl, hb⟩
      obtain rfl := hb.symm
      refine hK _ _ HS1 ?_
      clear hK K hb
      refine mix_pure _ rfl _ (.inl ⟨rfl, fun W hS => (by go_simp; rfl)⟩) (fun B hB => ?_); simp only [Act.put, List.setIfInBounds_toArray, List.set_cons_zero, List.set_cons_succ] at hB; subst hB
      refine mix_pure _ rfl _ (.inl ⟨rfl, fun W hS => (by go_simp; rfl)⟩) (fun B hB => ?_); simp only [Act.put, List.setIfInBounds_toArray, List.set_cons_zero, List.set_cons_succ] at hB; subst hB
      refine mix_nil ?_
      generalize World.drew _ = Wd at HS1 ⊢
      have zz := (unveil HS1).z
      obtain ⟨z0, z1, z2, z3, z4, z5, z6, z7, z8, z9, z10, z11, z12⟩ := zz.thirteen
      obtain ⟨y0, y1, y2, y3, y4, y5, y6, y7, y8, y9, y10, y11, y12⟩ := zz.froz13
      refine listIn_last rfl (fun K hK => ?_)
      go_simp
      refine hK _ _ ?_
      clear hK K
      go_wp2_with fail
      exact bodyPost_ret (res_m (f := Try.f71) rfl rfl (zz.put13 _ _ _ _ _ _ _ _ _ _ _ _ _) rfl) rfl ⟨rfl, below_put13 (unveil HS1).be (by omega) _ _ _ _ _ _ _ _ _ _ _ _ _⟩
end Go.Proofs.Ytgomlfaekfabpaa
