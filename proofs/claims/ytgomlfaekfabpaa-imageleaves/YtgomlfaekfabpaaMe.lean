/-
  Package shape: walk, of a struct or a union.
-/
import Derived.Test.YtgomlfaekfabpaaMd
namespace Go.Proofs.Ytgomlfaekfabpaa
open Go Go.RowKit Go.Shelf
attribute [local go_sem] Oper.semAt_some
set_option linter.unusedVariables false
set_option linter.unusedSimpArgs false

theorem WaS.turn {N0 B0 l : Nat} {w W W' : World} {t : ShT} {fr : Int} {row : Option Nat} (h : WaS N0 B0 l w W t fr) (hN : N0 ≤ w.heap.size) (hg : W.grownBy W' row) (hr : ∀ r, row = some r → w.heap.size + 4 ≤ r) : WaS N0 B0 l w W' t fr :=
  ⟨Bk.turn h.t hg (fun r e => by have := hr r e; omega), h.f.turn hg (fun r e => by have := hr r e; omega), h.y.turn hg (fun r e => by have := hr r e; omega), h.r.turn hg (fun r e => by have := hr r e; omega), h.yk.turn hN hg (fun r e => by have := hr r e; omega)⟩
/-- What a round of walk hands on; what it leaves when it ends. -/
def WmI (J : List Mb → World → Prop) (N0 B0 l : Nat) (w : World) (t : ShT) (fr : Int) (d : Nat) (pre : List Mb) (p : List (FdOf ShT × Mb)) (W : World) : Prop := J (pre ++ p.flatMap (mbL d fr)) W ∧ WaS N0 B0 l w W t fr
def WmX (Jx : List Mb → World → Prop) (N0 B0 l : Nat) (full : List Mb) (w : World) (t : ShT) (fr : Int) (c : Code) (W : World) : Prop := c = .ret ∧ (∃ p, p <+: full ∧ Jx p W) ∧ WaS N0 B0 l w W t fr
theorem WmI.abides {J Jx : List Mb → World → Prop} {N0 B0 l : Nat} {full : List Mb} (hy : Yd l N0 B0 full J Jx) (w : World) (t : ShT) (fr : Int) (d : Nat) (pre : List Mb) {B C : Nat} (hN : N0 ≤ w.heap.size) (hB : B0 ≤ B) (h2 : w.heap.size + 4 ≤ B) : AbidesO B C 0 (WmI J N0 B0 l w t fr d pre) := by
  have ha := hy.aJ.abides (B' := B) (C := C) hB
  exact ⟨fun p X Y row hs hg hr => ⟨ha.turn _ _ _ _ hs.1 hg hr, hs.2.turn hN hg (fun r e => by have := (hr r e).1; omega)⟩, fun p X hs => ⟨ha.drew _ _ hs.1, hs.2.drew⟩⟩
theorem WmX.abides {J Jx : List Mb → World → Prop} {N0 B0 l : Nat} {full : List Mb} (hy : Yd l N0 B0 full J Jx) (w : World) (t : ShT) (fr : Int) (c : Code) {B C : Nat} (hN : N0 ≤ w.heap.size) (hB : B0 ≤ B) (h2 : w.heap.size + 4 ≤ B) : AbidesO B C 0 (fun (_ : List (FdOf ShT × Mb)) W => WmX Jx N0 B0 l full w t fr c W) := by
  have ha := hy.aX.abides (B' := B) (C := C) hB
  exact ⟨fun p X Y row hs hg hr => by
    obtain ⟨rfl, ⟨q, hq, hx⟩, hw⟩ := hs
    exact ⟨rfl, ⟨q, hq, ha.turn _ _ _ _ hx hg hr⟩, hw.turn hN hg (fun r e => by have := (hr r e).1; omega)⟩, fun p X hs => by
    obtain ⟨rfl, ⟨q, hq, hx⟩, hw⟩ := hs
    exact ⟨rfl, ⟨q, hq, ha.drew _ _ hx⟩, hw.drew⟩⟩
theorem ko_of {B0 B : Nat} {W W' : World} (h : KeepsFrom B0 W W') (hB : B0 ≤ B) : KeepsO B 0 W W' := ⟨h.size, fun j o hj h0 ho => h.same j o (Nat.le_trans hB hj) h0 (ho.resolve_right (by omega))⟩
theorem WaS.setF {N0 B0 l : Nat} {w W : World} {t : ShT} {fr : Int} (h : WaS N0 B0 l w W t fr) (hN : N0 ≤ w.heap.size) : WaS N0 B0 l w (W.setCell ⟨w.heap.size + 1 + 1 + 1, 0, none⟩ (.bool false)) t fr :=
  ⟨Bk.other h.t _ _ (by omega), h.f.other _ _ (by omega), h.y.other _ _ (by omega), (h.fin hN false).1, (h.fin hN false).2⟩
set_option maxRecDepth 100000 in
set_option maxHeartbeats 20000000 in
theorem walk_mem (d : Nat) (t : ShT) (fr : Int) (l N0 B0 : Nat) (full pre : List Mb) (J Jx : List Mb → World → Prop) (w : World) (hy : Yd l N0 B0 full J Jx) (h1 : (t.sh == 1) = false) (h2 : (t.sh == 2) = false) (h3 : (t.sh == 3) = false)
    (hfl : t.fs.length ≤ 40) (hok : ∀ f ∈ t.fs, FOk f (meaM d f.t)) (hin : t.In N0 w)
    (hJ : J pre w) (hB : B0 ≤ w.heap.size) (hN : N0 ≤ w.heap.size) (hpre : pre ++ (t.ml (meaM d)).flatMap (mbL d fr) <+: full)
    (hme : ∀ f ∈ t.fs, ∀ W, f.t.In W.heap.size W → Calls Try.prog 64 #[f.t.v] W fun r w' => r = .returned (extV (meaM d f.t)) ∧ Below W.heap.size W w')
    (hwm : ∀ x ∈ t.ml (meaM d), ∀ (p : List Mb) (W : World), J p W → Below N0 w W → B0 ≤ W.heap.size → N0 ≤ W.heap.size → p ++ mbL d fr x <+: full → Calls Try.prog 88 #[mbV x.1 x.2, .int .i64 fr, .func (.yield l) #[] #[]] W (WkP J Jx N0 B0 full W (p ++ mbL d fr x))) :
    Calls Try.prog 73 #[t.v, .int .i64 fr, .func (.yield l) #[] #[]] w (WkP J Jx N0 B0 full w (pre ++ (t.ml (meaM d)).flatMap (mbL d fr))) := by
  have HIN := veil hin
  have HMS := veil (fun Bd N1 => members_stops 3 (by decide) Bd N1 t (meaM d) hfl hok hme)
  have HWI := veil (members_any t)
  have HS0 := veil (WaS.new N0 B0 l w t fr hN)
  have HJ0 := veil (hy.aJ.below (((below_new2 w (.cells t.cs 25) (.cells #[.int .i64 fr] 2)).alloc (by simp; omega) (.cells #[.func (.yield l) #[] #[]] 113)).alloc (by simp; omega) (.cells #[.bool false] 4)) hJ)
  have HY := veil hy
  have HN := veil hN
  have HBB := veil hB
  have HP := veil hpre
  have HWM := veil hwm
  clear hy hN hB hpre hJ hme hwm hok hin hfl
  generalize t.ml (meaM d) = ML at *
  unfold ShT.v ShT.cs at *
  refine (callsIn_wide (n := 4)).1 ?_
  refine callsIn_of_wp_marks Try.func73 rfl trivial ?_ rfl
  simp only [Try.ntmps73, List.size_toArray, List.length_cons, List.length_nil, Nat.reduceAdd, Nat.reduceSub, Array.replicate_succ, Array.replicate_zero, List.push_toArray, List.append_toArray, List.nil_append, List.cons_append]
  refine wpIn_wide.2 ?_
  go_upto_region 1 with fail
  generalize ((((w.alloc (.cells _ 25)).alloc (.cells #[.int .i64 fr] 2)).alloc (.cells #[.func (.yield l) #[] #[]] 113)).alloc (.cells #[.bool false] 4)) = W0 at HS0 HJ0 ⊢
  obtain ⟨⟨y0, y1, y2, y3, y4, y5, y6⟩, g0, g1, g2, gf⟩ := (unveil HS0).cells
  go_wp2_with (go_at_call 43; refine (unveil HWI _).mono ?_; rintro e w' ⟨rfl, rfl⟩)
  have HTB : Hid (TyB (W0.alloc (.cells #[.int .i64 t.sh, .int .i64 t.k, .int .i64 t.n, .slice t.op t.of.length t.oc, .slice t.fp t.fs.length t.fc, .bool t.pk, .int .i64 t.al] 25)) W0.heap.size t) := TyB.new W0 t
  have HS1 : Hid (WaS N0 B0 l w (W0.alloc (.cells #[.int .i64 t.sh, .int .i64 t.k, .int .i64 t.n, .slice t.op t.of.length t.oc, .slice t.fp t.fs.length t.fc, .bool t.pk, .int .i64 t.al] 25)) t fr) := (unveil HS0).below (unveil HN) ((Below.refl _ W0).alloc (Nat.le_refl _) _)
  have HJ1 : Hid (J pre (W0.alloc (.cells #[.int .i64 t.sh, .int .i64 t.k, .int .i64 t.n, .slice t.op t.of.length t.oc, .slice t.fp t.fs.length t.fc, .bool t.pk, .int .i64 t.al] 25))) := (unveil HY).aJ.alloc _ (unveil HJ0)
  have hz : (W0.alloc (.cells #[.int .i64 t.sh, .int .i64 t.k, .int .i64 t.n, .slice t.op t.of.length t.oc, .slice t.fp t.fs.length t.fc, .bool t.pk, .int .i64 t.al] 25)).heap.size = W0.heap.size + 1 := by simp
  have hlw := (unveil HS0).r.lt
  generalize (W0.alloc (.cells #[.int .i64 t.sh, .int .i64 t.k, .int .i64 t.n, .slice t.op t.of.length t.oc, .slice t.fp t.fs.length t.fc, .bool t.pk, .int .i64 t.al] 25)) = W1 at *
  clear y0 y1 y2 y3 y4 y5 y6 g0 g1 g2 gf HS0 HJ0 HWI
  have hNw := unveil HN
  have hBw := unveil HBB
  have HKB := (unveil HS1).yk.be
  refine (wpIn_wide (n := 4)).1 ?_
  refine wpIn_rangeFunc_ownA (k := 0) rfl (by decide) (gf := 70) (lb := #[.pointer (some ⟨W0.heap.size, 0, none⟩)]) rfl trivial (enters_of Try.func70 (by kernel_rfl) rfl)
    (unveil HMS W0.heap.size N0 W1 (by omega) (unveil HTB) ((unveil HIN).below HKB)) KpM.trans (fun W lb o o' hlb hlo ho _ => KpM.put hlo ho (by omega) o') (fun W o hW => KpM.below ((Below.refl _ W).alloc (Nat.le_refl _) o) (by omega)) (Below.refl _ _) (fun _ => rfl)
    (WmI J N0 B0 l w t fr d pre) (fun c _ W => WmX Jx N0 B0 l full w t fr c W) (WmI.abides (unveil HY) w t fr d pre hNw (by omega) (by omega)) (fun c => WmX.abides (unveil HY) w t fr c hNw (by omega) (by omega))
    ⟨by rw [List.flatMap_nil, List.append_nil]; exact unveil HJ1, unveil HS1⟩ (fun x => .cells (mbC x.1 x.2) 77)
    (fun x A => { tmps := #[.agg #[.int .i64 t.sh, .int .i64 t.k, .int .i64 t.n, .slice t.op t.of.length t.oc, .slice t.fp t.fs.length t.fc, .bool t.pk, .int .i64 t.al], .int .i64 fr, .func (.yield l) #[] #[], .pointer (some ⟨w.heap.size, 0, none⟩), .pointer (some ⟨w.heap.size + 1, 0, none⟩), .pointer (some ⟨w.heap.size + 1 + 1, 0, none⟩), .pointer (some ⟨w.heap.size + 1 + 1 + 1, 0, none⟩), undef, undef, .pointer (some ⟨A, 0, none⟩), .pointer (some ⟨w.heap.size, 0, none⟩), .int .i64 t.sh, .bool false, .bool false, undef, undef, undef, undef, undef, undef, undef, undef, undef, undef, .bool false, .bool false, undef, undef, undef, undef, .bool false, .bool false, undef, undef, undef, undef, undef, undef, undef, undef, undef, undef, undef, undef, undef, undef, undef, undef, undef, undef, undef, undef, undef, undef, undef, undef, undef, .agg #[.int .i64 t.sh, .int .i64 t.k, .int .i64 t.n, .slice t.op t.of.length t.oc, .slice t.fp t.fs.length t.fc, .bool t.pk, .int .i64 t.al], .func (.func 70) #[] #[.pointer (some ⟨W0.heap.size, 0, none⟩)], .agg (mbC x.1 x.2), undef, undef, undef, undef, undef], defers := [] })
    ?assign ?body ?done ?stop
  case assign =>
    intro l' x W' K hK
    simp only [encM, mbV, mbC] at hK ⊢
    gi_wp2
    simpa using hK
  case body =>
    rintro l' p x W2 A hA hxA hno ⟨oJ, oS⟩ hp
    have hx : Bk W2 A 77 (mbC x.1 x.2) := hxA
    have hsz := oS.yk.size
    have hmem : x ∈ ML := hp.subset (by simp)
    have hpf : (pre ++ p.flatMap (mbL d fr)) ++ mbL d fr x <+: full := by
      refine List.IsPrefix.trans ?_ (unveil HP)
      obtain ⟨r, hr⟩ := hp
      rw [← hr, List.append_assoc, List.flatMap_append, List.flatMap_append]
      refine (List.prefix_append_right_inj _).2 ?_
      rw [List.append_assoc]
      refine (List.prefix_append_right_inj _).2 ?_
      simp
    have HC := veil (unveil HWM x hmem _ W2 oJ oS.yk.be (by omega) (by omega) hpf)
    obtain ⟨⟨y0, y1, y2, y3, y4, y5, y6⟩, g0, g1, g2, gf⟩ := oS.cells
    have HOS := veil oS
    obtain ⟨c0, c1, c2, c3, c4, c5, c6, c7, c8, c9, c10, c11, c12⟩ := hx.thirteen
    have HFL : Hid ((pre ++ p.flatMap (mbL d fr)) ++ mbL d fr x = pre ++ (p ++ [x]).flatMap (mbL d fr)) := by
      unfold Hid
      rw [List.flatMap_append, List.append_assoc]
      simp
    rw [unveil HFL] at HC
    clear oS hx hxA hno oJ hmem hpf hp HFL
    have HC2 : Hid (Calls Try.prog 88 #[.agg (mbC x.1 x.2), .int .i64 fr, .func (.yield l) #[] #[]] W2 (WkP J Jx N0 B0 full W2 (pre ++ (p ++ [x]).flatMap (mbL d fr)))) := HC
    clear HC
    unfold mbC at HC2 ⊢
    gi_wp2_with (refine ⟨trivial, ?_⟩; gi_at_call 88; refine (callsIn_wide.2 (unveil HC2)).mono ?_; rintro e W6 hw6; have hk6 : Hid (YK N0 B0 W2 W6) := (by rcases hw6 with h | h <;> exact h.2.2); have HS6 := veil ((unveil HOS).call (unveil hk6)); have HW6 := veil hw6; clear hw6; obtain ⟨⟨z0, z1, z2, z3, z4, z5, z6⟩, k0, k1, k2, kf⟩ := (unveil HS6).cells; rcases unveil HW6 with ⟨rfl, hJ6, _⟩ | ⟨rfl, hX6, _⟩)
    · exact ⟨kf_up (unveil hk6).kf (by omega), ko_of (unveil hk6).kf (by omega), (unveil hk6).kp, hJ6, unveil HS6⟩
    · obtain ⟨q, hq, hx⟩ := hX6
      exact ⟨(kf_up (unveil hk6).kf (by omega)).trans ((KeepsOthers.setCell _ _ _).from _), (ko_of (unveil hk6).kf (by omega)).trans (KeepsO.setCell (.inl (by omega))), rfl, ⟨q, hq, (unveil HY).aX.setCell _ hx (by omega) (unveil HS6).r⟩, (unveil HS6).setF hNw⟩
  case done =>
    rintro D' W' hD' ⟨cJ, cS⟩ hK
    have HCS := veil cS
    have HCJ := veil cJ
    have HKK := veil hK
    obtain ⟨⟨z0, z1, z2, z3, z4, z5, z6⟩, k0, k1, k2, kf⟩ := cS.cells
    have hDn : D' ≠ w.heap.size + 1 + 1 + 1 := by omega
    clear cS cJ hK
    go_wp2_with fail
    have hKs : (W'.setCell ⟨w.heap.size + 1 + 1 + 1, 0, none⟩ (.bool true)).heap[D']? = some (.deferred (some [])) := (Below.heap_setCell _ _ _ _ hDn).trans (unveil HKK)
    refine ⟨by simp, .inl ⟨_, _, rfl, run_takeDeferred hKs, ?_⟩⟩
    have hf := (unveil HCS).fin hNw true
    refine ⟨_, res_w (f := Try.f73) rfl rfl (hf.1.turn (grownBy_putObj' _ D' _) (fun r e => by cases e; omega)), .inl ⟨rfl, ?_, hf.2.turn hNw (grownBy_putObj' _ D' _) (fun r e => by cases e; omega)⟩⟩
    exact (unveil HY).aJ.putObj _ ((unveil HY).aJ.setCell _ (unveil HCJ) (by omega) (unveil HCS).r) (by omega) hKs rfl
  case stop =>
    rintro D' c p W' hD' _ ⟨rfl, ⟨q, hq, hx⟩, cS⟩ hK
    have HCS := veil cS
    have HCX := veil hx
    have HKK := veil hK
    clear cS hx hK
    gi_wp2
    refine ⟨by simp, .inl ⟨_, _, rfl, run_takeDeferred (unveil HKK), ?_⟩⟩
    refine ⟨_, res_w (f := Try.f73) rfl rfl ((unveil HCS).r.turn (grownBy_putObj' _ D' _) (fun r e => by cases e; omega)), .inr ⟨rfl, ⟨q, hq, ?_⟩, (unveil HCS).yk.turn hNw (grownBy_putObj' _ D' _) (fun r e => by cases e; omega)⟩⟩
    exact (unveil HY).aX.putObj _ (unveil HCX) (by omega) (unveil HKK) rfl
end Go.Proofs.Ytgomlfaekfabpaa
