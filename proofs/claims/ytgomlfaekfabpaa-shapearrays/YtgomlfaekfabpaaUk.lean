/-
  Package shape: measureMembers.
-/
import Derived.Test.YtgomlfaekfabpaaUj
import Derived.Test.YtgomlfaekfabpaaUg
namespace Go.Proofs.Ytgomlfaekfabpaa
open Go Go.RowKit Go.Shelf
attribute [local go_sem] Oper.semAt_some
set_option linter.unusedVariables false
set_option linter.unusedSimpArgs false

def enF (l : List (FdOf ShT × Mb)) : Int := l.foldl (fun a x => max a (x.2.bit + x.2.bits)) 0
def alF (a0 : Int) (l : List (FdOf ShT × Mb)) : Int := l.foldl (fun a x => max a x.2.al) (max 1 a0)
theorem enF_snoc (l : List (FdOf ShT × Mb)) (x : FdOf ShT × Mb) : enF (l ++ [x]) = max (enF l) (x.2.bit + x.2.bits) := by simp [enF]
theorem alF_snoc (a0 : Int) (l : List (FdOf ShT × Mb)) (x : FdOf ShT × Mb) : alF a0 (l ++ [x]) = max (alF a0 l) x.2.al := by simp [alF]
def memM (t : ShT) (l : List (FdOf ShT × Mb)) : Int × Int := (min (upM (upM (enF l) 8 / 8) (alF t.al l)) 65537, alF t.al l)
/-- What members take is in bounds. -/
def MOk (m : Mb) : Prop := 0 ≤ m.bit ∧ 0 ≤ m.bits ∧ m.bit + m.bits ≤ 20992320 ∧ 1 ≤ m.al ∧ m.al ≤ 64
theorem ml_ok (meas : ShT → Int × Int) (pk st : Bool) : ∀ (l : List (FdOf ShT)) (en : Int) (c : Int), (∀ f ∈ l, FOk f (meas f.t)) → 0 ≤ en → en ≤ 524808 * c → c + l.length ≤ 40 → ∀ x ∈ mlM meas pk st en l, MOk x.2
  | [], _, _, _, _, _, _, x, hx => by cases hx
  | f :: r, en, c, hf, h0, h1, hc, x, hx => by
    simp only [List.length_cons] at hc
    obtain ⟨b1, b2, b3, b4, b5, b6⟩ := lay_bound (hf f (by simp)) h0 pk
    rw [mlM] at hx
    rcases List.mem_cons.1 hx with rfl | hx
    · exact ⟨by simp only; omega, b3, by simp only; omega, b5, b6⟩
    · refine ml_ok meas pk st r _ (c + 1) (fun g hg => hf g (by simp [hg])) ?_ ?_ (by omega) x hx
      · split <;> omega
      · split <;> omega
theorem enF_ok : ∀ (l : List (FdOf ShT × Mb)), (∀ x ∈ l, MOk x.2) → 0 ≤ enF l ∧ enF l ≤ 20992320 := by
  intro l
  unfold enF
  suffices ∀ a, 0 ≤ a → a ≤ 20992320 → (∀ x ∈ l, MOk x.2) → 0 ≤ l.foldl (fun a x => max a (x.2.bit + x.2.bits)) a ∧ l.foldl (fun a x => max a (x.2.bit + x.2.bits)) a ≤ 20992320 from this 0 (by omega) (by omega)
  induction l with
  | nil => intro a h1 h2 _; exact ⟨h1, h2⟩
  | cons x r ih =>
    intro a h1 h2 h
    obtain ⟨q1, q2, q3, _, _⟩ := h x (by simp)
    exact ih _ (by dsimp only; omega) (by dsimp only; omega) (fun y hy => h y (by simp [hy]))
theorem alF_ok (a0 : Int) (h0 : a0 ≤ 64) : ∀ (l : List (FdOf ShT × Mb)), (∀ x ∈ l, MOk x.2) → 1 ≤ alF a0 l ∧ alF a0 l ≤ 64 := by
  intro l
  unfold alF
  suffices ∀ a, 1 ≤ a → a ≤ 64 → (∀ x ∈ l, MOk x.2) → 1 ≤ l.foldl (fun a x => max a x.2.al) a ∧ l.foldl (fun a x => max a x.2.al) a ≤ 64 from this _ (by omega) (by omega)
  induction l with
  | nil => intro a h1 h2 _; exact ⟨h1, h2⟩
  | cons x r ih =>
    intro a h1 h2 h
    obtain ⟨_, _, _, q1, q2⟩ := h x (by simp)
    exact ih _ (by dsimp only; omega) (by dsimp only; omega) (fun y hy => h y (by simp [hy]))
def MmI (w : World) (E A : Nat) (a0 : Int) (pre : List (FdOf ShT × Mb)) (W : World) : Prop :=
  Bk W E 2 #[.int .i64 (enF pre)] ∧ Bk W A 2 #[.int .i64 (alF a0 pre)] ∧ Bk W (w.heap.size + 1) 68 #[.int .i64 0, .int .i64 0] ∧ Below w.heap.size w W
theorem Bk.turn {W W' : World} {row : Option Nat} {b : Nat} {T : TypeId} {cs : Array Value} (h : Bk W b T cs) (hg : W.grownBy W' row) (hr : ∀ r, row = some r → b < r) : Bk W' b T cs :=
  (hg.block b h.lt (fun e => by have := hr b e.symm; omega)).trans h
theorem MmI.abides (w : World) (E A : Nat) (a0 : Int) (B C : Nat) (h1 : E < B) (h2 : A < B) (h3 : w.heap.size + 1 < B) : AbidesO B C 0 (MmI w E A a0) := by
  refine ⟨fun pre X Y row hs hg hr => ?_, fun pre X hs => ?_⟩
  · obtain ⟨a, b, c, e⟩ := hs
    have hr' : ∀ r, row = some r → B ≤ r := fun r e => (hr r e).1
    exact ⟨a.turn hg (fun r e => by have := hr' r e; omega), b.turn hg (fun r e => by have := hr' r e; omega), c.turn hg (fun r e => by have := hr' r e; omega), e.grown hg e.size (fun r e => by have := hr' r e; omega)⟩
  · obtain ⟨a, b, c, e⟩ := hs
    exact ⟨a, b, c, e.drew⟩
theorem false_abides (B C : Nat) : AbidesO B C 0 (fun (_ : List (FdOf ShT × Mb)) (_ : World) => False) := ⟨fun _ _ _ _ h _ _ => h, fun _ _ h => h⟩
theorem mm_new (w : World) (t : ShT) (x y : Int) : let W := (((((w.alloc (.cells t.cs 25)).alloc (.cells #[.int .i64 0, .int .i64 0] 68)).alloc (.cells #[.int .i64 x] 2)).alloc (.cells #[.int .i64 y] 2)).drew);
    Bk W (w.heap.size + 1 + 1) 2 #[.int .i64 x] ∧ Bk W (w.heap.size + 1 + 1 + 1) 2 #[.int .i64 y] ∧ Bk W (w.heap.size + 1) 68 #[.int .i64 0, .int .i64 0] ∧ Below w.heap.size w W ∧ TyB W w.heap.size t := by
  intro W
  have h1 := Bk.new (w.alloc (.cells t.cs 25)) 68 #[.int .i64 0, .int .i64 0]
  have h2 := Bk.new ((w.alloc (.cells t.cs 25)).alloc (.cells #[.int .i64 0, .int .i64 0] 68)) 2 #[.int .i64 x]
  have h3 := Bk.new (((w.alloc (.cells t.cs 25)).alloc (.cells #[.int .i64 0, .int .i64 0] 68)).alloc (.cells #[.int .i64 x] 2)) 2 #[.int .i64 y]
  simp only [World.size_alloc] at h1 h2 h3
  exact ⟨h2.alloc _, h3, (h1.alloc _).alloc _, (((below_new2 w _ _).alloc (by simp; omega) _).alloc (by simp; omega) _).drew, ((((Bk.new w _ t.cs).alloc _).alloc _).alloc _ : Bk _ _ _ _)⟩
set_option maxRecDepth 100000 in
set_option maxHeartbeats 20000000 in
theorem measureMembers_any (t : ShT) (meas : ShT → Int × Int) (w : World) (hin : t.In w.heap.size w) (hfl : t.fs.length ≤ 40) (hal : t.al ≤ 64) (hok : ∀ f ∈ t.fs, FOk f (meas f.t))
    (hm : ∀ f ∈ t.fs, ∀ W, f.t.In W.heap.size W → Calls Try.prog 64 #[f.t.v] W fun r w' => r = .returned (extV (meas f.t)) ∧ Below W.heap.size W w') :
    Calls Try.prog 82 #[t.v] w fun e w' => e = .returned (extV (memM t (t.ml meas))) ∧ Below w.heap.size w w' := by
  have HIN := veil hin
  have HWI := veil (members_any t)
  have HMS := veil (fun Bd N0 => members_stops 3 (by decide) Bd N0 t meas hfl hok hm)
  have hmo := ml_ok meas t.pk (t.sh == 4) t.fs 0 0 hok (by omega) (by omega) (by omega)
  have HMO : Hid (∀ x ∈ t.ml meas, MOk x.2) := hmo
  have hen := enF_ok _ hmo
  have hao := alF_ok t.al hal _ hmo
  have HEN : Hid (0 ≤ enF (t.ml meas) ∧ enF (t.ml meas) ≤ 20992320) := hen
  have HAO : Hid (1 ≤ alF t.al (t.ml meas) ∧ alF t.al (t.ml meas) ≤ 64) := hao
  clear hin hok hm hmo hen hao
  obtain ⟨r1, r2, HR⟩ : ∃ r1 r2, Hid (memM t (t.ml meas) = (r1, r2)) := ⟨_, _, rfl⟩
  rw [unveil HR]
  unfold ShT.v ShT.cs at HWI ⊢
  refine (callsIn_wide (n := 4)).1 ?_
  refine callsIn_of_wp_marks Try.func82 rfl trivial ?_ rfl
  simp only [Try.ntmps82, List.size_toArray, List.length_cons, List.length_nil, Nat.reduceAdd, Nat.reduceSub, Array.replicate_succ, Array.replicate_zero, List.push_toArray, List.append_toArray, List.nil_append, List.cons_append]
  refine wpIn_wide.2 ?_
  go_wp2_with fail
  go_cut [3, 4] from 6 to 32 (fun s q wx => ∃ E A, s = .pointer (some ⟨E, 0, none⟩) ∧ q = .pointer (some ⟨A, 0, none⟩) ∧ E ≠ A ∧ w.heap.size + 2 ≤ E ∧ w.heap.size + 2 ≤ A ∧ Hid (MmI w E A t.al [] wx) ∧ Hid (TyB wx w.heap.size t))
  case first =>
    go_region
    all_goals (go_wp2_with fail)
    all_goals go_meet
    all_goals (
      case rel =>
        first
        | exact ⟨_, _, rfl, rfl, by omega, by omega, by omega, ⟨(mm_new w t _ _).1, by rw [show alF t.al [] = 1 by unfold alF; simp; omega]; exact (mm_new w t _ _).2.1, (mm_new w t _ _).2.2.1, (mm_new w t _ _).2.2.2.1⟩, (mm_new w t _ _).2.2.2.2⟩
        | exact ⟨_, _, rfl, rfl, by omega, by omega, by omega, ⟨(mm_new w t _ _).1, by rw [show alF t.al [] = t.al by unfold alF; simp; omega]; exact (mm_new w t _ _).2.1, (mm_new w t _ _).2.2.1, (mm_new w t _ _).2.2.2.1⟩, (mm_new w t _ _).2.2.2.2⟩
        | exact ⟨_, _, rfl, rfl, by omega, by omega, by omega, ⟨(mm_new w t _ _).2.1, by rw [show alF t.al [] = 1 by unfold alF; simp; omega]; exact (mm_new w t _ _).1, (mm_new w t _ _).2.2.1, (mm_new w t _ _).2.2.2.1⟩, (mm_new w t _ _).2.2.2.2⟩
        | exact ⟨_, _, rfl, rfl, by omega, by omega, by omega, ⟨(mm_new w t _ _).2.1, by rw [show alF t.al [] = t.al by unfold alF; simp; omega]; exact (mm_new w t _ _).1, (mm_new w t _ _).2.2.1, (mm_new w t _ _).2.2.2.1⟩, (mm_new w t _ _).2.2.2.2⟩)
  case rest =>
    obtain ⟨E, A, rfl, rfl, hEA, hE, hA, HI, HT⟩ := hcut
    obtain ⟨y0, y1, y2, y3, y4, y5, y6⟩ := (unveil HT).seven
    have hl0 := (unveil HT).lt
    go_wp2_with (go_at_call 43; refine (unveil HWI _).mono ?_; rintro e w' ⟨rfl, rfl⟩)
    have HB : Hid (Bk (wc.alloc (.cells #[.int .i64 t.sh, .int .i64 t.k, .int .i64 t.n, .slice t.op t.of.length t.oc, .slice t.fp t.fs.length t.fc, .bool t.pk, .int .i64 t.al] 25)) wc.heap.size 25 t.cs) := Bk.new wc _ t.cs
    have HI0 : Hid (MmI w E A t.al [] (wc.alloc (.cells #[.int .i64 t.sh, .int .i64 t.k, .int .i64 t.n, .slice t.op t.of.length t.oc, .slice t.fp t.fs.length t.fc, .bool t.pk, .int .i64 t.al] 25))) := ⟨(unveil HI).1.alloc _, (unveil HI).2.1.alloc _, (unveil HI).2.2.1.alloc _, (unveil HI).2.2.2.alloc (unveil HI).2.2.2.size _⟩
    have hz : (wc.alloc (.cells #[.int .i64 t.sh, .int .i64 t.k, .int .i64 t.n, .slice t.op t.of.length t.oc, .slice t.fp t.fs.length t.fc, .bool t.pk, .int .i64 t.al] 25)).heap.size = wc.heap.size + 1 := by simp
    have hlE := (unveil HI).1.lt
    have hlA := (unveil HI).2.1.lt
    have hlN : w.heap.size + 1 < wc.heap.size := (unveil HI).2.2.1.lt
    generalize wc.alloc (.cells #[.int .i64 t.sh, .int .i64 t.k, .int .i64 t.n, .slice t.op t.of.length t.oc, .slice t.fp t.fs.length t.fc, .bool t.pk, .int .i64 t.al] 25) = W0 at *
    have HBE : Hid (Below w.heap.size w W0) := (unveil HI0).2.2.2
    clear HI HT y0 y1 y2 y3 y4 y5 y6
    refine (wpIn_wide (n := 4)).1 ?_
    refine wpIn_rangeFunc_ownA (k := 0) rfl (by decide) (gf := 70) (lb := #[.pointer (some ⟨wc.heap.size, 0, none⟩)]) rfl trivial (enters_of Try.func70 (by kernel_rfl) rfl)
      (unveil HMS wc.heap.size w.heap.size W0 (by omega) (unveil HB) ((unveil HIN).below (unveil HBE))) KpM.trans (fun W lb o o' hlb hlo ho _ => KpM.put hlo ho (by omega) o') (fun W o hW => KpM.below ((Below.refl _ W).alloc (Nat.le_refl _) o) (by omega)) (Below.refl _ _) (fun _ => rfl)
      (MmI w E A t.al) (fun c _ W => False) (MmI.abides w E A t.al _ _ (by omega) (by omega) (by omega)) (fun c => false_abides _ _)
      (unveil HI0) (fun x => .cells (mbC x.1 x.2) 77)
      (fun x B => { tmps := #[.agg #[.int .i64 t.sh, .int .i64 t.k, .int .i64 t.n, .slice t.op t.of.length t.oc, .slice t.fp t.fs.length t.fc, .bool t.pk, .int .i64 t.al], .pointer (some ⟨w.heap.size, 0, none⟩), .pointer (some ⟨w.heap.size + 1, 0, none⟩), .pointer (some ⟨E, 0, none⟩), .pointer (some ⟨A, 0, none⟩), .pointer (some ⟨B, 0, none⟩), u6, u7, u8, .agg #[.int .i64 t.sh, .int .i64 t.k, .int .i64 t.n, .slice t.op t.of.length t.oc, .slice t.fp t.fs.length t.fc, .bool t.pk, .int .i64 t.al], .func (.func 70) #[] #[.pointer (some ⟨wc.heap.size, 0, none⟩)], .agg #[.string ⟨x.1.nm.toArray⟩, .int .i64 x.1.t.sh, .int .i64 x.1.t.k, .int .i64 x.1.t.n, .slice x.1.t.op x.1.t.of.length x.1.t.oc, .slice x.1.t.fp x.1.t.fs.length x.1.t.fc, .bool x.1.t.pk, .int .i64 x.1.t.al, .int .i64 x.1.bits, .int .i64 x.2.bit, .int .i64 x.2.bits, .int .i64 x.2.k, .int .i64 x.2.al], u12, u13, u14, u15, u16, u17, u18, u19, u20, u21, u22, u23, u24, u25, u26, u27, u28, u29, u30, u31, u32], defers := [] })
      ?assign ?body ?done ?stop
    case assign =>
      intro l' x W' K hK
      simp only [encM, mbV, mbC] at hK ⊢
      gi_wp2
      simpa using hK
    case body =>
      rintro l' pre x W1 B hB hxB hno ⟨o0, o1, o2, obe⟩ hpre
      have hx : Bk W1 B 77 (mbC x.1 x.2) := hxB
      have hmo := unveil HMO x (hpre.subset (by simp))
      obtain ⟨f, m⟩ := x
      obtain ⟨m1, m2, m3, m4⟩ := m
      obtain ⟨g1, g2, g3, g4, g5⟩ := hmo
      simp only [mbC] at *
      obtain ⟨_, _, _, _, _, _, _, _, _, q9, q10, q11, q12⟩ := hx.thirteen
      have k0 := o0.cell 0
      have k1 := o1.cell 0
      have f0 := o0.frozen 0
      have f1 := o1.frozen 0
      simp only [List.getElem?_toArray, List.getElem?_cons_zero] at k0 k1
      have hBB := hx.lt
      have hBE : B ≠ E := by omega
      have hBA : B ≠ A := by omega
      have hNE : w.heap.size + 1 ≠ E := by omega
      have hNA : w.heap.size + 1 ≠ A := by omega
      have HS := veil (fun (a b : Value) => (⟨(o0.set 0 a).other 0 b hEA, ((o1.other 0 a (Ne.symm hEA)).set 0 b), (o2.other 0 a hNE).other 0 b hNA, (obe.setCell (p := ⟨E, 0, none⟩) (by show w.heap.size ≤ E; omega) a).setCell (p := ⟨A, 0, none⟩) (by show w.heap.size ≤ A; omega) b⟩ : _ ∧ _ ∧ _ ∧ _))
      have HK := veil (fun (a b : Value) => (KpM.set (N0 := w.heap.size) (i := 0) o0 (by decide) (by decide) (by omega) a).trans (KpM.set (N0 := w.heap.size) (i := 0) (o1.other 0 a (Ne.symm hEA)) (by decide) (by decide) (by omega) b))
      clear o0 o1 o2 obe hx hxB hno hpre
      have HEF := veil (enF_snoc pre (f, ⟨m1, m2, m3, m4⟩))
      have HAF := veil (alF_snoc t.al pre (f, ⟨m1, m2, m3, m4⟩))
      simp only at HEF HAF
      generalize hen0 : enF pre = e0 at *
      generalize hal0 : alF t.al pre = a0 at *
      gi_wp2
      all_goals (
        refine ⟨((KeepsOthers.setCell _ _ _).from _).trans ((KeepsOthers.setCell _ _ _).from _), (KeepsO.setCell (.inl (by omega))).trans (KeepsO.setCell (.inl (by omega))), unveil HK _ _, ?_⟩
        unfold MmI
        rw [unveil HEF, unveil HAF]
        first
        | (rw [show max e0 (m1 + m2) = e0 by omega, show max a0 m4 = a0 by omega]; exact unveil HS _ _)
        | (rw [show max e0 (m1 + m2) = e0 by omega, show max a0 m4 = m4 by omega]; exact unveil HS _ _)
        | (rw [show max e0 (m1 + m2) = m1 + m2 by omega, show max a0 m4 = a0 by omega]; exact unveil HS _ _)
        | (rw [show max e0 (m1 + m2) = m1 + m2 by omega, show max a0 m4 = m4 by omega]; exact unveil HS _ _))
    case done =>
      rintro D' W' hD' ⟨c0, c1, c2, cbe⟩ hK
      obtain ⟨n0, n1⟩ := unveil HEN
      obtain ⟨n2, n3⟩ := unveil HAO
      have hR := unveil HR
      unfold memM at hR
      simp only [Prod.mk.injEq] at hR
      generalize enF (t.ml meas) = e0 at *
      generalize alF t.al (t.ml meas) = a0 at *
      obtain ⟨p1, p2, _⟩ := upM_le (n := e0) (m := 8) n0 (by omega)
      obtain ⟨p3, p4, _⟩ := upM_le (n := upM e0 8 / 8) (m := a0) (by omega) n2
      have HU1 := veil (fun W => up_any e0 8 W n0 (by omega) (by omega) (by omega))
      have HU2 := veil (fun W => up_any (upM e0 8 / 8) a0 W (by omega) (by omega) n2 (by omega))
      generalize upM (upM e0 8 / 8) a0 = U2 at *
      generalize upM e0 8 = U1 at *
      have HR2 := veil hR
      clear hR HR
      have k0 := c0.cell 0
      have k1 := c1.cell 0
      simp only [List.getElem?_toArray, List.getElem?_cons_zero] at k0 k1
      have HC2 := veil c2
      have HBB := veil cbe
      have HK := veil hK
      have hDl := (Array.getElem?_eq_some_iff.1 hK).1
      have hlW := c2.lt
      have hDN : D' ≠ w.heap.size + 1 := by omega
      clear c0 c1 c2 cbe hK
      go_upto_region 6 with fail
      refine wp_region_noPanic (wpIn_wide.1 (wpIn_region_mix (ro := none) (n := 0) (fun w' => w' = W'.drew)
        [(0, true), (3, true), (6, true), (1, false), (2, true), (4, false), (5, true), (7, true)]
        8 hmixW (by kernel_rfl) (by kernel_rfl) (by kernel_rfl) (by kernel_rfl) (by kernel_rfl) (by kernel_rfl) (fun _ _ _ _ h => h) rfl ?_))
      refine mix_pure _ rfl _ (.inl ⟨rfl, fun W hS => (by obtain rfl : W = W'.drew := hS; go_simp; rfl)⟩) (fun B hB => ?_); simp only [Act.put, List.setIfInBounds_toArray, List.set_cons_zero, List.set_cons_succ] at hB; subst hB
      refine mix_pure _ rfl _ (.inl ⟨rfl, fun W hS => (by obtain rfl : W = W'.drew := hS; go_simp; rfl)⟩) (fun B hB => ?_); simp only [Act.put, List.setIfInBounds_toArray, List.set_cons_zero, List.set_cons_succ] at hB; subst hB
      refine mix_pure _ rfl _ (.inl ⟨rfl, fun W hS => (by obtain rfl : W = W'.drew := hS; go_simp; rfl)⟩) (fun B hB => ?_); simp only [Act.put, List.setIfInBounds_toArray, List.set_cons_zero, List.set_cons_succ] at hB; subst hB
      refine mix_sole _ rfl (fun K hK => ?_)
      go_simp
      refine ⟨trivial, rfl, (callsIn_wide.2 (unveil HU1 _)).mono ?_⟩
      rintro e W1 ⟨rfl, hb⟩
      obtain rfl := hb.symm
      refine hK _ _ rfl ?_
      clear hK K hb
      refine mix_pure _ rfl (.int .i64 (U1 / 8)) (.inl ⟨rfl, fun W hS => (by go_simp; rw [Int.tdiv_eq_ediv_of_nonneg (by omega), IntKind.wrap_i64]; omega)⟩) (fun B hB => ?_); simp only [Act.put, List.setIfInBounds_toArray, List.set_cons_zero, List.set_cons_succ] at hB; subst hB
      refine mix_sole _ rfl (fun K hK => ?_)
      go_simp
      refine ⟨trivial, rfl, (callsIn_wide.2 (unveil HU2 _)).mono ?_⟩
      rintro e W1 ⟨rfl, hb⟩
      obtain rfl := hb.symm
      refine hK _ _ rfl ?_
      clear hK K hb
      refine mix_pure _ rfl (.int .i64 (min U2 65537)) (.inl ⟨rfl, fun W hS => (by go_simp; split <;> omega)⟩) (fun B hB => ?_); simp only [Act.put, List.setIfInBounds_toArray, List.set_cons_zero, List.set_cons_succ] at hB; subst hB
      refine mix_pure _ rfl _ (.inl ⟨rfl, fun W hS => (by obtain rfl : W = W'.drew := hS; go_simp; rfl)⟩) (fun B hB => ?_); simp only [Act.put, List.setIfInBounds_toArray, List.set_cons_zero, List.set_cons_succ] at hB; subst hB
      refine mix_nil ?_
      have HC3 : Hid (Bk W'.drew (w.heap.size + 1) 68 #[.int .i64 0, .int .i64 0]) := unveil HC2
      have HB3 : Hid (Below w.heap.size w W'.drew) := (unveil HBB).drew
      have HK3 : Hid (W'.drew.heap[D']? = some (.deferred (some []))) := unveil HK
      clear HC2 HBB HK k0 k1 hDl hlW
      generalize W'.drew = Wd at *
      have z0 := (unveil HC3).cell 0
      have z1 := (unveil HC3).cell 1
      simp only [List.getElem?_toArray, List.getElem?_cons_succ, List.getElem?_cons_zero] at z0 z1
      have y0 := (unveil HC3).frozen 0
      have y1 := (unveil HC3).frozen 1
      refine listIn_last rfl (fun K hK => ?_)
      go_simp
      refine hK _ _ ?_
      clear hK K
      go_wp2_with fail
      have hfin : Bk ((Wd.setCell ⟨w.heap.size + 1, 0, none⟩ (.int .i64 (min U2 65537))).setCell ⟨w.heap.size + 1, 1, none⟩ (.int .i64 a0)) (w.heap.size + 1) 68 #[.int .i64 (min U2 65537), .int .i64 a0] := ((unveil HC3).set 0 _).set 1 _
      have hbf : Below w.heap.size w ((Wd.setCell ⟨w.heap.size + 1, 0, none⟩ (.int .i64 (min U2 65537))).setCell ⟨w.heap.size + 1, 1, none⟩ (.int .i64 a0)) := ((unveil HB3).setCell (p := ⟨w.heap.size + 1, 0, none⟩) (by show w.heap.size ≤ w.heap.size + 1; omega) _).setCell (p := ⟨w.heap.size + 1, 1, none⟩) (by show w.heap.size ≤ w.heap.size + 1; omega) _
      have hkf : ((Wd.setCell ⟨w.heap.size + 1, 0, none⟩ (.int .i64 (min U2 65537))).setCell ⟨w.heap.size + 1, 1, none⟩ (.int .i64 a0)).heap[D']? = some (.deferred (some [])) := (Below.heap_setCell _ _ _ _ hDN).trans ((Below.heap_setCell _ _ _ _ hDN).trans (unveil HK3))
      generalize ((Wd.setCell ⟨w.heap.size + 1, 0, none⟩ (.int .i64 (min U2 65537))).setCell ⟨w.heap.size + 1, 1, none⟩ (.int .i64 a0)) = W6 at *
      refine ⟨by simp, .inl ⟨_, _, rfl, run_takeDeferred hkf, ?_⟩⟩
      refine ⟨_, res_e (f := Try.f82) rfl rfl ((World.putObj_heap_other (Ne.symm hDN)).trans hfin) rfl, ?_, hbf.grown (grownBy_putObj' W6 D' _) hbf.size (fun r e => by cases e; omega)⟩
      obtain ⟨q1, q2⟩ := unveil HR2
      rw [← q1, ← q2]
      rfl
    case stop => rintro D' c pre W' hD' _ hf hK; cases hf
end Go.Proofs.Ytgomlfaekfabpaa
