/-
  Package shape: measureMembers.
  Package shape: measure, checked, Right, Size.
  Package shape: measure, checked, Right, Size: the walks.
  Package shape: Right, Size.
-/
import Derived.Test.YtkiebejidpebdaaZ2
namespace Go.Proofs.Ytkiebejidpebdaa
open Go Go.RowKit Go.Shelf
attribute [local go_sem] Oper.semAt_some
set_option linter.unusedVariables false
set_option linter.unusedSimpArgs false

def enF (l : List (FdOf ShT × Mb)) : Int := l.foldl (fun a x => max a (x.2.bit + x.2.bits)) 0
def alF (a0 : Int) (l : List (FdOf ShT × Mb)) : Int := l.foldl (fun a x => max a x.2.al) (max 1 a0)
theorem enF_snoc (l : List (FdOf ShT × Mb)) (x : FdOf ShT × Mb) : enF (l ++ [x]) = max (enF l) (x.2.bit + x.2.bits) := by simp [enF]
theorem alF_snoc (a0 : Int) (l : List (FdOf ShT × Mb)) (x : FdOf ShT × Mb) : alF a0 (l ++ [x]) = max (alF a0 l) x.2.al := by simp [alF]
def memM (t : ShT) (l : List (FdOf ShT × Mb)) : Int × Int := (min (upM (upM (enF l) 8 / 8) (alF t.al l)) 65537, alF t.al l)
/-- What members take is in bounds. -/
def MOk (m : Mb) : Prop := 0 ≤ m.bit ∧ 0 ≤ m.bits ∧ m.bit + m.bits ≤ 20992320 ∧ 1 ≤ m.al ∧ m.al ≤ 64
theorem ml_ok (meas : ShT → Int × Int) (pk st : Bool) : ∀ (l : List (FdOf ShT)) (en : Int) (c : Int), (∀ f ∈ l, FOk f (meas f.t)) → 0 ≤ en → en ≤ 524808 * c → c + l.length ≤ 40 → ∀ x ∈ mlM meas pk st en l, MOk x.2
  | [], _, _, _, _, _, _, x, hx => by cases hx
  | f :: r, en, c, hf, h0, h1, hc, x, hx => by
    simp only [List.length_cons] at hc
    obtain ⟨b1, b2, b3, b4, b5, b6⟩ := lay_bound (hf f (by simp)) h0 pk
    rw [mlM] at hx
    rcases List.mem_cons.1 hx with rfl | hx
    · exact ⟨by simp only; omega, b3, by simp only; omega, b5, b6⟩
    · refine ml_ok meas pk st r _ (c + 1) (fun g hg => hf g (by simp [hg])) ?_ ?_ (by omega) x hx
      · split <;> omega
      · split <;> omega
theorem enF_ok : ∀ (l : List (FdOf ShT × Mb)), (∀ x ∈ l, MOk x.2) → 0 ≤ enF l ∧ enF l ≤ 20992320 := by
  intro l
  unfold enF
  suffices ∀ a, 0 ≤ a → a ≤ 20992320 → (∀ x ∈ l, MOk x.2) → 0 ≤ l.foldl (fun a x => max a (x.2.bit + x.2.bits)) a ∧ l.foldl (fun a x => max a (x.2.bit + x.2.bits)) a ≤ 20992320 from this 0 (by omega) (by omega)
  induction l with
  | nil => intro a h1 h2 _; exact ⟨h1, h2⟩
  | cons x r ih =>
    intro a h1 h2 h
    obtain ⟨q1, q2, q3, _, _⟩ := h x (by simp)
    exact ih _ (by dsimp only; omega) (by dsimp only; omega) (fun y hy => h y (by simp [hy]))
theorem alF_ok (a0 : Int) (h0 : a0 ≤ 64) : ∀ (l : List (FdOf ShT × Mb)), (∀ x ∈ l, MOk x.2) → 1 ≤ alF a0 l ∧ alF a0 l ≤ 64 := by
  intro l
  unfold alF
  suffices ∀ a, 1 ≤ a → a ≤ 64 → (∀ x ∈ l, MOk x.2) → 1 ≤ l.foldl (fun a x => max a x.2.al) a ∧ l.foldl (fun a x => max a x.2.al) a ≤ 64 from this _ (by omega) (by omega)
  induction l with
  | nil => intro a h1 h2 _; exact ⟨h1, h2⟩
  | cons x r ih =>
    intro a h1 h2 h
    obtain ⟨_, _, _, q1, q2⟩ := h x (by simp)
    exact ih _ (by dsimp only; omega) (by dsimp only; omega) (fun y hy => h y (by simp [hy]))
def MmI (w : World) (E A : Nat) (a0 : Int) (pre : List (FdOf ShT × Mb)) (W : World) : Prop :=
  Bk W E 2 #[.int .i64 (enF pre)] ∧ Bk W A 2 #[.int .i64 (alF a0 pre)] ∧ Bk W (w.heap.size + 1) 68 #[.int .i64 0, .int .i64 0] ∧ Below w.heap.size w W
theorem Bk.turn {W W' : World} {row : Option Nat} {b : Nat} {T : TypeId} {cs : Array Value} (h : Bk W b T cs) (hg : W.grownBy W' row) (hr : ∀ r, row = some r → b < r) : Bk W' b T cs :=
  (hg.block b h.lt (fun e => by have := hr b e.symm; omega)).trans h
theorem MmI.abides (w : World) (E A : Nat) (a0 : Int) (B C : Nat) (h1 : E < B) (h2 : A < B) (h3 : w.heap.size + 1 < B) : AbidesO B C 0 (MmI w E A a0) := by
  refine ⟨fun pre X Y row hs hg hr => ?_, fun pre X hs => ?_⟩
  · obtain ⟨a, b, c, e⟩ := hs
    have hr' : ∀ r, row = some r → B ≤ r := fun r e => (hr r e).1
    exact ⟨a.turn hg (fun r e => by have := hr' r e; omega), b.turn hg (fun r e => by have := hr' r e; omega), c.turn hg (fun r e => by have := hr' r e; omega), e.grown hg e.size (fun r e => by have := hr' r e; omega)⟩
  · obtain ⟨a, b, c, e⟩ := hs
    exact ⟨a, b, c, e.drew⟩
theorem false_abides (B C : Nat) : AbidesO B C 0 (fun (_ : List (FdOf ShT × Mb)) (_ : World) => False) := ⟨fun _ _ _ _ h _ _ => h, fun _ _ h => h⟩
theorem mm_new (w : World) (t : ShT) (x y : Int) : let W := (((((w.alloc (.cells t.cs 25)).alloc (.cells #[.int .i64 0, .int .i64 0] 68)).alloc (.cells #[.int .i64 x] 2)).alloc (.cells #[.int .i64 y] 2)).drew);
    Bk W (w.heap.size + 1 + 1) 2 #[.int .i64 x] ∧ Bk W (w.heap.size + 1 + 1 + 1) 2 #[.int .i64 y] ∧ Bk W (w.heap.size + 1) 68 #[.int .i64 0, .int .i64 0] ∧ Below w.heap.size w W ∧ TyB W w.heap.size t := by
  intro W
  have h1 := Bk.new (w.alloc (.cells t.cs 25)) 68 #[.int .i64 0, .int .i64 0]
  have h2 := Bk.new ((w.alloc (.cells t.cs 25)).alloc (.cells #[.int .i64 0, .int .i64 0] 68)) 2 #[.int .i64 x]
  have h3 := Bk.new (((w.alloc (.cells t.cs 25)).alloc (.cells #[.int .i64 0, .int .i64 0] 68)).alloc (.cells #[.int .i64 x] 2)) 2 #[.int .i64 y]
  simp only [World.size_alloc] at h1 h2 h3
  exact ⟨h2.alloc _, h3, (h1.alloc _).alloc _, (((below_new2 w _ _).alloc (by simp; omega) _).alloc (by simp; omega) _).drew, ((((Bk.new w _ t.cs).alloc _).alloc _).alloc _ : Bk _ _ _ _)⟩
set_option maxRecDepth 100000 in
set_option maxHeartbeats 20000000 in
theorem measureMembers_any (t : ShT) (meas : ShT → Int × Int) (w : World) (hin : t.In w.heap.size w) (hfl : t.fs.length ≤ 40) (hal : t.al ≤ 64) (hok : ∀ f ∈ t.fs, FOk f (meas f.t))
    (hm : ∀ f ∈ t.fs, ∀ W, f.t.In W.heap.size W → Calls Try.prog 64 #[f.t.v] W fun r w' => r = .returned (extV (meas f.t)) ∧ Below W.heap.size W w') :
    Calls Try.prog 82 #[t.v] w fun e w' => e = .returned (extV (memM t (t.ml meas))) ∧ Below w.heap.size w w' := by
  have HIN := veil hin
  have HWI := veil (members_any t)
  have HMS := veil (fun Bd N0 => members_stops 3 (by decide) Bd N0 t meas hfl hok hm)
  have hmo := ml_ok meas t.pk (t.sh == 4) t.fs 0 0 hok (by omega) (by omega) (by omega)
  have HMO : Hid (∀ x ∈ t.ml meas, MOk x.2) := hmo
  have hen := enF_ok _ hmo
  have hao := alF_ok t.al hal _ hmo
  have HEN : Hid (0 ≤ enF (t.ml meas) ∧ enF (t.ml meas) ≤ 20992320) := hen
  have HAO : Hid (1 ≤ alF t.al (t.ml meas) ∧ alF t.al (t.ml meas) ≤ 64) := hao
  clear hin hok hm hmo hen hao
  obtain ⟨r1, r2, HR⟩ : ∃ r1 r2, Hid (memM t (t.ml meas) = (r1, r2)) := ⟨_, _, rfl⟩
  rw [unveil HR]
  unfold ShT.v ShT.cs at HWI ⊢
  refine (callsIn_wide (n := 4)).1 ?_
  refine callsIn_of_wp_marks Try.func82 rfl trivial ?_ rfl
  simp only [Try.ntmps82, List.size_toArray, List.length_cons, List.length_nil, Nat.reduceAdd, Nat.reduceSub, Array.replicate_succ, Array.replicate_zero, List.push_toArray, List.append_toArray, List.nil_append, List.cons_append]
  refine wpIn_wide.2 ?_
  go_wp2_with fail
  go_cut [3, 4] from 6 to 32 (fun s q wx => ∃ E A, s = .pointer (some ⟨E, 0, none⟩) ∧ q = .pointer (some ⟨A, 0, none⟩) ∧ E ≠ A ∧ w.heap.size + 2 ≤ E ∧ w.heap.size + 2 ≤ A ∧ Hid (MmI w E A t.al [] wx) ∧ Hid (TyB wx w.heap.size t))
  case first =>
    go_region
    all_goals (go_wp2_with fail)
    all_goals go_meet
    all_goals (
      case rel =>
        first
        | exact ⟨_, _, rfl, rfl, by omega, by omega, by omega, ⟨(mm_new w t _ _).1, by rw [show alF t.al [] = 1 by unfold alF; simp; omega]; exact (mm_new w t _ _).2.1, (mm_new w t _ _).2.2.1, (mm_new w t _ _).2.2.2.1⟩, (mm_new w t _ _).2.2.2.2⟩
        | exact ⟨_, _, rfl, rfl, by omega, by omega, by omega, ⟨(mm_new w t _ _).1, by rw [show alF t.al [] = t.al by unfold alF; simp; omega]; exact (mm_new w t _ _).2.1, (mm_new w t _ _).2.2.1, (mm_new w t _ _).2.2.2.1⟩, (mm_new w t _ _).2.2.2.2⟩
        | exact ⟨_, _, rfl, rfl, by omega, by omega, by omega, ⟨(mm_new w t _ _).2.1, by rw [show alF t.al [] = 1 by unfold alF; simp; omega]; exact (mm_new w t _ _).1, (mm_new w t _ _).2.2.1, (mm_new w t _ _).2.2.2.1⟩, (mm_new w t _ _).2.2.2.2⟩
        | exact ⟨_, _, rfl, rfl, by omega, by omega, by omega, ⟨(mm_new w t _ _).2.1, by rw [show alF t.al [] = t.al by unfold alF; simp; omega]; exact (mm_new w t _ _).1, (mm_new w t _ _).2.2.1, (mm_new w t _ _).2.2.2.1⟩, (mm_new w t _ _).2.2.2.2⟩)
  case rest =>
    obtain ⟨E, A, rfl, rfl, hEA, hE, hA, HI, HT⟩ := hcut
    obtain ⟨y0, y1, y2, y3, y4, y5, y6⟩ := (unveil HT).seven
    have hl0 := (unveil HT).lt
    go_wp2_with (go_at_call 43; refine (unveil HWI _).mono ?_; rintro e w' ⟨rfl, rfl⟩)
    have HB : Hid (Bk (wc.alloc (.cells #[.int .i64 t.sh, .int .i64 t.k, .int .i64 t.n, .slice t.op t.of.length t.oc, .slice t.fp t.fs.length t.fc, .bool t.pk, .int .i64 t.al] 25)) wc.heap.size 25 t.cs) := Bk.new wc _ t.cs
    have HI0 : Hid (MmI w E A t.al [] (wc.alloc (.cells #[.int .i64 t.sh, .int .i64 t.k, .int .i64 t.n, .slice t.op t.of.length t.oc, .slice t.fp t.fs.length t.fc, .bool t.pk, .int .i64 t.al] 25))) := ⟨(unveil HI).1.alloc _, (unveil HI).2.1.alloc _, (unveil HI).2.2.1.alloc _, (unveil HI).2.2.2.alloc (unveil HI).2.2.2.size _⟩
    have hz : (wc.alloc (.cells #[.int .i64 t.sh, .int .i64 t.k, .int .i64 t.n, .slice t.op t.of.length t.oc, .slice t.fp t.fs.length t.fc, .bool t.pk, .int .i64 t.al] 25)).heap.size = wc.heap.size + 1 := by simp
    have hlE := (unveil HI).1.lt
    have hlA := (unveil HI).2.1.lt
    have hlN : w.heap.size + 1 < wc.heap.size := (unveil HI).2.2.1.lt
    generalize wc.alloc (.cells #[.int .i64 t.sh, .int .i64 t.k, .int .i64 t.n, .slice t.op t.of.length t.oc, .slice t.fp t.fs.length t.fc, .bool t.pk, .int .i64 t.al] 25) = W0 at *
    have HBE : Hid (Below w.heap.size w W0) := (unveil HI0).2.2.2
    clear HI HT y0 y1 y2 y3 y4 y5 y6
    refine (wpIn_wide (n := 4)).1 ?_
    refine wpIn_rangeFunc_ownA (k := 0) rfl (by decide) (gf := 70) (lb := #[.pointer (some ⟨wc.heap.size, 0, none⟩)]) rfl trivial (enters_of Try.func70 (by kernel_rfl) rfl)
      (unveil HMS wc.heap.size w.heap.size W0 (by omega) (unveil HB) ((unveil HIN).below (unveil HBE))) KpM.trans (fun W lb o o' hlb hlo ho _ => KpM.put hlo ho (by omega) o') (fun W o hW => KpM.below ((Below.refl _ W).alloc (Nat.le_refl _) o) (by omega)) (Below.refl _ _) (fun _ => rfl)
      (MmI w E A t.al) (fun c _ W => False) (MmI.abides w E A t.al _ _ (by omega) (by omega) (by omega)) (fun c => false_abides _ _)
      (unveil HI0) (fun x => .cells (mbC x.1 x.2) 77)
      (fun x B => { tmps := #[.agg #[.int .i64 t.sh, .int .i64 t.k, .int .i64 t.n, .slice t.op t.of.length t.oc, .slice t.fp t.fs.length t.fc, .bool t.pk, .int .i64 t.al], .pointer (some ⟨w.heap.size, 0, none⟩), .pointer (some ⟨w.heap.size + 1, 0, none⟩), .pointer (some ⟨E, 0, none⟩), .pointer (some ⟨A, 0, none⟩), .pointer (some ⟨B, 0, none⟩), u6, u7, u8, .agg #[.int .i64 t.sh, .int .i64 t.k, .int .i64 t.n, .slice t.op t.of.length t.oc, .slice t.fp t.fs.length t.fc, .bool t.pk, .int .i64 t.al], .func (.func 70) #[] #[.pointer (some ⟨wc.heap.size, 0, none⟩)], .agg #[.string ⟨x.1.nm.toArray⟩, .int .i64 x.1.t.sh, .int .i64 x.1.t.k, .int .i64 x.1.t.n, .slice x.1.t.op x.1.t.of.length x.1.t.oc, .slice x.1.t.fp x.1.t.fs.length x.1.t.fc, .bool x.1.t.pk, .int .i64 x.1.t.al, .int .i64 x.1.bits, .int .i64 x.2.bit, .int .i64 x.2.bits, .int .i64 x.2.k, .int .i64 x.2.al], u12, u13, u14, u15, u16, u17, u18, u19, u20, u21, u22, u23, u24, u25, u26, u27, u28, u29, u30, u31, u32], defers := [] })
      ?assign ?body ?done ?stop
    case assign =>
      intro l' x W' K hK
      simp only [encM, mbV, mbC] at hK ⊢
      gi_wp2
      simpa using hK
    case body =>
      rintro l' pre x W1 B hB hxB hno ⟨o0, o1, o2, obe⟩ hpre
      have hx : Bk W1 B 77 (mbC x.1 x.2) := hxB
      have hmo := unveil HMO x (hpre.subset (by simp))
      obtain ⟨f, m⟩ := x
      obtain ⟨m1, m2, m3, m4⟩ := m
      obtain ⟨g1, g2, g3, g4, g5⟩ := hmo
      simp only [mbC] at *
      obtain ⟨_, _, _, _, _, _, _, _, _, q9, q10, q11, q12⟩ := hx.thirteen
      have k0 := o0.cell 0
      have k1 := o1.cell 0
      have f0 := o0.frozen 0
      have f1 := o1.frozen 0
      simp only [List.getElem?_toArray, List.getElem?_cons_zero] at k0 k1
      have hBB := hx.lt
      have hBE : B ≠ E := by omega
      have hBA : B ≠ A := by omega
      have hNE : w.heap.size + 1 ≠ E := by omega
      have hNA : w.heap.size + 1 ≠ A := by omega
      have HS := veil (fun (a b : Value) => (⟨(o0.set 0 a).other 0 b hEA, ((o1.other 0 a (Ne.symm hEA)).set 0 b), (o2.other 0 a hNE).other 0 b hNA, (obe.setCell (p := ⟨E, 0, none⟩) (by show w.heap.size ≤ E; omega) a).setCell (p := ⟨A, 0, none⟩) (by show w.heap.size ≤ A; omega) b⟩ : _ ∧ _ ∧ _ ∧ _))
      have HK := veil (fun (a b : Value) => (KpM.set (N0 := w.heap.size) (i := 0) o0 (by decide) (by decide) (by omega) a).trans (KpM.set (N0 := w.heap.size) (i := 0) (o1.other 0 a (Ne.symm hEA)) (by decide) (by decide) (by omega) b))
      clear o0 o1 o2 obe hx hxB hno hpre
      have HEF := veil (enF_snoc pre (f, ⟨m1, m2, m3, m4⟩))
      have HAF := veil (alF_snoc t.al pre (f, ⟨m1, m2, m3, m4⟩))
      simp only at HEF HAF
      generalize hen0 : enF pre = e0 at *
      generalize hal0 : alF t.al pre = a0 at *
      gi_wp2
      all_goals (
        refine ⟨((KeepsOthers.setCell _ _ _).from _).trans ((KeepsOthers.setCell _ _ _).from _), (KeepsO.setCell (.inl (by omega))).trans (KeepsO.setCell (.inl (by omega))), unveil HK _ _, ?_⟩
        unfold MmI
        rw [unveil HEF, unveil HAF]
        first
        | (rw [show max e0 (m1 + m2) = e0 by omega, show max a0 m4 = a0 by omega]; exact unveil HS _ _)
        | (rw [show max e0 (m1 + m2) = e0 by omega, show max a0 m4 = m4 by omega]; exact unveil HS _ _)
        | (rw [show max e0 (m1 + m2) = m1 + m2 by omega, show max a0 m4 = a0 by omega]; exact unveil HS _ _)
        | (rw [show max e0 (m1 + m2) = m1 + m2 by omega, show max a0 m4 = m4 by omega]; exact unveil HS _ _))
    case done =>
      rintro D' W' hD' ⟨c0, c1, c2, cbe⟩ hK
      obtain ⟨n0, n1⟩ := unveil HEN
      obtain ⟨n2, n3⟩ := unveil HAO
      have hR := unveil HR
      unfold memM at hR
      simp only [Prod.mk.injEq] at hR
      generalize enF (t.ml meas) = e0 at *
      generalize alF t.al (t.ml meas) = a0 at *
      obtain ⟨p1, p2, _⟩ := upM_le (n := e0) (m := 8) n0 (by omega)
      obtain ⟨p3, p4, _⟩ := upM_le (n := upM e0 8 / 8) (m := a0) (by omega) n2
      have HU1 := veil (fun W => up_any e0 8 W n0 (by omega) (by omega) (by omega))
      have HU2 := veil (fun W => up_any (upM e0 8 / 8) a0 W (by omega) (by omega) n2 (by omega))
      generalize upM (upM e0 8 / 8) a0 = U2 at *
      generalize upM e0 8 = U1 at *
      have HR2 := veil hR
      clear hR HR
      have k0 := c0.cell 0
      have k1 := c1.cell 0
      simp only [List.getElem?_toArray, List.getElem?_cons_zero] at k0 k1
      have HC2 := veil c2
      have HBB := veil cbe
      have HK := veil hK
      have hDl := (Array.getElem?_eq_some_iff.1 hK).1
      have hlW := c2.lt
      have hDN : D' ≠ w.heap.size + 1 := by omega
      clear c0 c1 c2 cbe hK
      go_upto_region 6 with fail
      refine wp_region_noPanic (wpIn_wide.1 (wpIn_region_mix (ro := none) (n := 0) (fun w' => w' = W'.drew)
        [(0, true), (3, true), (6, true), (1, false), (2, true), (4, false), (5, true), (7, true)]
        8 hmixW (by kernel_rfl) (by kernel_rfl) (by kernel_rfl) (by kernel_rfl) (by kernel_rfl) (by kernel_rfl) (fun _ _ _ _ h => h) rfl ?_))
      refine mix_pure _ rfl _ (.inl ⟨rfl, fun W hS => (by obtain rfl : W = W'.drew := hS; go_simp; rfl)⟩) (fun B hB => ?_); simp only [Act.put, List.setIfInBounds_toArray, List.set_cons_zero, List.set_cons_succ] at hB; subst hB
      refine mix_pure _ rfl _ (.inl ⟨rfl, fun W hS => (by obtain rfl : W = W'.drew := hS; go_simp; rfl)⟩) (fun B hB => ?_); simp only [Act.put, List.setIfInBounds_toArray, List.set_cons_zero, List.set_cons_succ] at hB; subst hB
      refine mix_pure _ rfl _ (.inl ⟨rfl, fun W hS => (by obtain rfl : W = W'.drew := hS; go_simp; rfl)⟩) (fun B hB => ?_); simp only [Act.put, List.setIfInBounds_toArray, List.set_cons_zero, List.set_cons_succ] at hB; subst hB
      refine mix_sole _ rfl (fun K hK => ?_)
      go_simp
      refine ⟨trivial, rfl, (callsIn_wide.2 (unveil HU1 _)).mono ?_⟩
      rintro e W1 ⟨rfl, hb⟩
      obtain rfl := hb.symm
      refine hK _ _ rfl ?_
      clear hK K hb
      refine mix_pure _ rfl (.int .i64 (U1 / 8)) (.inl ⟨rfl, fun W hS => (by go_simp; rw [Int.tdiv_eq_ediv_of_nonneg (by omega), IntKind.wrap_i64]; omega)⟩) (fun B hB => ?_); simp only [Act.put, List.setIfInBounds_toArray, List.set_cons_zero, List.set_cons_succ] at hB; subst hB
      refine mix_sole _ rfl (fun K hK => ?_)
      go_simp
      refine ⟨trivial, rfl, (callsIn_wide.2 (unveil HU2 _)).mono ?_⟩
      rintro e W1 ⟨rfl, hb⟩
      obtain rfl := hb.symm
      refine hK _ _ rfl ?_
      clear hK K hb
      refine mix_pure _ rfl (.int .i64 (min U2 65537)) (.inl ⟨rfl, fun W hS => (by go_simp; split <;> omega)⟩) (fun B hB => ?_); simp only [Act.put, List.setIfInBounds_toArray, List.set_cons_zero, List.set_cons_succ] at hB; subst hB
      refine mix_pure _ rfl _ (.inl ⟨rfl, fun W hS => (by obtain rfl : W = W'.drew := hS; go_simp; rfl)⟩) (fun B hB => ?_); simp only [Act.put, List.setIfInBounds_toArray, List.set_cons_zero, List.set_cons_succ] at hB; subst hB
      refine mix_nil ?_
      have HC3 : Hid (Bk W'.drew (w.heap.size + 1) 68 #[.int .i64 0, .int .i64 0]) := unveil HC2
      have HB3 : Hid (Below w.heap.size w W'.drew) := (unveil HBB).drew
      have HK3 : Hid (W'.drew.heap[D']? = some (.deferred (some []))) := unveil HK
      clear HC2 HBB HK k0 k1 hDl hlW
      generalize W'.drew = Wd at *
      have z0 := (unveil HC3).cell 0
      have z1 := (unveil HC3).cell 1
      simp only [List.getElem?_toArray, List.getElem?_cons_succ, List.getElem?_cons_zero] at z0 z1
      have y0 := (unveil HC3).frozen 0
      have y1 := (unveil HC3).frozen 1
      refine listIn_last rfl (fun K hK => ?_)
      go_simp
      refine hK _ _ ?_
      clear hK K
      go_wp2_with fail
      have hfin : Bk ((Wd.setCell ⟨w.heap.size + 1, 0, none⟩ (.int .i64 (min U2 65537))).setCell ⟨w.heap.size + 1, 1, none⟩ (.int .i64 a0)) (w.heap.size + 1) 68 #[.int .i64 (min U2 65537), .int .i64 a0] := ((unveil HC3).set 0 _).set 1 _
      have hbf : Below w.heap.size w ((Wd.setCell ⟨w.heap.size + 1, 0, none⟩ (.int .i64 (min U2 65537))).setCell ⟨w.heap.size + 1, 1, none⟩ (.int .i64 a0)) := ((unveil HB3).setCell (p := ⟨w.heap.size + 1, 0, none⟩) (by show w.heap.size ≤ w.heap.size + 1; omega) _).setCell (p := ⟨w.heap.size + 1, 1, none⟩) (by show w.heap.size ≤ w.heap.size + 1; omega) _
      have hkf : ((Wd.setCell ⟨w.heap.size + 1, 0, none⟩ (.int .i64 (min U2 65537))).setCell ⟨w.heap.size + 1, 1, none⟩ (.int .i64 a0)).heap[D']? = some (.deferred (some [])) := (Below.heap_setCell _ _ _ _ hDN).trans ((Below.heap_setCell _ _ _ _ hDN).trans (unveil HK3))
      generalize ((Wd.setCell ⟨w.heap.size + 1, 0, none⟩ (.int .i64 (min U2 65537))).setCell ⟨w.heap.size + 1, 1, none⟩ (.int .i64 a0)) = W6 at *
      refine ⟨by simp, .inl ⟨_, _, rfl, run_takeDeferred hkf, ?_⟩⟩
      refine ⟨_, res_e (f := Try.f82) rfl rfl ((World.putObj_heap_other (Ne.symm hDN)).trans hfin) rfl, ?_, hbf.grown (grownBy_putObj' W6 D' _) hbf.size (fun r e => by cases e; omega)⟩
      obtain ⟨q1, q2⟩ := unveil HR2
      rw [← q1, ← q2]
      rfl
    case stop => rintro D' c pre W' hD' _ hf hK; cases hf
end Go.Proofs.Ytkiebejidpebdaa
namespace Go.Proofs.Ytkiebejidpebdaa
open Go Go.RowKit Go.Shelf
set_option linter.unusedVariables false
set_option linter.unusedSimpArgs false

/-- What a right type takes. -/
def meaM : Nat → ShT → Int × Int
  | 0, _ => (0, 0)
  | d + 1, t => if t.sh == 1 then (sizM t.k, sizM t.k) else if t.sh == 2 then (8, 8)
      else if t.sh == 3 then (match t.of with | [] => (0, 0) | x :: _ => (min (min t.n 65537 * (meaM d x).1) 65537, (meaM d x).2))
      else memM t (t.ml (meaM d))
theorem rig_form {d : Nat} {t : ShT} (h : rigM (d + 1) t = true) : formM t = true ∧ ∀ x ∈ t.parts, rigM d x = true := by
  unfold rigM at h
  rw [Bool.and_eq_true] at h
  exact ⟨h.1, List.all_eq_true.1 h.2⟩
theorem form_struct {t : ShT} (h : formM t = true) (h1 : (t.sh == 1) = false) (h2 : (t.sh == 2) = false) (h3 : (t.sh == 3) = false) :
    (t.sh == 4 || t.sh == 5) = true ∧ t.n = 0 ∧ t.of.length = 0 ∧ t.k = 0 ∧ aliM t.al = true ∧ ffsM t.fs = true := by
  unfold formM formW at h
  rw [h1, h2, h3] at h
  simp only [Bool.false_eq_true, if_false] at h
  split at h
  · rename_i hs
    simp only [Bool.and_eq_true, beq_iff_eq] at h
    exact ⟨hs, h.1.1.1.1, h.1.1.1.2, h.1.1.2, h.1.2, h.2⟩
  · cases h
theorem form_int {t : ShT} (h : formM t = true) (h1 : (t.sh == 1) = true) : 0 < sizM t.k ∧ t.n = 0 ∧ t.of.length = 0 ∧ t.fs.length = 0 ∧ t.pk = false ∧ t.al = 0 := by
  unfold formM formW at h
  rw [h1] at h
  simp only [if_true, Bool.and_eq_true, beq_iff_eq, decide_eq_true_eq, Bool.not_eq_true'] at h
  exact ⟨h.2, h.1.1.1, h.1.1.2, h.1.2.1.1, h.1.2.1.2, h.1.2.2⟩
theorem form_arr {t : ShT} (h : formM t = true) (h3 : (t.sh == 3) = true) : t.k = 0 ∧ 1 ≤ t.n ∧ t.of.length = 1 ∧ t.fs.length = 0 ∧ t.pk = false ∧ t.al = 0 := by
  have hs : t.sh = 3 := by simpa using h3
  unfold formM formW at h
  rw [hs] at h
  simp only [Int.reduceBEq, Bool.false_eq_true, if_false, if_true, Bool.and_eq_true, beq_iff_eq, decide_eq_true_eq, Bool.not_eq_true'] at h
  exact ⟨h.1.1.2, h.1.2, h.2, h.1.1.1.1.1, h.1.1.1.1.2, h.1.1.1.2⟩
theorem ali_le {n : Int} (h : aliM n = true) : 0 ≤ n ∧ n ≤ 64 := by
  unfold aliM at h
  simp only [Bool.or_eq_true, beq_iff_eq] at h
  omega
def EOk (e : Int × Int) : Prop := 0 ≤ e.1 ∧ e.1 ≤ 65537 ∧ 1 ≤ e.2 ∧ e.2 ≤ 64
theorem ffs_all {l : List (FdOf ShT)} (h : ffsM l = true) : l.length ≤ 40 ∧ 1 ≤ l.length ∧ (∀ f ∈ l, ffM f = true) ∧ namM (l.map FdOf.nm) = true := by
  unfold ffsM at h
  simp only [Bool.and_eq_true, decide_eq_true_eq] at h
  exact ⟨h.1.1.2, h.1.1.1, List.all_eq_true.1 h.1.2, h.2⟩
theorem fok_of {d : Nat} (ih : ∀ x, rigM d x = true → EOk (meaM d x)) {f : FdOf ShT} (hf : ffM f = true) (hr : rigM d f.t = true) : FOk f (meaM d f.t) := by
  obtain ⟨e1, e2, e3, e4⟩ := ih f.t hr
  refine ⟨e1, e2, e3, e4, fun hb => ?_⟩
  unfold ffM at hf
  rw [if_neg (by omega)] at hf
  split at hf
  · cases hf
  · simp only [Bool.and_eq_true, decide_eq_true_eq] at hf
    cases d with
    | zero => cases hr
    | succ d =>
      have hz := (form_int (rig_form hr).1 hf.1).1
      have hc := siz_cases f.t.k
      rw [meaM, hf.1]
      simp only [if_true]
      omega
theorem fs_part {t : ShT} {f : FdOf ShT} (h : f ∈ t.fs) : f.t ∈ t.parts := List.mem_append_right _ (List.mem_map.2 ⟨f, h, rfl⟩)
theorem mea_ok : ∀ (d : Nat) (t : ShT), rigM d t = true → EOk (meaM d t)
  | 0, _, h => by cases h
  | d + 1, t, h => by
    obtain ⟨hf, hp⟩ := rig_form h
    rw [meaM]
    split
    · rename_i h1
      have := (form_int hf h1).1
      have hc := siz_cases t.k
      unfold EOk; simp only; omega
    · split
      · unfold EOk; simp
      · rename_i h1 h2
        split
        · rename_i h3
          obtain ⟨_, q1, q2, _⟩ := form_arr hf h3
          match hof : t.of, q2 with
          | [x], _ =>
            simp only
            obtain ⟨e1, e2, e3, e4⟩ := mea_ok d x (hp x (by unfold ShT.parts; rw [hof]; simp))
            refine ⟨?_, by simp only; omega, e3, e4⟩
            simp only
            have : 0 ≤ min t.n 65537 * (meaM d x).1 := Int.mul_nonneg (by omega) e1
            omega
        · rename_i h3
          obtain ⟨_, _, _, _, ha, hs⟩ := form_struct hf (by simpa using h1) (by simpa using h2) (by simpa using h3)
          obtain ⟨f1, f2, f3, _⟩ := ffs_all hs
          have hok : ∀ f ∈ t.fs, FOk f (meaM d f.t) := fun f hfm => fok_of (mea_ok d) (f3 f hfm) (hp _ (fs_part hfm))
          have hmo := ml_ok (meaM d) t.pk (t.sh == 4) t.fs 0 0 hok (by omega) (by omega) (by omega)
          have hen := enF_ok _ hmo
          have hao := alF_ok t.al (ali_le ha).2 _ hmo
          unfold memM ShT.ml EOk
          simp only
          obtain ⟨p1, p2, _⟩ := upM_le (n := enF (mlM (meaM d) t.pk (t.sh == 4) 0 t.fs)) (m := 8) hen.1 (by omega)
          obtain ⟨p3, p4, _⟩ := upM_le (n := upM (enF (mlM (meaM d) t.pk (t.sh == 4) 0 t.fs)) 8 / 8) (m := alF t.al (mlM (meaM d) t.pk (t.sh == 4) 0 t.fs)) (by omega) hao.1
          omega
set_option maxRecDepth 100000 in
set_option maxHeartbeats 8000000 in
theorem measure_int (t : ShT) (w : World) (h1 : (t.sh == 1) = true) (hk : 0 < sizM t.k) :
    Calls Try.prog 64 #[t.v] w fun e w' => e = .returned (extV (sizM t.k, sizM t.k)) ∧ Below w.heap.size w w' := by
  have HS := veil (Size_any t.k)
  have hc := siz_cases t.k
  unfold ShT.v ShT.cs
  generalize sizM t.k = z at *
  go_enter Try.func64, Try.ntmps64
  go_wp2_with (go_at_call 49; refine (unveil HS _).mono ?_; rintro e w' ⟨rfl, hw'⟩; obtain rfl := hw'.symm)
  refine bodyPost_ret (res_e (f := Try.f64) rfl rfl (by
    have := Bk.new (w.alloc (.cells #[.int .i64 t.sh, .int .i64 t.k, .int .i64 t.n, .slice t.op t.of.length t.oc, .slice t.fp t.fs.length t.fc, .bool t.pk, .int .i64 t.al] 25)) 68 #[.int .i64 z, .int .i64 z]
    rw [World.size_alloc] at this
    exact this) rfl) rfl ⟨rfl, below_new2 w _ _⟩
set_option maxRecDepth 100000 in
set_option maxHeartbeats 8000000 in
theorem measure_ptr (t : ShT) (w : World) (h1 : (t.sh == 1) = false) (h2 : (t.sh == 2) = true) :
    Calls Try.prog 64 #[t.v] w fun e w' => e = .returned (extV (8, 8)) ∧ Below w.heap.size w w' := by
  unfold ShT.v ShT.cs
  go_enter Try.func64, Try.ntmps64
  go_wp2_with fail
  refine bodyPost_ret (res_e (f := Try.f64) rfl rfl (by
    have := Bk.new (w.alloc (.cells #[.int .i64 t.sh, .int .i64 t.k, .int .i64 t.n, .slice t.op t.of.length t.oc, .slice t.fp t.fs.length t.fc, .bool t.pk, .int .i64 t.al] 25)) 68 #[.int .i64 8, .int .i64 8]
    rw [World.size_alloc] at this
    exact this) rfl) rfl ⟨rfl, below_new2 w _ _⟩
end Go.Proofs.Ytkiebejidpebdaa
namespace Go.Proofs.Ytkiebejidpebdaa
open Go Go.RowKit Go.Shelf
set_option linter.unusedVariables false
set_option linter.unusedSimpArgs false

/-- The blocks of measure: the type's, the answer's. -/
structure MeS (w W : World) (t : ShT) : Prop where
  t : TyB W w.heap.size t
  z : Bk W (w.heap.size + 1) 68 #[.int .i64 0, .int .i64 0]
  be : Below w.heap.size w W
theorem MeS.new (w : World) (t : ShT) : MeS w ((w.alloc (.cells t.cs 25)).alloc (.cells #[.int .i64 0, .int .i64 0] 68)) t := by
  have h1 := Bk.new (w.alloc (.cells t.cs 25)) 68 #[.int .i64 0, .int .i64 0]
  rw [World.size_alloc] at h1
  exact ⟨(TyB.new w t).alloc _, h1, below_new2 w _ _⟩
theorem MeS.call {w W W' : World} {t : ShT} (h : MeS w W t) (hb : Below W.heap.size W W') : MeS w W' t := ⟨h.t.below hb, h.z.below hb, h.be.trans (hb.mono h.be.size)⟩
theorem MeS.alloc {w W : World} {t : ShT} (h : MeS w W t) (o : Obj) : MeS w (W.alloc o) t := ⟨h.t.alloc o, h.z.alloc o, h.be.alloc h.be.size o⟩
theorem MeS.fin {w W : World} {t : ShT} (h : MeS w W t) (x y : Value) : Bk ((W.setCell ⟨w.heap.size + 1, 0, none⟩ x).setCell ⟨w.heap.size + 1, 1, none⟩ y) (w.heap.size + 1) 68 #[x, y] ∧ Below w.heap.size w ((W.setCell ⟨w.heap.size + 1, 0, none⟩ x).setCell ⟨w.heap.size + 1, 1, none⟩ y) :=
  ⟨(h.z.set 0 _).set 1 _, (h.be.setCell (p := ⟨w.heap.size + 1, 0, none⟩) (by show w.heap.size ≤ w.heap.size + 1; omega) _).setCell (p := ⟨w.heap.size + 1, 1, none⟩) (by show w.heap.size ≤ w.heap.size + 1; omega) _⟩
theorem ext_eq {v v' a : Int} (h : v = v') : Ending.returned (.agg #[.int .i64 v, .int .i64 a]) = Ending.returned (.agg #[.int .i64 v', .int .i64 a]) := by rw [h]
set_option maxRecDepth 100000 in
set_option maxHeartbeats 8000000 in
theorem measure_arr (t x : ShT) (e : Int × Int) (w : World) (hin : t.In w.heap.size w) (h1 : (t.sh == 1) = false) (h2 : (t.sh == 2) = false) (h3 : (t.sh == 3) = true) (hof : t.of = [x]) (hn : 1 ≤ t.n) (he : EOk e)
    (hm : ∀ W, x.In W.heap.size W → Calls Try.prog 64 #[x.v] W fun r w' => r = .returned (extV e) ∧ Below W.heap.size W w') :
    Calls Try.prog 64 #[t.v] w fun r w' => r = .returned (extV (min (min t.n 65537 * e.1) 65537, e.2)) ∧ Below w.heap.size w w' := by
  obtain ⟨z, a⟩ := e
  obtain ⟨e1, e2, e3, e4⟩ := he
  simp only at e1 e2 e3 e4 ⊢
  have HB : Hid (t.n ≤ 65537 → 0 ≤ t.n * z ∧ t.n * z ≤ 4295098369) := fun h => ⟨Int.mul_nonneg (by omega) e1, Int.mul_le_mul h e2 e1 (by omega)⟩
  have hS := MeS.new w t
  obtain ⟨g, o, hop, hg, hc, hxin⟩ := hin.of 0 (by rw [hof]; simp)
  have hx0 : t.of[0]'(by rw [hof]; simp) = x := by simp [hof]
  rw [hx0] at hc hxin
  have HX : Hid (∀ W, MeS w W t → Calls Try.prog 64 #[x.v] W fun r w' => r = .returned (extV (z, a)) ∧ Below W.heap.size W w') := fun W h => hm W ((hxin.below h.be).mono h.be.size)
  have hol : t.of.length = 1 := by rw [hof]; rfl
  simp only [Nat.zero_mul, Nat.add_zero] at hc
  have HC : Hid (∀ W, MeS w W t → ∀ j, j < 7 → W.cell? ⟨g, o + j, none⟩ = x.cs[j]?) := fun W h j hj => (h.be.cell (p := ⟨g, o + j, none⟩) hg).trans (hc j hj)
  have HS := veil hS
  clear hm hin hxin hc hS hof hx0
  unfold extV ShT.v ShT.cs at *
  rw [hol, hop] at HS ⊢
  go_enter Try.func64, Try.ntmps64
  go_upto_region 1 with fail
  generalize ((w.alloc (.cells #[.int .i64 t.sh, .int .i64 t.k, .int .i64 t.n, .slice (some ⟨g, o, none⟩) 1 t.oc, .slice t.fp t.fs.length t.fc, .bool t.pk, .int .i64 t.al] 25)).alloc (.cells #[.int .i64 0, .int .i64 0] 68)) = W0 at HS ⊢
  obtain ⟨y0, y1, y2, y3, y4, y5, y6⟩ := (unveil HS).t.seven
  rw [hop, hol] at y3
  have hcc := unveil HC W0 (unveil HS)
  have q0 := hcc 0 (by decide)
  have q1 := hcc 1 (by decide)
  have q2 := hcc 2 (by decide)
  have q3 := hcc 3 (by decide)
  have q4 := hcc 4 (by decide)
  have q5 := hcc 5 (by decide)
  have q6 := hcc 6 (by decide)
  simp only [List.getElem?_toArray, List.getElem?_cons_succ, List.getElem?_cons_zero, Nat.add_zero] at q0 q1 q2 q3 q4 q5 q6
  clear hcc HC
  go_wp2_with (go_at_call 64; refine (unveil HX _ (unveil HS)).mono ?_; rintro r W1 ⟨rfl, hb1⟩; have HS1 := veil ((unveil HS).call hb1); have p2 := ((unveil HS1).t.seven).2.2.1; have lt0 := (unveil HS1).t.lt; have lt1 := (unveil HS1).z.lt; have z0 := (unveil HS1).z.cell 0; have z1 := (unveil HS1).z.cell 1; have f0 := (unveil HS1).z.frozen 0; have f1 := (unveil HS1).z.frozen 1; simp only [List.getElem?_toArray, List.getElem?_cons_succ, List.getElem?_cons_zero] at z0 z1)
  all_goals (
    refine bodyPost_ret (res_e (f := Try.f64) rfl rfl (((unveil HS1).fin _ _).1.alloc _) rfl) rfl ⟨?_, ((unveil HS1).fin _ _).2.alloc (by have := ((unveil HS1).fin (.int .i64 0) (.int .i64 0)).2.size; exact ((unveil HS1).fin _ _).2.size) _⟩
    refine ext_eq ?_
    first
    | (have hmin : min t.n 65537 = 65537 := by omega
       have hw1 : wrap64 (65537 * z) = 65537 * z := by unfold wrap64; omega
       rw [hmin]
       generalize wrap64 (65537 * z) = Q at *
       omega)
    | (have hmin : min t.n 65537 = t.n := by omega
       obtain ⟨b1, b2⟩ := unveil HB (by omega)
       rw [hmin]
       clear HB
       generalize t.n * z = M at *
       have hw1 : wrap64 M = M := by unfold wrap64; omega
       generalize wrap64 M = Q at *
       omega))
set_option maxRecDepth 100000 in
set_option maxHeartbeats 8000000 in
theorem measure_mem (t : ShT) (e : Int × Int) (w : World) (hin : t.In w.heap.size w) (h1 : (t.sh == 1) = false) (h2 : (t.sh == 2) = false) (h3 : (t.sh == 3) = false)
    (hm : ∀ W, t.In W.heap.size W → Calls Try.prog 82 #[t.v] W fun r w' => r = .returned (extV e) ∧ Below W.heap.size W w') :
    Calls Try.prog 64 #[t.v] w fun r w' => r = .returned (extV e) ∧ Below w.heap.size w w' := by
  obtain ⟨z, a⟩ := e
  have hS := MeS.new w t
  have HX : Hid (∀ W, MeS w W t → Calls Try.prog 82 #[t.v] W fun r w' => r = .returned (extV (z, a)) ∧ Below W.heap.size W w') := fun W h => hm W ((hin.below h.be).mono h.be.size)
  have HS := veil hS
  clear hm hin hS
  unfold extV ShT.v ShT.cs at *
  go_enter Try.func64, Try.ntmps64
  go_upto_region 1 with fail
  generalize ((w.alloc (.cells #[.int .i64 t.sh, .int .i64 t.k, .int .i64 t.n, .slice t.op t.of.length t.oc, .slice t.fp t.fs.length t.fc, .bool t.pk, .int .i64 t.al] 25)).alloc (.cells #[.int .i64 0, .int .i64 0] 68)) = W0 at HS ⊢
  obtain ⟨y0, y1, y2, y3, y4, y5, y6⟩ := (unveil HS).t.seven
  go_wp2_with (go_at_call 82; refine (unveil HX _ (unveil HS)).mono ?_; rintro r W1 ⟨rfl, hb1⟩; have HS1 := veil ((unveil HS).call hb1); have z0 := (unveil HS1).z.cell 0; have z1 := (unveil HS1).z.cell 1; have f0 := (unveil HS1).z.frozen 0; have f1 := (unveil HS1).z.frozen 1; simp only [List.getElem?_toArray, List.getElem?_cons_succ, List.getElem?_cons_zero] at z0 z1)
  exact bodyPost_ret (res_e (f := Try.f64) rfl rfl ((unveil HS1).fin _ _).1 rfl) rfl ⟨rfl, ((unveil HS1).fin _ _).2⟩
/-- measure, of whatever type is right. -/
theorem measure_any : ∀ (d : Nat) (t : ShT) (w : World), rigM d t = true → t.In w.heap.size w →
    Calls Try.prog 64 #[t.v] w fun e w' => e = .returned (extV (meaM d t)) ∧ Below w.heap.size w w'
  | 0, _, _, h, _ => by cases h
  | d + 1, t, w, h, hin => by
    obtain ⟨hf, hp⟩ := rig_form h
    rw [meaM]
    cases h1 : t.sh == 1
    · cases h2 : t.sh == 2
      · cases h3 : t.sh == 3
        · simp only [Bool.false_eq_true, if_false]
          obtain ⟨_, _, _, _, ha, hs⟩ := form_struct hf h1 h2 h3
          obtain ⟨f1, f2, f3, _⟩ := ffs_all hs
          exact measure_mem t _ w hin h1 h2 h3 (fun W hW => measureMembers_any t (meaM d) W hW f1 (ali_le ha).2 (fun f hfm => fok_of (mea_ok d) (f3 f hfm) (hp _ (fs_part hfm))) (fun f hfm W' hW' => measure_any d f.t W' (hp _ (fs_part hfm)) hW'))
        · simp only [Bool.false_eq_true, if_false, if_true]
          obtain ⟨_, q1, q2, _⟩ := form_arr hf h3
          match hof : t.of, q2 with
          | [x], _ =>
            simp only
            have hx : rigM d x = true := hp x (by unfold ShT.parts; rw [hof]; simp)
            exact measure_arr t x (meaM d x) w hin h1 h2 h3 hof q1 (mea_ok d x hx) (fun W hW => measure_any d x W hx hW)
      · simp only [Bool.false_eq_true, if_false, if_true]
        exact measure_ptr t w h1 h2
    · simp only [if_true]
      exact measure_int t w h1 (form_int hf h1).1
/-- What checked tells: size, alignment, error. -/
def chkM (t : ShT) : (Int × Int) × Int := if rigM 6 t then (if 65536 < (meaM 6 t).1 then ((0, 0), 101) else (meaM 6 t, 0)) else ((0, 0), 100)
theorem res_et {f : Func} {k j : Nat} {tmps : Array Value} {w : World} {R : Nat} {cs : Array Value} (hr : f.results = #[.cell k 68, .tmp j]) (hp : tmps.getD k undef = .pointer (some ⟨R, 0, none⟩)) (hg : w.heap[R]? = some (.cells cs 68 (0, 0))) (hz : cs.size = 2) :
    (results f tmps).run Try.prog w = .ok (.tuple #[.agg cs, tmps.getD j undef]) w := by
  rw [results_cell_tmp hr, hp]
  have hi : (Try.prog.info? 68).map (·.size) = some cs.size := by rw [hz]; kernel_rfl
  simp [asAddr, run_loadVar_row w R 68 68 cs (0, 0) _ hg Try.underlying68 rfl hi]
set_option maxRecDepth 100000 in
set_option maxHeartbeats 8000000 in
theorem checked_any (t : ShT) (w : World) (hin : t.In w.heap.size w) :
    Calls Try.prog 40 #[t.v] w fun r w' => r = .returned (.tuple #[extV (chkM t).1, .int .i64 (chkM t).2]) ∧ Below w.heap.size w w' := by
  have hS := MeS.new w t
  have HR : Hid (∀ W, MeS w W t → Calls Try.prog 63 #[t.v, .int .i64 1] W fun r w' => r = .returned (.bool (rigM 6 t)) ∧ Below W.heap.size W w') := fun W h => right_any 6 (Nat.le_refl _) t W ((hin.below h.be).mono h.be.size)
  have HM : Hid (rigM 6 t = true → ∀ W, MeS w W t → Calls Try.prog 64 #[t.v] W fun r w' => r = .returned (extV (meaM 6 t)) ∧ Below W.heap.size W w') := fun hr W h => measure_any 6 t W hr ((hin.below h.be).mono h.be.size)
  have HS := veil hS
  clear hin hS
  unfold chkM
  generalize rigM 6 t = RG at *
  generalize meaM 6 t = M at *
  obtain ⟨z, a⟩ := M
  unfold extV ShT.v ShT.cs at *
  simp only
  cases RG
  · simp only [Bool.false_eq_true, if_false]
    go_enter Try.func40, Try.ntmps40
    go_upto_region 1 with fail
    generalize ((w.alloc (.cells #[.int .i64 t.sh, .int .i64 t.k, .int .i64 t.n, .slice t.op t.of.length t.oc, .slice t.fp t.fs.length t.fc, .bool t.pk, .int .i64 t.al] 25)).alloc (.cells #[.int .i64 0, .int .i64 0] 68)) = W0 at HS ⊢
    obtain ⟨y0, y1, y2, y3, y4, y5, y6⟩ := (unveil HS).t.seven
    go_wp2_with (go_at_call 63; refine (unveil HR _ (unveil HS)).mono ?_; rintro r W1 ⟨rfl, hb1⟩; have HS1 := veil ((unveil HS).call hb1); have z0 := (unveil HS1).z.cell 0; have z1 := (unveil HS1).z.cell 1; have f0 := (unveil HS1).z.frozen 0; have f1 := (unveil HS1).z.frozen 1; simp only [List.getElem?_toArray, List.getElem?_cons_succ, List.getElem?_cons_zero] at z0 z1)
    exact bodyPost_ret (res_et (f := Try.f40) rfl rfl ((unveil HS1).fin _ _).1 rfl) rfl ⟨rfl, ((unveil HS1).fin _ _).2⟩
  · have HM1 := veil (unveil HM rfl)
    clear HM
    simp only [if_true]
    by_cases hb : 65536 < z
    · simp only [if_pos hb]
      have hgt : z > 65536 := hb
      go_enter Try.func40, Try.ntmps40
      go_upto_region 1 with fail
      generalize ((w.alloc (.cells #[.int .i64 t.sh, .int .i64 t.k, .int .i64 t.n, .slice t.op t.of.length t.oc, .slice t.fp t.fs.length t.fc, .bool t.pk, .int .i64 t.al] 25)).alloc (.cells #[.int .i64 0, .int .i64 0] 68)) = W0 at HS ⊢
      obtain ⟨y0, y1, y2, y3, y4, y5, y6⟩ := (unveil HS).t.seven
      go_wp2_with (first
        | (go_at_call 63; refine (unveil HR _ (unveil HS)).mono ?_; rintro r W1 ⟨rfl, hb1⟩; have HS1 := veil ((unveil HS).call hb1); obtain ⟨x0, x1, x2, x3, x4, x5, x6⟩ := (unveil HS1).t.seven)
        | (go_at_call 64; refine (unveil HM1 _ (unveil HS1)).mono ?_; rintro r W2 ⟨rfl, hb2⟩; have HS2 := veil ((unveil HS1).call hb2); have lt1 := (unveil HS2).z.lt; have z0 := (unveil HS2).z.cell 0; have z1 := (unveil HS2).z.cell 1; have f0 := (unveil HS2).z.frozen 0; have f1 := (unveil HS2).z.frozen 1; simp only [List.getElem?_toArray, List.getElem?_cons_succ, List.getElem?_cons_zero] at z0 z1))
      exact bodyPost_ret (res_et (f := Try.f40) rfl rfl (((unveil HS2).fin _ _).1.alloc _) rfl) rfl ⟨rfl, ((unveil HS2).fin _ _).2.alloc ((unveil HS2).fin _ _).2.size _⟩
    · simp only [if_neg hb]
      have hgt : ¬ z > 65536 := hb
      go_enter Try.func40, Try.ntmps40
      go_upto_region 1 with fail
      generalize ((w.alloc (.cells #[.int .i64 t.sh, .int .i64 t.k, .int .i64 t.n, .slice t.op t.of.length t.oc, .slice t.fp t.fs.length t.fc, .bool t.pk, .int .i64 t.al] 25)).alloc (.cells #[.int .i64 0, .int .i64 0] 68)) = W0 at HS ⊢
      obtain ⟨y0, y1, y2, y3, y4, y5, y6⟩ := (unveil HS).t.seven
      go_wp2_with (first
        | (go_at_call 63; refine (unveil HR _ (unveil HS)).mono ?_; rintro r W1 ⟨rfl, hb1⟩; have HS1 := veil ((unveil HS).call hb1); obtain ⟨x0, x1, x2, x3, x4, x5, x6⟩ := (unveil HS1).t.seven)
        | (go_at_call 64; refine (unveil HM1 _ (unveil HS1)).mono ?_; rintro r W2 ⟨rfl, hb2⟩; have HS2 := veil ((unveil HS1).call hb2); have lt1 := (unveil HS2).z.lt; have z0 := (unveil HS2).z.cell 0; have z1 := (unveil HS2).z.cell 1; have f0 := (unveil HS2).z.frozen 0; have f1 := (unveil HS2).z.frozen 1; simp only [List.getElem?_toArray, List.getElem?_cons_succ, List.getElem?_cons_zero] at z0 z1))
      exact bodyPost_ret (res_et (f := Try.f40) rfl rfl (((unveil HS2).fin _ _).1.alloc _) rfl) rfl ⟨rfl, ((unveil HS2).fin _ _).2.alloc ((unveil HS2).fin _ _).2.size _⟩
end Go.Proofs.Ytkiebejidpebdaa
namespace Go.Proofs.Ytkiebejidpebdaa
open Go Go.RowKit Go.Shelf
set_option linter.unusedVariables false
set_option linter.unusedSimpArgs false

set_option maxRecDepth 100000 in
set_option maxHeartbeats 8000000 in
theorem Right_any (t : ShT) (w : World) (hin : t.In w.heap.size w) :
    Calls Try.prog 20 #[t.v] w fun r w' => r = .returned (.int .i64 (chkM t).2) ∧ Below w.heap.size w w' := by
  have HC : Hid (∀ o, Calls Try.prog 40 #[t.v] (w.alloc o) fun r w' => r = .returned (.tuple #[extV (chkM t).1, .int .i64 (chkM t).2]) ∧ Below (w.alloc o).heap.size (w.alloc o) w') := fun o => checked_any t _ ((hin.below ((Below.refl _ w).alloc (Nat.le_refl _) o)).mono (by simp))
  clear hin
  generalize chkM t = C at *
  obtain ⟨⟨z, a⟩, e⟩ := C
  unfold extV ShT.v ShT.cs at *
  simp only at *
  go_enter Try.func20, Try.ntmps20
  go_wp2_with (go_at_call 40; refine (unveil HC _).mono ?_; rintro r w1 ⟨rfl, hb1⟩)
  go_ret
  exact ⟨rfl, (((Below.refl _ w).alloc (Nat.le_refl _) _).trans (hb1.mono (by simp))).alloc (by have := hb1.size; simp at this; omega) _⟩
set_option maxRecDepth 100000 in
set_option maxHeartbeats 8000000 in
theorem Size10_any (t : ShT) (w : World) (hin : t.In w.heap.size w) :
    Calls Try.prog 18 #[t.v] w fun r w' => r = .returned (.tuple #[.int .i64 (chkM t).1.1, .int .i64 (chkM t).1.2, .int .i64 (chkM t).2]) ∧ Below w.heap.size w w' := by
  have HC : Hid (∀ o, Calls Try.prog 40 #[t.v] (w.alloc o) fun r w' => r = .returned (.tuple #[extV (chkM t).1, .int .i64 (chkM t).2]) ∧ Below (w.alloc o).heap.size (w.alloc o) w') := fun o => checked_any t _ ((hin.below ((Below.refl _ w).alloc (Nat.le_refl _) o)).mono (by simp))
  clear hin
  generalize chkM t = C at *
  obtain ⟨⟨z, a⟩, e⟩ := C
  unfold extV ShT.v ShT.cs at *
  simp only at *
  go_enter Try.func18, Try.ntmps18
  go_upto_region 2 with (go_at_call 40; refine (unveil HC _).mono ?_; rintro r w1 ⟨rfl, hb1⟩)
  go_quiet (fail)
  go_wp2
  first
  | go_ret
  | refine bodyPost_ret (results_tmp3 rfl _ _ _) rfl ?_
  exact ⟨rfl, below_drewS ((((Below.refl _ w).alloc (Nat.le_refl _) _).trans (hb1.mono (by simp))).alloc (by have := hb1.size; simp at this; omega) _) _⟩
end Go.Proofs.Ytkiebejidpebdaa
