/-
  Package shape: Members.
-/
import Derived.Test.YtkiebejidpebdaaZ3
namespace Go.Proofs.Ytkiebejidpebdaa
open Go Go.RowKit Go.Shelf
attribute [local go_sem] Oper.semAt_some
set_option linter.unusedVariables false
set_option linter.unusedSimpArgs false

def spC (m : Mb) : List Value := [.int .i64 m.bit, .int .i64 m.bits, .int .i64 m.k]
def spCs (l : List Mb) : List Value := l.flatMap spC
theorem spCs_snoc (l : List Mb) (m : Mb) : spCs (l ++ [m]) = spCs l ++ spC m := by simp [spCs]
theorem infoSp : (Try.prog.info? 42).map (fun i => (i.zero, i.size, i.bytes)) = some (some (.agg #[.int .i64 0, .int .i64 0, .int .i64 0]), 3, 24) := by kernel_rfl
theorem sp_cells (W : World) (m : Mb) (ty : TypeId) : ∀ (j : Nat) (u : Value), (spC m)[j]? = some u → (W.alloc (.cells (spC m).toArray ty)).cell? ((⟨W.heap.size, 0, none⟩ : Addr).add j) = some u := by
  intro j u h
  have hadd : (⟨W.heap.size, 0, none⟩ : Addr).add j = ⟨W.heap.size, j, none⟩ := by unfold Addr.add; split <;> simp_all
  rw [hadd, Bk.cell (Bk.new W ty _)]
  simpa using h
theorem row_turnS {W : World} {base n size : Nat} {e : TypeId} {v : Value} {xs : List Value} (h : W.ownsRow base e size v n xs) : ∀ r, v.ownBlock = some r → base ≤ r ∧ ∃ cur, W.heap[r]? = some (.cells cur e (0, 0)) := by
  intro r hr
  rcases h.2 with ⟨rfl, _⟩ | ⟨g, cap, cur, rfl, hbg, hg, _⟩
  · simp [Value.ownBlock] at hr
  · obtain rfl : g = r := by simpa [Value.ownBlock] using hr
    exact ⟨hbg, cur, hg⟩
/-- Blocks of another type stay where a row turns. -/
theorem Bk.rowG {W W' : World} {base n size b : Nat} {e T : TypeId} {v : Value} {xs : List Value} {cs : Array Value} (h : Bk W b T cs) (hr : W.ownsRow base e size v n xs) (hg : W.grownBy W' v.ownBlock) (hT : T ≠ e) : Bk W' b T cs :=
  (hg.block b h.lt (fun e' => by
    obtain ⟨_, cur, hc⟩ := row_turnS hr b e'.symm
    unfold Bk at h
    rw [hc] at h
    simp at h
    exact hT h.2.symm)).trans h
theorem KpM.rowG {W W' : World} {base n size N0 : Nat} {e : TypeId} {v : Value} {xs : List Value} (hr : W.ownsRow base e size v n xs) (hg : W.grownBy W' v.ownBlock) (h1 : 77 ≠ e) (h2 : 25 ≠ e) (hN : N0 ≤ base) (hW : N0 ≤ W.heap.size) : KpM N0 W W' :=
  ⟨(Below.refl _ W).grown hg hW (fun r e' => Nat.le_trans hN (row_turnS hr r e').1), fun j cs h => h.rowG hr hg h1, fun j cs h => h.rowG hr hg h2⟩
theorem KeepsO.rowS {B base n size : Nat} {e : TypeId} {W W' : World} {v : Value} {xs : List Value} (h : W.ownsRow base e size v n xs) (hg : W.grownBy W' v.ownBlock) : KeepsO B 0 W W' :=
  KeepsO.grown hg (fun r e => by
    obtain ⟨h1, cur, hc⟩ := row_turnS h r e
    by_cases hB : r < B
    · exact .inl hB
    · exact .inr ⟨by omega, _, hc, rfl⟩)
theorem KeepsFrom.rowS {B base n size : Nat} {e : TypeId} {W W' : World} {v : Value} {xs : List Value} (h : W.ownsRow base e size v n xs) (hg : W.grownBy W' v.ownBlock) : KeepsFrom B W W' :=
  (KeepsOthers.of_grownBy hg (fun j o ej hj => by obtain ⟨_, cur, hc⟩ := row_turnS h j ej; rw [hc] at hj; cases hj; rfl)).from _
/-- A row of another type than a block's is not turned by a store there. -/
theorem ownsRow_setS {b i base n size : Nat} {e T : TypeId} {v : Value} {W : World} {xs : List Value} {cs : Array Value} (h : W.ownsRow base e size v n xs) (hb : Bk W b T cs) (hT : T ≠ e) (u : Value) : (W.setCell ⟨b, i, none⟩ u).ownsRow base e size v n xs := by
  refine ⟨h.1, ?_⟩
  rcases h.2 with hn | ⟨g, cap, cur, rfl, hbg, hg, hr⟩
  · exact .inl hn
  · refine .inr ⟨g, cap, cur, rfl, hbg, ?_, hr⟩
    refine (Below.heap_setCell W ⟨b, i, none⟩ u g (fun e' => ?_)).trans hg
    subst e'
    unfold Bk at hb
    rw [hg] at hb
    simp at hb
    exact hT hb.2.symm
theorem ownsRow_baseS {W : World} {base base' n size : Nat} {e : TypeId} {v : Value} {xs : List Value} (h : W.ownsRow base e size v n xs) (hb : base' ≤ base) : W.ownsRow base' e size v n xs := by
  refine ⟨h.1, ?_⟩
  rcases h.2 with hn | ⟨g, cap, cur, rfl, hbg, hr⟩
  · exact .inl hn
  · exact .inr ⟨g, cap, cur, rfl, Nat.le_trans hb hbg, hr⟩
theorem ownsRow_turnS {W W' : World} {base n size : Nat} {e : TypeId} {v : Value} {xs : List Value} {row : Option Nat} (h : W.ownsRow base e size v n xs) (hg : W.grownBy W' row) (hr : ∀ r, row = some r → ∀ cur, W.heap[r]? ≠ some (.cells cur e (0, 0))) : W'.ownsRow base e size v n xs := by
  refine ⟨h.1, ?_⟩
  rcases h.2 with hn | ⟨g, cap, cur, rfl, hbg, hgg, hrr⟩
  · exact .inl hn
  · exact .inr ⟨g, cap, cur, rfl, hbg, (hg.block g (Array.getElem?_eq_some_iff.1 hgg).1 (fun e' => hr g e'.symm cur hgg)).trans hgg, hrr⟩
theorem ownsRow_succS {W : World} {base n size : Nat} {e : TypeId} {v : Value} {xs : List Value} (h : W.ownsRow base e size v (n + 1) xs) : ∃ g cap, v = .slice (some ⟨g, 0, none⟩) (n + 1) cap := by
  rcases h.2 with ⟨_, h0⟩ | ⟨g, cap, cur, rfl, _⟩
  · omega
  · exact ⟨g, cap, rfl⟩
/-- What Members tells. -/
def memL (t : ShT) : List Mb × Int := if (chkM t).2 == 0 then (if t.sh == 4 || t.sh == 5 then ((t.ml (meaM 5)).map Prod.snd, 0) else ([], 100)) else ([], (chkM t).2)
theorem ml_len (meas : ShT → Int × Int) (pk st : Bool) : ∀ (l : List (FdOf ShT)) (en : Int), (mlM meas pk st en l).length = l.length
  | [], _ => rfl
  | f :: r, en => by rw [mlM, List.length_cons, List.length_cons, ml_len meas pk st r]
def MbP (w : World) (l : List Mb) (er : Int) (e : Ending) (w' : World) : Prop :=
  ∃ v, e = .returned (.tuple #[v, .int .i64 er]) ∧ w'.ownsRow w.heap.size 42 3 v l.length (spCs l) ∧ Below w.heap.size w w'
def MrI (w : World) (L : Nat) (pre : List (FdOf ShT × Mb)) (W : World) : Prop :=
  (∃ v, Bk W L 30 #[v] ∧ W.ownsRow w.heap.size 42 3 v pre.length (spCs (pre.map Prod.snd))) ∧ Below w.heap.size w W
theorem MrI.abides (w : World) (L B C : Nat) (h1 : L < B) (h2 : w.heap.size < B) : AbidesO B C 0 (MrI w L) := by
  refine ⟨fun pre X Y row hs hg hr => ?_, fun pre X hs => ?_⟩
  · obtain ⟨⟨v, a, b⟩, c⟩ := hs
    have hr' : ∀ r, row = some r → B ≤ r := fun r e => (hr r e).1
    refine ⟨⟨v, a.turn hg (fun r e => by have := hr' r e; omega), ownsRow_turnS b hg (fun r e cur hc => ?_)⟩, c.grown hg c.size (fun r e => by have := hr' r e; omega)⟩
    rcases (hr r e).2 with h | ⟨o, ho, hcs⟩
    · omega
    · rw [hc] at ho; cases ho; cases hcs
  · obtain ⟨⟨v, a, b⟩, c⟩ := hs
    exact ⟨⟨v, a, b⟩, c.drew⟩
theorem chk_ok {t : ShT} (h : ((chkM t).2 == 0) = true) : rigM 6 t = true := by
  unfold chkM at h
  split at h
  · assumption
  · simp at h
set_option maxRecDepth 100000 in
set_option maxHeartbeats 20000000 in
theorem Members_main (t : ShT) (w : World) (hin : t.In w.heap.size w) (hrg : rigM 6 t = true) (hs : (t.sh == 4 || t.sh == 5) = true)
    (HC : Hid (∀ o, Calls Try.prog 20 #[t.v] (w.alloc o) fun r w' => r = .returned (.int .i64 0) ∧ Below (w.alloc o).heap.size (w.alloc o) w')) :
    Calls Try.prog 21 #[t.v] w fun e w' => MbP w ((t.ml (meaM 5)).map Prod.snd) 0 e w' := by
  have HIN := veil hin
  have HX : Hid (∀ w1, Below (w.alloc (.cells t.cs 25)).heap.size (w.alloc (.cells t.cs 25)) w1 → TyB w1 w.heap.size t ∧ Below w.heap.size w w1) := fun w1 h => ⟨(TyB.new w t).below h, ((Below.refl _ w).alloc (Nat.le_refl _) _).trans (h.mono (by simp))⟩
  obtain ⟨hf, hp⟩ := rig_form hrg
  have hsh : t.sh = 4 ∨ t.sh = 5 := by simpa using hs
  have hfs := (form_struct hf (by simp; omega) (by simp; omega) (by simp; omega)).2.2.2.2.2
  have f1 := (ffs_all hfs).1
  have f3 := (ffs_all hfs).2.2.1
  have hok : ∀ f ∈ t.fs, FOk f (meaM 5 f.t) := fun f hfm => fok_of (mea_ok 5) (f3 f hfm) (hp _ (fs_part hfm))
  have HMS := veil (fun Bd N0 => members_stops 3 (by decide) Bd N0 t (meaM 5) f1 hok (fun f hfm W hW => measure_any 5 f.t W (hp _ (fs_part hfm)) hW))
  have HWI := veil (members_any t)
  have hs2 : ((t.sh != 4) = false) ∨ ((t.sh != 4) = true ∧ (t.sh != 5) = false) := by rcases hsh with h | h <;> simp [h]
  have hll : (t.ml (meaM 5)).length = t.fs.length := ml_len _ _ _ _ _
  have HLL := veil hll
  have HS2 := veil hs2
  clear hs2
  have HF1 := veil f1
  clear f1
  clear hin hrg hf hp hfs f3 hok hs hsh hll
  generalize t.ml (meaM 5) = ML at *
  unfold ShT.v ShT.cs at HC HX HWI ⊢
  refine (callsIn_wide (n := 4)).1 ?_
  refine callsIn_of_wp_marks Try.func21 rfl trivial ?_ rfl
  simp only [Try.ntmps21, List.size_toArray, List.length_cons, List.length_nil, Nat.reduceAdd, Nat.reduceSub, Array.replicate_succ, Array.replicate_zero, List.push_toArray, List.append_toArray, List.nil_append, List.cons_append]
  refine wpIn_wide.2 ?_
  go_upto_region 4 with (go_at_call 20; refine (unveil HC _).mono ?_; rintro r w1 ⟨rfl, hb1⟩; have XT := veil (unveil HX w1 hb1).1; have XB := veil (unveil HX w1 hb1).2; obtain ⟨y0, y1, y2, y3, y4, y5, y6⟩ := (unveil XT).seven; have hlw := (unveil XT).lt)
  go_cut [19] from 7 to 32 (fun c wx => c = .bool false ∧ wx = w1)
  case first =>
    rcases unveil HS2 with h4 | ⟨h4, h5⟩
    all_goals
      go_wp2_with fail
      go_meet
      case rel => exact ⟨rfl, rfl⟩
  case rest =>
  obtain ⟨rfl, rfl⟩ := hcut
  go_wp2_with (first
      | (at_make; obtain ⟨i0, hi, hz0, hz1, hz2'⟩ := info_parts infoSp; have f1 := unveil HF1; refine wpList_make_own _ rfl _ _ 30 rfl w.heap.size 42 i0 _ 3 Try.underlying30 hi hz0 hz1 .i64 .i64 _ t.fs.length rfl rfl rfl (by rw [hz2']; omega) (by unfold maxLen; omega) (unveil XB).size ?_; intro W2 hown2 hgrow2; clear f1 hi hz0 hz1 hz2' i0; have XT2 := veil ((unveil XT).below ((Below.refl _ _).grown hgrow2 (Nat.le_refl _) (fun r e => by cases e))); obtain ⟨u0, u1, u2, u3, u4, u5, u6⟩ := (unveil XT2).seven; have hlw2 := (unveil XT2).lt; have XB2 := veil ((unveil XB).trans ((((Below.refl _ _).grown hgrow2 (Nat.le_refl _) (fun r e => by cases e))).mono (unveil XB).size)); have HOW := veil hown2; clear hown2 hgrow2)
      | (go_at_call 43; refine (unveil HWI _).mono ?_; rintro e w' ⟨rfl, rfl⟩))
  have HB : Hid (Bk ((W2.alloc (.cells #[.slice (some ⟨wc.heap.size, 0, none⟩) 0 t.fs.length] 30)).alloc (.cells #[.int .i64 t.sh, .int .i64 t.k, .int .i64 t.n, .slice t.op t.of.length t.oc, .slice t.fp t.fs.length t.fc, .bool t.pk, .int .i64 t.al] 25)) (W2.heap.size + 1) 25 t.cs) := by
    have := Bk.new (W2.alloc (.cells #[.slice (some ⟨wc.heap.size, 0, none⟩) 0 t.fs.length] 30)) 25 t.cs
    rw [World.size_alloc] at this
    exact this
  have HI0 : Hid (MrI w W2.heap.size [] ((W2.alloc (.cells #[.slice (some ⟨wc.heap.size, 0, none⟩) 0 t.fs.length] 30)).alloc (.cells #[.int .i64 t.sh, .int .i64 t.k, .int .i64 t.n, .slice t.op t.of.length t.oc, .slice t.fp t.fs.length t.fc, .bool t.pk, .int .i64 t.al] 25))) :=
    ⟨⟨_, (Bk.new W2 _ _).alloc _, ((unveil HOW).alloc _).alloc _⟩, ((unveil XB2).alloc (unveil XB2).size _).alloc (by have := (unveil XB2).size; simp; omega) _⟩
  have hz : ((W2.alloc (.cells #[.slice (some ⟨wc.heap.size, 0, none⟩) 0 t.fs.length] 30)).alloc (.cells #[.int .i64 t.sh, .int .i64 t.k, .int .i64 t.n, .slice t.op t.of.length t.oc, .slice t.fp t.fs.length t.fc, .bool t.pk, .int .i64 t.al] 25)).heap.size = W2.heap.size + 2 := by simp
  have hlw3 : w.heap.size < W2.heap.size := hlw2
  generalize ((W2.alloc (.cells #[.slice (some ⟨wc.heap.size, 0, none⟩) 0 t.fs.length] 30)).alloc (.cells #[.int .i64 t.sh, .int .i64 t.k, .int .i64 t.n, .slice t.op t.of.length t.oc, .slice t.fp t.fs.length t.fc, .bool t.pk, .int .i64 t.al] 25)) = W0 at *
  have HBE : Hid (Below w.heap.size w W0) := (unveil HI0).2
  clear XT XB XT2 XB2 HOW y0 y1 y2 y3 y4 y5 y6 u0 u1 u2 u3 u4 u5 u6 hb1 HX HC
  refine (wpIn_wide (n := 4)).1 ?_
  refine wpIn_rangeFunc_ownA (k := 0) rfl (by decide) (gf := 70) (lb := #[.pointer (some ⟨W2.heap.size + 1, 0, none⟩)]) rfl trivial (enters_of Try.func70 (by kernel_rfl) rfl)
    (unveil HMS (W2.heap.size + 1) w.heap.size W0 (by omega) (unveil HB) ((unveil HIN).below (unveil HBE))) KpM.trans (fun W lb o o' hlb hlo ho _ => KpM.put hlo ho (by omega) o') (fun W o hW => KpM.below ((Below.refl _ W).alloc (Nat.le_refl _) o) (by omega)) (Below.refl _ _) (fun _ => rfl)
    (MrI w W2.heap.size) (fun c _ W => False) (MrI.abides w _ _ _ (by omega) (by omega)) (fun c => false_abides _ _)
    (unveil HI0) (fun x => .cells (mbC x.1 x.2) 77)
    (fun x B => { tmps := #[.agg #[.int .i64 t.sh, .int .i64 t.k, .int .i64 t.n, .slice t.op t.of.length t.oc, .slice t.fp t.fs.length t.fc, .bool t.pk, .int .i64 t.al], .pointer (some ⟨w.heap.size, 0, none⟩), .slice none 0 0, .int .i64 0, .int .i64 0, .pointer (some ⟨W2.heap.size, 0, none⟩), .pointer (some ⟨B, 0, none⟩), u7, u8, u9, u10, u11, u12, u13, u14, u15, u16, u17, u18, .bool false, .pointer (some ⟨w.heap.size, 4, none⟩), .slice t.fp t.fs.length t.fc, .int .i64 t.fs.length, .slice (some ⟨wc.heap.size, 0, none⟩) 0 t.fs.length, .agg #[.int .i64 t.sh, .int .i64 t.k, .int .i64 t.n, .slice t.op t.of.length t.oc, .slice t.fp t.fs.length t.fc, .bool t.pk, .int .i64 t.al], .func (.func 70) #[] #[.pointer (some ⟨W2.heap.size + 1, 0, none⟩)], .agg #[.string ⟨x.1.nm.toArray⟩, .int .i64 x.1.t.sh, .int .i64 x.1.t.k, .int .i64 x.1.t.n, .slice x.1.t.op x.1.t.of.length x.1.t.oc, .slice x.1.t.fp x.1.t.fs.length x.1.t.fc, .bool x.1.t.pk, .int .i64 x.1.t.al, .int .i64 x.1.bits, .int .i64 x.2.bit, .int .i64 x.2.bits, .int .i64 x.2.k, .int .i64 x.2.al], u27, u28, u29, u30, u31, u32], defers := [] })
    ?assign ?body ?done ?stop
  case assign =>
    intro l' x W' K hK
    simp only [encM, mbV, mbC] at hK ⊢
    gi_wp2
    simpa using hK
  case body =>
    rintro l' pre x W1 B hB hxB hno ⟨⟨v, c0, hrow⟩, obe⟩ hpre
    have hx : Bk W1 B 77 (mbC x.1 x.2) := hxB
    have hlen : pre.length + 1 ≤ 40 := by
      have h1 := hpre.length_le
      rw [unveil HLL, List.length_append] at h1
      have h2 := unveil HF1
      simp at h1
      omega
    obtain ⟨f, m⟩ := x
    obtain ⟨m1, m2, m3, m4⟩ := m
    simp only [mbC] at *
    obtain ⟨_, _, _, _, _, _, _, _, _, q9, q10, q11, q12⟩ := hx.thirteen
    have hvv : ∃ q cp, v = .slice q pre.length cp := by
      rcases hrow.2 with ⟨rfl, h0⟩ | ⟨g, cp, cur, rfl, _⟩
      · exact ⟨none, 0, by rw [h0]⟩
      · exact ⟨_, _, rfl⟩
    obtain ⟨q, cp, rfl⟩ := hvv
    have k0 := c0.cell 0
    simp only [List.getElem?_toArray, List.getElem?_cons_zero] at k0
    have hLl := c0.lt
    have hrowa : (W1.alloc (.cells (spC ⟨m1, m2, m3, m4⟩).toArray 42)).ownsRow w.heap.size 42 3 (.slice q pre.length cp) pre.length (spCs (pre.map Prod.snd)) := hrow.alloc _
    obtain ⟨i0, hi, hz0, hz1, hz2'⟩ := info_parts infoSp
    have hzW : w.heap.size ≤ W1.heap.size := obe.size
    have HC0 := veil c0
    have HOB := veil obe
    have HXX := veil hx
    clear c0 obe hx hxB hno hpre hrow
    gi_wp2_with (gi_at_builtin; refine wpListIn_append_own _ rfl _ _ 30 rfl w.heap.size 42 i0 _ 3 24 Try.underlying30 hi hz0 hz1 hz2' rfl (by decide) _ _ _ rfl hrowa ⟨W1.heap.size, 0, none⟩ 1 1 (spC ⟨m1, m2, m3, m4⟩) rfl rfl (sp_cells W1 ⟨m1, m2, m3, m4⟩ 42) ?c2 ?c3 ?c4 ?c5 ?_)
    case c2 => intro u hu; simp [spC] at hu; rcases hu with rfl | rfl | rfl <;> rfl
    case c3 => unfold maxLen; omega
    case c4 => omega
    case c5 => simp; omega
    intro v' W5 hown' hgrow _
    obtain ⟨g', cap', rfl⟩ := ownsRow_succS hown'
    have p0 : Bk W5 W2.heap.size 30 #[.slice q pre.length cp] := ((unveil HC0).alloc _).rowG hrowa hgrow (by decide)
    have pb : Below w.heap.size w W5 := ((unveil HOB).alloc hzW _).grown hgrow (by simp; omega) (fun r e => (row_turnS hrowa r e).1)
    have pko : KeepsO (W0.heap.size + 2) 0 W1 W5 := (KeepsO.alloc W1 _).trans (KeepsO.rowS hrowa hgrow)
    have pkf : KeepsFrom W0.heap.size W1 W5 := ((KeepsOthers.alloc W1 _).from _).trans (KeepsFrom.rowS hrowa hgrow)
    have pk : KpM w.heap.size W1 W5 := (KpM.below ((Below.refl _ W1).alloc (Nat.le_refl _) _) hzW).trans (KpM.rowG hrowa hgrow (by decide) (by decide) (Nat.le_refl _) (by simp; omega))
    have p0c := p0.cell 0
    simp only [List.getElem?_toArray, List.getElem?_cons_zero] at p0c
    have p0f := p0.frozen 0
    clear hi hz0 hz1 hz2' k0
    gi_wp2
    refine ⟨pkf.trans ((KeepsOthers.setCell _ _ _).from _), pko.trans (KeepsO.setCell (.inl (by omega))), pk.trans (KpM.set p0 (by decide) (by decide) (by omega) _), ⟨_, p0.set 0 _, ?_⟩, pb.setCell (p := ⟨W2.heap.size, 0, none⟩) (by show w.heap.size ≤ W2.heap.size; omega) _⟩
    have := ownsRow_setS (i := 0) hown' p0 (by decide) (.slice (some ⟨g', 0, none⟩) (pre.length + 1) cap')
    rw [List.map_append, List.map_cons, List.map_nil, spCs_snoc]
    simpa using this
  case done =>
    rintro D' W' hD' ⟨⟨v, c0, hrow⟩, cbe⟩ hK
    have d0 := c0.cell 0
    simp only [List.getElem?_toArray, List.getElem?_cons_zero] at d0
    have HR := veil hrow
    have HBB := veil cbe
    have HKK := veil hK
    have hKlt := (Array.getElem?_eq_some_iff.1 hK).1
    clear c0 hrow cbe hK
    go_wp2_with fail
    refine ⟨by simp, .inl ⟨_, _, rfl, run_takeDeferred (unveil HKK), ?_⟩⟩
    refine ⟨_, results_tmp2 rfl _ _ _, v, rfl, ?_, (unveil HBB).grown (grownBy_putObj' W' D' _) (unveil HBB).size (fun r e => by cases e; omega)⟩
    rw [List.length_map]
    exact ownsRow_turnS (unveil HR) (grownBy_putObj' W' D' _) (fun r e cur hc => by cases e; rw [unveil HKK] at hc; cases hc)
  case stop => rintro D' c pre W' hD' _ hf hK; cases hf
set_option maxRecDepth 100000 in
set_option maxHeartbeats 20000000 in
theorem Members_any (t : ShT) (w : World) (hin : t.In w.heap.size w) :
    Calls Try.prog 21 #[t.v] w fun e w' => MbP w (memL t).1 (memL t).2 e w' := by
  have HC : Hid (∀ o, Calls Try.prog 20 #[t.v] (w.alloc o) fun r w' => r = .returned (.int .i64 (chkM t).2) ∧ Below (w.alloc o).heap.size (w.alloc o) w') := fun o => Right_any t _ ((hin.below ((Below.refl _ w).alloc (Nat.le_refl _) o)).mono (by simp))
  have HIN := veil hin
  have hvt : t.v = .agg t.cs := rfl
  have HX : Hid (∀ w1, Below (w.alloc (.cells t.cs 25)).heap.size (w.alloc (.cells t.cs 25)) w1 → TyB w1 w.heap.size t ∧ Below w.heap.size w w1) := fun w1 h => ⟨(TyB.new w t).below h, ((Below.refl _ w).alloc (Nat.le_refl _) _).trans (h.mono (by simp))⟩
  clear hin
  unfold memL
  cases hc : (chkM t).2 == 0
  · simp only [Bool.false_eq_true, if_false]
    have hc' : ((chkM t).2 != 0) = true := by simp only [bne, hc]; rfl
    generalize (chkM t).2 = C at *
    unfold ShT.v ShT.cs at HC HX ⊢
    refine (callsIn_wide (n := 4)).1 ?_
    refine callsIn_of_wp_marks Try.func21 rfl trivial ?_ rfl
    simp only [Try.ntmps21, List.size_toArray, List.length_cons, List.length_nil, Nat.reduceAdd, Nat.reduceSub, Array.replicate_succ, Array.replicate_zero, List.push_toArray, List.append_toArray, List.nil_append, List.cons_append]
    refine wpIn_wide.2 ?_
    go_wp2_with (go_at_call 20; refine (unveil HC _).mono ?_; rintro r w1 ⟨rfl, hb1⟩)
    exact ⟨_, results_tmp2 rfl _ _ _, _, rfl, World.ownsRow_nil _ _ _ _, (unveil HX w1 hb1).2⟩
  · simp only [if_true]
    have h0 : (chkM t).2 = 0 := by simpa using hc
    have hrg := chk_ok hc
    rw [h0] at HC
    have HRG := veil hrg
    clear hrg hc h0
    cases hs : (t.sh == 4 || t.sh == 5)
    · simp only [Bool.false_eq_true, if_false]
      have hs4 : (t.sh != 4) = true := by cases h : t.sh == 4 <;> simp_all [bne]
      have hs5 : (t.sh != 5) = true := by cases h : t.sh == 5 <;> simp_all [bne]
      clear hs
      unfold ShT.v ShT.cs at HC HX ⊢
      refine (callsIn_wide (n := 4)).1 ?_
      refine callsIn_of_wp_marks Try.func21 rfl trivial ?_ rfl
      simp only [Try.ntmps21, List.size_toArray, List.length_cons, List.length_nil, Nat.reduceAdd, Nat.reduceSub, Array.replicate_succ, Array.replicate_zero, List.push_toArray, List.append_toArray, List.nil_append, List.cons_append]
      refine wpIn_wide.2 ?_
      go_wp2_with (go_at_call 20; refine (unveil HC _).mono ?_; rintro r w1 ⟨rfl, hb1⟩; have xb := (unveil HX w1 hb1).2; obtain ⟨y0, y1, y2, y3, y4, y5, y6⟩ := (unveil HX w1 hb1).1.seven)
      exact ⟨_, results_tmp2 rfl _ _ _, _, rfl, World.ownsRow_nil _ _ _ _, xb⟩
    · simp only [if_true]
      exact Members_main t w (unveil HIN) (unveil HRG) hs HC
end Go.Proofs.Ytkiebejidpebdaa
