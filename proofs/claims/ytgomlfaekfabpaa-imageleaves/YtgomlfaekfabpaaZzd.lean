/-
  Package shape: Members.
  Package image: nodes: begin, size, number.
  The document's own next.
  Names of members, on lists: what named tells is that one has a name, and that none has another one's.
  The statements' own: integer, shown.
  ShapeLies: stands.
-/
import Derived.Test.YtgomlfaekfabpaaZzc
import Derived.BigRegion
import Derived.Test.YtgomlfaekfabpaaZzb
namespace Go.Proofs.Ytgomlfaekfabpaa
open Go Go.RowKit Go.Shelf
attribute [local go_sem] Oper.semAt_some
set_option linter.unusedVariables false
set_option linter.unusedSimpArgs false

def spC (m : Mb) : List Value := [.int .i64 m.bit, .int .i64 m.bits, .int .i64 m.k]
def spCs (l : List Mb) : List Value := l.flatMap spC
theorem spCs_snoc (l : List Mb) (m : Mb) : spCs (l ++ [m]) = spCs l ++ spC m := by simp [spCs]
theorem infoSp : (Try.prog.info? 42).map (fun i => (i.zero, i.size, i.bytes)) = some (some (.agg #[.int .i64 0, .int .i64 0, .int .i64 0]), 3, 24) := by kernel_rfl
theorem sp_cells (W : World) (m : Mb) (ty : TypeId) : ∀ (j : Nat) (u : Value), (spC m)[j]? = some u → (W.alloc (.cells (spC m).toArray ty)).cell? ((⟨W.heap.size, 0, none⟩ : Addr).add j) = some u := by
  intro j u h
  have hadd : (⟨W.heap.size, 0, none⟩ : Addr).add j = ⟨W.heap.size, j, none⟩ := by unfold Addr.add; split <;> simp_all
  rw [hadd, Bk.cell (Bk.new W ty _)]
  simpa using h
theorem row_turnS {W : World} {base n size : Nat} {e : TypeId} {v : Value} {xs : List Value} (h : W.ownsRow base e size v n xs) : ∀ r, v.ownBlock = some r → base ≤ r ∧ ∃ cur, W.heap[r]? = some (.cells cur e (0, 0)) := by
  intro r hr
  rcases h.2 with ⟨rfl, _⟩ | ⟨g, cap, cur, rfl, hbg, hg, _⟩
  · simp [Value.ownBlock] at hr
  · obtain rfl : g = r := by simpa [Value.ownBlock] using hr
    exact ⟨hbg, cur, hg⟩
/-- Blocks of another type stay where a row turns. -/
theorem Bk.rowG {W W' : World} {base n size b : Nat} {e T : TypeId} {v : Value} {xs : List Value} {cs : Array Value} (h : Bk W b T cs) (hr : W.ownsRow base e size v n xs) (hg : W.grownBy W' v.ownBlock) (hT : T ≠ e) : Bk W' b T cs :=
  (hg.block b h.lt (fun e' => by
    obtain ⟨_, cur, hc⟩ := row_turnS hr b e'.symm
    unfold Bk at h
    rw [hc] at h
    simp at h
    exact hT h.2.symm)).trans h
theorem KpM.rowG {W W' : World} {base n size N0 : Nat} {e : TypeId} {v : Value} {xs : List Value} (hr : W.ownsRow base e size v n xs) (hg : W.grownBy W' v.ownBlock) (h1 : 77 ≠ e) (h2 : 25 ≠ e) (hN : N0 ≤ base) (hW : N0 ≤ W.heap.size) : KpM N0 W W' :=
  ⟨(Below.refl _ W).grown hg hW (fun r e' => Nat.le_trans hN (row_turnS hr r e').1), fun j cs h => h.rowG hr hg h1, fun j cs h => h.rowG hr hg h2⟩
theorem KeepsO.rowS {B base n size : Nat} {e : TypeId} {W W' : World} {v : Value} {xs : List Value} (h : W.ownsRow base e size v n xs) (hg : W.grownBy W' v.ownBlock) : KeepsO B 0 W W' :=
  KeepsO.grown hg (fun r e => by
    obtain ⟨h1, cur, hc⟩ := row_turnS h r e
    by_cases hB : r < B
    · exact .inl hB
    · exact .inr ⟨by omega, _, hc, rfl⟩)
theorem KeepsFrom.rowS {B base n size : Nat} {e : TypeId} {W W' : World} {v : Value} {xs : List Value} (h : W.ownsRow base e size v n xs) (hg : W.grownBy W' v.ownBlock) : KeepsFrom B W W' :=
  (KeepsOthers.of_grownBy hg (fun j o ej hj => by obtain ⟨_, cur, hc⟩ := row_turnS h j ej; rw [hc] at hj; cases hj; rfl)).from _
/-- A row of another type than a block's is not turned by a store there. -/
theorem ownsRow_setS {b i base n size : Nat} {e T : TypeId} {v : Value} {W : World} {xs : List Value} {cs : Array Value} (h : W.ownsRow base e size v n xs) (hb : Bk W b T cs) (hT : T ≠ e) (u : Value) : (W.setCell ⟨b, i, none⟩ u).ownsRow base e size v n xs := by
  refine ⟨h.1, ?_⟩
  rcases h.2 with hn | ⟨g, cap, cur, rfl, hbg, hg, hr⟩
  · exact .inl hn
  · refine .inr ⟨g, cap, cur, rfl, hbg, ?_, hr⟩
    refine (Below.heap_setCell W ⟨b, i, none⟩ u g (fun e' => ?_)).trans hg
    subst e'
    unfold Bk at hb
    rw [hg] at hb
    simp at hb
    exact hT hb.2.symm
theorem ownsRow_baseS {W : World} {base base' n size : Nat} {e : TypeId} {v : Value} {xs : List Value} (h : W.ownsRow base e size v n xs) (hb : base' ≤ base) : W.ownsRow base' e size v n xs := by
  refine ⟨h.1, ?_⟩
  rcases h.2 with hn | ⟨g, cap, cur, rfl, hbg, hr⟩
  · exact .inl hn
  · exact .inr ⟨g, cap, cur, rfl, Nat.le_trans hb hbg, hr⟩
theorem ownsRow_turnS {W W' : World} {base n size : Nat} {e : TypeId} {v : Value} {xs : List Value} {row : Option Nat} (h : W.ownsRow base e size v n xs) (hg : W.grownBy W' row) (hr : ∀ r, row = some r → ∀ cur, W.heap[r]? ≠ some (.cells cur e (0, 0))) : W'.ownsRow base e size v n xs := by
  refine ⟨h.1, ?_⟩
  rcases h.2 with hn | ⟨g, cap, cur, rfl, hbg, hgg, hrr⟩
  · exact .inl hn
  · exact .inr ⟨g, cap, cur, rfl, hbg, (hg.block g (Array.getElem?_eq_some_iff.1 hgg).1 (fun e' => hr g e'.symm cur hgg)).trans hgg, hrr⟩
theorem ownsRow_succS {W : World} {base n size : Nat} {e : TypeId} {v : Value} {xs : List Value} (h : W.ownsRow base e size v (n + 1) xs) : ∃ g cap, v = .slice (some ⟨g, 0, none⟩) (n + 1) cap := by
  rcases h.2 with ⟨_, h0⟩ | ⟨g, cap, cur, rfl, _⟩
  · omega
  · exact ⟨g, cap, rfl⟩
/-- What Members tells. -/
def memL (t : ShT) : List Mb × Int := if (chkM t).2 == 0 then (if t.sh == 4 || t.sh == 5 then ((t.ml (meaM 5)).map Prod.snd, 0) else ([], 100)) else ([], (chkM t).2)
theorem ml_len (meas : ShT → Int × Int) (pk st : Bool) : ∀ (l : List (FdOf ShT)) (en : Int), (mlM meas pk st en l).length = l.length
  | [], _ => rfl
  | f :: r, en => by rw [mlM, List.length_cons, List.length_cons, ml_len meas pk st r]
def MbP (w : World) (l : List Mb) (er : Int) (e : Ending) (w' : World) : Prop :=
  ∃ v, e = .returned (.tuple #[v, .int .i64 er]) ∧ w'.ownsRow w.heap.size 42 3 v l.length (spCs l) ∧ Below w.heap.size w w'
def MrI (w : World) (L : Nat) (pre : List (FdOf ShT × Mb)) (W : World) : Prop :=
  (∃ v, Bk W L 30 #[v] ∧ W.ownsRow w.heap.size 42 3 v pre.length (spCs (pre.map Prod.snd))) ∧ Below w.heap.size w W
theorem MrI.abides (w : World) (L B C : Nat) (h1 : L < B) (h2 : w.heap.size < B) : AbidesO B C 0 (MrI w L) := by
  refine ⟨fun pre X Y row hs hg hr => ?_, fun pre X hs => ?_⟩
  · obtain ⟨⟨v, a, b⟩, c⟩ := hs
    have hr' : ∀ r, row = some r → B ≤ r := fun r e => (hr r e).1
    refine ⟨⟨v, a.turn hg (fun r e => by have := hr' r e; omega), ownsRow_turnS b hg (fun r e cur hc => ?_)⟩, c.grown hg c.size (fun r e => by have := hr' r e; omega)⟩
    rcases (hr r e).2 with h | ⟨o, ho, hcs⟩
    · omega
    · rw [hc] at ho; cases ho; cases hcs
  · obtain ⟨⟨v, a, b⟩, c⟩ := hs
    exact ⟨⟨v, a, b⟩, c.drew⟩
theorem chk_ok {t : ShT} (h : ((chkM t).2 == 0) = true) : rigM 6 t = true := by
  unfold chkM at h
  split at h
  · assumption
  · simp at h
set_option maxRecDepth 100000 in
set_option maxHeartbeats 20000000 in
theorem Members_main (t : ShT) (w : World) (hin : t.In w.heap.size w) (hrg : rigM 6 t = true) (hs : (t.sh == 4 || t.sh == 5) = true)
    (HC : Hid (∀ o, Calls Try.prog 20 #[t.v] (w.alloc o) fun r w' => r = .returned (.int .i64 0) ∧ Below (w.alloc o).heap.size (w.alloc o) w')) :
    Calls Try.prog 21 #[t.v] w fun e w' => MbP w ((t.ml (meaM 5)).map Prod.snd) 0 e w' := by
  have HIN := veil hin
  have HX : Hid (∀ w1, Below (w.alloc (.cells t.cs 25)).heap.size (w.alloc (.cells t.cs 25)) w1 → TyB w1 w.heap.size t ∧ Below w.heap.size w w1) := fun w1 h => ⟨(TyB.new w t).below h, ((Below.refl _ w).alloc (Nat.le_refl _) _).trans (h.mono (by simp))⟩
  obtain ⟨hf, hp⟩ := rig_form hrg
  have hsh : t.sh = 4 ∨ t.sh = 5 := by simpa using hs
  have hfs := (form_struct hf (by simp; omega) (by simp; omega) (by simp; omega)).2.2.2.2.2
  have f1 := (ffs_all hfs).1
  have f3 := (ffs_all hfs).2.2.1
  have hok : ∀ f ∈ t.fs, FOk f (meaM 5 f.t) := fun f hfm => fok_of (mea_ok 5) (f3 f hfm) (hp _ (fs_part hfm))
  have HMS := veil (fun Bd N0 => members_stops 3 (by decide) Bd N0 t (meaM 5) f1 hok (fun f hfm W hW => measure_any 5 f.t W (hp _ (fs_part hfm)) hW))
  have HWI := veil (members_any t)
  have hs2 : ((t.sh != 4) = false) ∨ ((t.sh != 4) = true ∧ (t.sh != 5) = false) := by rcases hsh with h | h <;> simp [h]
  have hll : (t.ml (meaM 5)).length = t.fs.length := ml_len _ _ _ _ _
  have HLL := veil hll
  have HS2 := veil hs2
  clear hs2
  have HF1 := veil f1
  clear f1
  clear hin hrg hf hp hfs f3 hok hs hsh hll
  generalize t.ml (meaM 5) = ML at *
  unfold ShT.v ShT.cs at HC HX HWI ⊢
  refine (callsIn_wide (n := 4)).1 ?_
  refine callsIn_of_wp_marks Try.func21 rfl trivial ?_ rfl
  simp only [Try.ntmps21, List.size_toArray, List.length_cons, List.length_nil, Nat.reduceAdd, Nat.reduceSub, Array.replicate_succ, Array.replicate_zero, List.push_toArray, List.append_toArray, List.nil_append, List.cons_append]
  refine wpIn_wide.2 ?_
  go_upto_region 4 with (go_at_call 20; refine (unveil HC _).mono ?_; rintro r w1 ⟨rfl, hb1⟩; have XT := veil (unveil HX w1 hb1).1; have XB := veil (unveil HX w1 hb1).2; obtain ⟨y0, y1, y2, y3, y4, y5, y6⟩ := (unveil XT).seven; have hlw := (unveil XT).lt)
  go_cut [19] from 7 to 32 (fun c wx => c = .bool false ∧ wx = w1)
  case first =>
    rcases unveil HS2 with h4 | ⟨h4, h5⟩
    all_goals
      go_wp2_with fail
      go_meet
      case rel => exact ⟨rfl, rfl⟩
  case rest =>
  obtain ⟨rfl, rfl⟩ := hcut
  go_wp2_with (first
      | (at_make; obtain ⟨i0, hi, hz0, hz1, hz2'⟩ := info_parts infoSp; have f1 := unveil HF1; refine wpList_make_own _ rfl _ _ 30 rfl w.heap.size 42 i0 _ 3 Try.underlying30 hi hz0 hz1 .i64 .i64 _ t.fs.length rfl rfl rfl (by rw [hz2']; omega) (by unfold maxLen; omega) (unveil XB).size ?_; intro W2 hown2 hgrow2; clear f1 hi hz0 hz1 hz2' i0; have XT2 := veil ((unveil XT).below ((Below.refl _ _).grown hgrow2 (Nat.le_refl _) (fun r e => by cases e))); obtain ⟨u0, u1, u2, u3, u4, u5, u6⟩ := (unveil XT2).seven; have hlw2 := (unveil XT2).lt; have XB2 := veil ((unveil XB).trans ((((Below.refl _ _).grown hgrow2 (Nat.le_refl _) (fun r e => by cases e))).mono (unveil XB).size)); have HOW := veil hown2; clear hown2 hgrow2)
      | (go_at_call 43; refine (unveil HWI _).mono ?_; rintro e w' ⟨rfl, rfl⟩))
  have HB : Hid (Bk ((W2.alloc (.cells #[.slice (some ⟨wc.heap.size, 0, none⟩) 0 t.fs.length] 30)).alloc (.cells #[.int .i64 t.sh, .int .i64 t.k, .int .i64 t.n, .slice t.op t.of.length t.oc, .slice t.fp t.fs.length t.fc, .bool t.pk, .int .i64 t.al] 25)) (W2.heap.size + 1) 25 t.cs) := by
    have := Bk.new (W2.alloc (.cells #[.slice (some ⟨wc.heap.size, 0, none⟩) 0 t.fs.length] 30)) 25 t.cs
    rw [World.size_alloc] at this
    exact this
  have HI0 : Hid (MrI w W2.heap.size [] ((W2.alloc (.cells #[.slice (some ⟨wc.heap.size, 0, none⟩) 0 t.fs.length] 30)).alloc (.cells #[.int .i64 t.sh, .int .i64 t.k, .int .i64 t.n, .slice t.op t.of.length t.oc, .slice t.fp t.fs.length t.fc, .bool t.pk, .int .i64 t.al] 25))) :=
    ⟨⟨_, (Bk.new W2 _ _).alloc _, ((unveil HOW).alloc _).alloc _⟩, ((unveil XB2).alloc (unveil XB2).size _).alloc (by have := (unveil XB2).size; simp; omega) _⟩
  have hz : ((W2.alloc (.cells #[.slice (some ⟨wc.heap.size, 0, none⟩) 0 t.fs.length] 30)).alloc (.cells #[.int .i64 t.sh, .int .i64 t.k, .int .i64 t.n, .slice t.op t.of.length t.oc, .slice t.fp t.fs.length t.fc, .bool t.pk, .int .i64 t.al] 25)).heap.size = W2.heap.size + 2 := by simp
  have hlw3 : w.heap.size < W2.heap.size := hlw2
  generalize ((W2.alloc (.cells #[.slice (some ⟨wc.heap.size, 0, none⟩) 0 t.fs.length] 30)).alloc (.cells #[.int .i64 t.sh, .int .i64 t.k, .int .i64 t.n, .slice t.op t.of.length t.oc, .slice t.fp t.fs.length t.fc, .bool t.pk, .int .i64 t.al] 25)) = W0 at *
  have HBE : Hid (Below w.heap.size w W0) := (unveil HI0).2
  clear XT XB XT2 XB2 HOW y0 y1 y2 y3 y4 y5 y6 u0 u1 u2 u3 u4 u5 u6 hb1 HX HC
  refine (wpIn_wide (n := 4)).1 ?_
  refine wpIn_rangeFunc_ownA (k := 0) rfl (by decide) (gf := 70) (lb := #[.pointer (some ⟨W2.heap.size + 1, 0, none⟩)]) rfl trivial (enters_of Try.func70 (by kernel_rfl) rfl)
    (unveil HMS (W2.heap.size + 1) w.heap.size W0 (by omega) (unveil HB) ((unveil HIN).below (unveil HBE))) KpM.trans (fun W lb o o' hlb hlo ho _ => KpM.put hlo ho (by omega) o') (fun W o hW => KpM.below ((Below.refl _ W).alloc (Nat.le_refl _) o) (by omega)) (Below.refl _ _) (fun _ => rfl)
    (MrI w W2.heap.size) (fun c _ W => False) (MrI.abides w _ _ _ (by omega) (by omega)) (fun c => false_abides _ _)
    (unveil HI0) (fun x => .cells (mbC x.1 x.2) 77)
    (fun x B => { tmps := #[.agg #[.int .i64 t.sh, .int .i64 t.k, .int .i64 t.n, .slice t.op t.of.length t.oc, .slice t.fp t.fs.length t.fc, .bool t.pk, .int .i64 t.al], .pointer (some ⟨w.heap.size, 0, none⟩), .slice none 0 0, .int .i64 0, .int .i64 0, .pointer (some ⟨W2.heap.size, 0, none⟩), .pointer (some ⟨B, 0, none⟩), u7, u8, u9, u10, u11, u12, u13, u14, u15, u16, u17, u18, .bool false, .pointer (some ⟨w.heap.size, 4, none⟩), .slice t.fp t.fs.length t.fc, .int .i64 t.fs.length, .slice (some ⟨wc.heap.size, 0, none⟩) 0 t.fs.length, .agg #[.int .i64 t.sh, .int .i64 t.k, .int .i64 t.n, .slice t.op t.of.length t.oc, .slice t.fp t.fs.length t.fc, .bool t.pk, .int .i64 t.al], .func (.func 70) #[] #[.pointer (some ⟨W2.heap.size + 1, 0, none⟩)], .agg #[.string ⟨x.1.nm.toArray⟩, .int .i64 x.1.t.sh, .int .i64 x.1.t.k, .int .i64 x.1.t.n, .slice x.1.t.op x.1.t.of.length x.1.t.oc, .slice x.1.t.fp x.1.t.fs.length x.1.t.fc, .bool x.1.t.pk, .int .i64 x.1.t.al, .int .i64 x.1.bits, .int .i64 x.2.bit, .int .i64 x.2.bits, .int .i64 x.2.k, .int .i64 x.2.al], u27, u28, u29, u30, u31, u32], defers := [] })
    ?assign ?body ?done ?stop
  case assign =>
    intro l' x W' K hK
    simp only [encM, mbV, mbC] at hK ⊢
    gi_wp2
    simpa using hK
  case body =>
    rintro l' pre x W1 B hB hxB hno ⟨⟨v, c0, hrow⟩, obe⟩ hpre
    have hx : Bk W1 B 77 (mbC x.1 x.2) := hxB
    have hlen : pre.length + 1 ≤ 40 := by
      have h1 := hpre.length_le
      rw [unveil HLL, List.length_append] at h1
      have h2 := unveil HF1
      simp at h1
      omega
    obtain ⟨f, m⟩ := x
    obtain ⟨m1, m2, m3, m4⟩ := m
    simp only [mbC] at *
    obtain ⟨_, _, _, _, _, _, _, _, _, q9, q10, q11, q12⟩ := hx.thirteen
    have hvv : ∃ q cp, v = .slice q pre.length cp := by
      rcases hrow.2 with ⟨rfl, h0⟩ | ⟨g, cp, cur, rfl, _⟩
      · exact ⟨none, 0, by rw [h0]⟩
      · exact ⟨_, _, rfl⟩
    obtain ⟨q, cp, rfl⟩ := hvv
    have k0 := c0.cell 0
    simp only [List.getElem?_toArray, List.getElem?_cons_zero] at k0
    have hLl := c0.lt
    have hrowa : (W1.alloc (.cells (spC ⟨m1, m2, m3, m4⟩).toArray 42)).ownsRow w.heap.size 42 3 (.slice q pre.length cp) pre.length (spCs (pre.map Prod.snd)) := hrow.alloc _
    obtain ⟨i0, hi, hz0, hz1, hz2'⟩ := info_parts infoSp
    have hzW : w.heap.size ≤ W1.heap.size := obe.size
    have HC0 := veil c0
    have HOB := veil obe
    have HXX := veil hx
    clear c0 obe hx hxB hno hpre hrow
    gi_wp2_with (gi_at_builtin; refine wpListIn_append_own _ rfl _ _ 30 rfl w.heap.size 42 i0 _ 3 24 Try.underlying30 hi hz0 hz1 hz2' rfl (by decide) _ _ _ rfl hrowa ⟨W1.heap.size, 0, none⟩ 1 1 (spC ⟨m1, m2, m3, m4⟩) rfl rfl (sp_cells W1 ⟨m1, m2, m3, m4⟩ 42) ?c2 ?c3 ?c4 ?c5 ?_)
    case c2 => intro u hu; simp [spC] at hu; rcases hu with rfl | rfl | rfl <;> rfl
    case c3 => unfold maxLen; omega
    case c4 => omega
    case c5 => simp; omega
    intro v' W5 hown' hgrow _
    obtain ⟨g', cap', rfl⟩ := ownsRow_succS hown'
    have p0 : Bk W5 W2.heap.size 30 #[.slice q pre.length cp] := ((unveil HC0).alloc _).rowG hrowa hgrow (by decide)
    have pb : Below w.heap.size w W5 := ((unveil HOB).alloc hzW _).grown hgrow (by simp; omega) (fun r e => (row_turnS hrowa r e).1)
    have pko : KeepsO (W0.heap.size + 2) 0 W1 W5 := (KeepsO.alloc W1 _).trans (KeepsO.rowS hrowa hgrow)
    have pkf : KeepsFrom W0.heap.size W1 W5 := ((KeepsOthers.alloc W1 _).from _).trans (KeepsFrom.rowS hrowa hgrow)
    have pk : KpM w.heap.size W1 W5 := (KpM.below ((Below.refl _ W1).alloc (Nat.le_refl _) _) hzW).trans (KpM.rowG hrowa hgrow (by decide) (by decide) (Nat.le_refl _) (by simp; omega))
    have p0c := p0.cell 0
    simp only [List.getElem?_toArray, List.getElem?_cons_zero] at p0c
    have p0f := p0.frozen 0
    clear hi hz0 hz1 hz2' k0
    gi_wp2
    refine ⟨pkf.trans ((KeepsOthers.setCell _ _ _).from _), pko.trans (KeepsO.setCell (.inl (by omega))), pk.trans (KpM.set p0 (by decide) (by decide) (by omega) _), ⟨_, p0.set 0 _, ?_⟩, pb.setCell (p := ⟨W2.heap.size, 0, none⟩) (by show w.heap.size ≤ W2.heap.size; omega) _⟩
    have := ownsRow_setS (i := 0) hown' p0 (by decide) (.slice (some ⟨g', 0, none⟩) (pre.length + 1) cap')
    rw [List.map_append, List.map_cons, List.map_nil, spCs_snoc]
    simpa using this
  case done =>
    rintro D' W' hD' ⟨⟨v, c0, hrow⟩, cbe⟩ hK
    have d0 := c0.cell 0
    simp only [List.getElem?_toArray, List.getElem?_cons_zero] at d0
    have HR := veil hrow
    have HBB := veil cbe
    have HKK := veil hK
    have hKlt := (Array.getElem?_eq_some_iff.1 hK).1
    clear c0 hrow cbe hK
    go_wp2_with fail
    refine ⟨by simp, .inl ⟨_, _, rfl, run_takeDeferred (unveil HKK), ?_⟩⟩
    refine ⟨_, results_tmp2 rfl _ _ _, v, rfl, ?_, (unveil HBB).grown (grownBy_putObj' W' D' _) (unveil HBB).size (fun r e => by cases e; omega)⟩
    rw [List.length_map]
    exact ownsRow_turnS (unveil HR) (grownBy_putObj' W' D' _) (fun r e cur hc => by cases e; rw [unveil HKK] at hc; cases hc)
  case stop => rintro D' c pre W' hD' _ hf hK; cases hf
set_option maxRecDepth 100000 in
set_option maxHeartbeats 20000000 in
theorem Members_any (t : ShT) (w : World) (hin : t.In w.heap.size w) :
    Calls Try.prog 21 #[t.v] w fun e w' => MbP w (memL t).1 (memL t).2 e w' := by
  have HC : Hid (∀ o, Calls Try.prog 20 #[t.v] (w.alloc o) fun r w' => r = .returned (.int .i64 (chkM t).2) ∧ Below (w.alloc o).heap.size (w.alloc o) w') := fun o => Right_any t _ ((hin.below ((Below.refl _ w).alloc (Nat.le_refl _) o)).mono (by simp))
  have HIN := veil hin
  have hvt : t.v = .agg t.cs := rfl
  have HX : Hid (∀ w1, Below (w.alloc (.cells t.cs 25)).heap.size (w.alloc (.cells t.cs 25)) w1 → TyB w1 w.heap.size t ∧ Below w.heap.size w w1) := fun w1 h => ⟨(TyB.new w t).below h, ((Below.refl _ w).alloc (Nat.le_refl _) _).trans (h.mono (by simp))⟩
  clear hin
  unfold memL
  cases hc : (chkM t).2 == 0
  · simp only [Bool.false_eq_true, if_false]
    have hc' : ((chkM t).2 != 0) = true := by simp only [bne, hc]; rfl
    generalize (chkM t).2 = C at *
    unfold ShT.v ShT.cs at HC HX ⊢
    refine (callsIn_wide (n := 4)).1 ?_
    refine callsIn_of_wp_marks Try.func21 rfl trivial ?_ rfl
    simp only [Try.ntmps21, List.size_toArray, List.length_cons, List.length_nil, Nat.reduceAdd, Nat.reduceSub, Array.replicate_succ, Array.replicate_zero, List.push_toArray, List.append_toArray, List.nil_append, List.cons_append]
    refine wpIn_wide.2 ?_
    go_wp2_with (go_at_call 20; refine (unveil HC _).mono ?_; rintro r w1 ⟨rfl, hb1⟩)
    exact ⟨_, results_tmp2 rfl _ _ _, _, rfl, World.ownsRow_nil _ _ _ _, (unveil HX w1 hb1).2⟩
  · simp only [if_true]
    have h0 : (chkM t).2 = 0 := by simpa using hc
    have hrg := chk_ok hc
    rw [h0] at HC
    have HRG := veil hrg
    clear hrg hc h0
    cases hs : (t.sh == 4 || t.sh == 5)
    · simp only [Bool.false_eq_true, if_false]
      have hs4 : (t.sh != 4) = true := by cases h : t.sh == 4 <;> simp_all [bne]
      have hs5 : (t.sh != 5) = true := by cases h : t.sh == 5 <;> simp_all [bne]
      clear hs
      unfold ShT.v ShT.cs at HC HX ⊢
      refine (callsIn_wide (n := 4)).1 ?_
      refine callsIn_of_wp_marks Try.func21 rfl trivial ?_ rfl
      simp only [Try.ntmps21, List.size_toArray, List.length_cons, List.length_nil, Nat.reduceAdd, Nat.reduceSub, Array.replicate_succ, Array.replicate_zero, List.push_toArray, List.append_toArray, List.nil_append, List.cons_append]
      refine wpIn_wide.2 ?_
      go_wp2_with (go_at_call 20; refine (unveil HC _).mono ?_; rintro r w1 ⟨rfl, hb1⟩; have xb := (unveil HX w1 hb1).2; obtain ⟨y0, y1, y2, y3, y4, y5, y6⟩ := (unveil HX w1 hb1).1.seven)
      exact ⟨_, results_tmp2 rfl _ _ _, _, rfl, World.ownsRow_nil _ _ _ _, xb⟩
    · simp only [if_true]
      exact Members_main t w (unveil HIN) (unveil HRG) hs HC
end Go.Proofs.Ytgomlfaekfabpaa
namespace Go.Proofs.Ytgomlfaekfabpaa
open Go Go.RowKit Go.Shelf
set_option linter.unusedVariables false
set_option linter.unusedSimpArgs false

/-- The cells of a node. -/
def ndC (t : ShT) (bit bits : Int) (pv : Value) : Array Value := #[.int .i64 t.sh, .int .i64 t.k, .int .i64 t.n, .slice t.op t.of.length t.oc, .slice t.fp t.fs.length t.fc, .bool t.pk, .int .i64 t.al, .int .i64 bit, .int .i64 bits, pv]
/-- A node at a place. -/
structure NdAt (W : World) (g o : Nat) (t : ShT) (bit bits : Int) (pv : Value) : Prop where
  c : ∀ (j : Nat) (u : Value), (ndC t bit bits pv)[j]? = some u → W.cell? ⟨g, o + j, none⟩ = some u
  lt : g < W.heap.size
theorem NdAt.ten {W : World} {g o : Nat} {t : ShT} {bit bits : Int} {pv : Value} (h : NdAt W g o t bit bits pv) :
    (W.cell? ⟨g, o, none⟩ = some (.int .i64 t.sh) ∧ W.cell? ⟨g, o + 1, none⟩ = some (.int .i64 t.k) ∧ W.cell? ⟨g, o + 2, none⟩ = some (.int .i64 t.n) ∧ W.cell? ⟨g, o + 3, none⟩ = some (.slice t.op t.of.length t.oc) ∧ W.cell? ⟨g, o + 4, none⟩ = some (.slice t.fp t.fs.length t.fc) ∧ W.cell? ⟨g, o + 5, none⟩ = some (.bool t.pk) ∧ W.cell? ⟨g, o + 6, none⟩ = some (.int .i64 t.al)) ∧
    W.cell? ⟨g, o + 7, none⟩ = some (.int .i64 bit) ∧ W.cell? ⟨g, o + 8, none⟩ = some (.int .i64 bits) ∧ W.cell? ⟨g, o + 9, none⟩ = some pv :=
  ⟨⟨h.c 0 _ rfl, h.c 1 _ rfl, h.c 2 _ rfl, h.c 3 _ rfl, h.c 4 _ rfl, h.c 5 _ rfl, h.c 6 _ rfl⟩, h.c 7 _ rfl, h.c 8 _ rfl, h.c 9 _ rfl⟩
theorem NdAt.below {W W' : World} {g o : Nat} {t : ShT} {bit bits : Int} {pv : Value} (h : NdAt W g o t bit bits pv) (hb : Below W.heap.size W W') : NdAt W' g o t bit bits pv :=
  ⟨fun j u hu => (hb.cell (p := ⟨g, o + j, none⟩) h.lt).trans (h.c j u hu), Nat.lt_of_lt_of_le h.lt hb.size⟩
theorem NdAt.of {W : World} {g : Nat} {t : ShT} {bit bits : Int} {pv : Value} (h : Bk W g 117 (ndC t bit bits pv)) : NdAt W g 0 t bit bits pv :=
  ⟨fun j u hu => by rw [Nat.zero_add, h.cell]; exact hu, h.lt⟩
/-- What begin tells. -/
def BgP (w : World) (t : ShT) (e : Ending) (w' : World) : Prop :=
  Below w.heap.size w w' ∧ (((chkM t).2 == 0) = false ∧ e = .returned (.tuple #[.pointer none, .int .i64 (chkM t).2]) ∨
    ((chkM t).2 == 0) = true ∧ ∃ g, w.heap.size ≤ g ∧ e = .returned (.tuple #[.pointer (some ⟨g, 0, none⟩), .int .i64 0]) ∧ Bk w' g 117 (ndC t 0 (8 * (chkM t).1.1) (.slice none 0 0)))
theorem chk_size (t : ShT) : 0 ≤ (chkM t).1.1 ∧ (chkM t).1.1 ≤ 65536 := by
  unfold chkM
  split
  · rename_i h
    have := mea_ok 6 t h
    split
    · simp
    · exact ⟨this.1, by simp only; omega⟩
  · simp
set_option maxRecDepth 100000 in
set_option maxHeartbeats 8000000 in
theorem begin_any (t : ShT) (w : World) (hin : t.In w.heap.size w) : Calls Try.prog 53 #[t.v] w (BgP w t) := by
  have HZ : Hid (∀ W, Below w.heap.size w W → Calls Try.prog 18 #[t.v] W fun r w' => r = .returned (.tuple #[.int .i64 (chkM t).1.1, .int .i64 (chkM t).1.2, .int .i64 (chkM t).2]) ∧ Below W.heap.size W w') := fun W h => Size10_any t W ((hin.below h).mono h.size)
  have HT0 := veil (And.intro (TyB.new w t) ((Below.refl _ w).alloc (Nat.le_refl _) (.cells t.cs 25)))
  obtain ⟨z0, z1⟩ := chk_size t
  clear hin
  have hpo : ∀ e w', (Below w.heap.size w w' ∧ (((chkM t).2 == 0) = false ∧ e = .returned (.tuple #[.pointer none, .int .i64 (chkM t).2]) ∨ ((chkM t).2 == 0) = true ∧ ∃ g, w.heap.size ≤ g ∧ e = .returned (.tuple #[.pointer (some ⟨g, 0, none⟩), .int .i64 0]) ∧ Bk w' g 117 (ndC t 0 (8 * (chkM t).1.1) (.slice none 0 0)))) → BgP w t e w' := fun e w' h => h
  have HPO := veil hpo
  clear hpo
  generalize BgP w t = PO at *
  generalize chkM t = C at *
  obtain ⟨⟨z, a⟩, er⟩ := C
  simp only at *
  unfold ShT.v ShT.cs at *
  cases hc : er == 0
  · have hc' : (er != 0) = true := by simp only [bne, hc]; rfl
    go_enter Try.func53, Try.ntmps53
    go_upto_region 1 with fail
    generalize (w.alloc (.cells #[.int .i64 t.sh, .int .i64 t.k, .int .i64 t.n, .slice t.op t.of.length t.oc, .slice t.fp t.fs.length t.fc, .bool t.pk, .int .i64 t.al] 25)) = W0 at HT0 ⊢
    obtain ⟨y0, y1, y2, y3, y4, y5, y6⟩ := (unveil HT0).1.seven
    go_wp2_with (go_at_call 18; refine (unveil HZ _ (unveil HT0).2).mono ?_; rintro e W1 ⟨rfl, hb1⟩; have HB1 := veil ((unveil HT0).2.trans (hb1.mono (unveil HT0).2.size)); clear hb1)
    exact unveil HPO _ _ ⟨unveil HB1, .inl ⟨hc, rfl⟩⟩
  · obtain rfl : er = 0 := by simpa using hc
    go_enter Try.func53, Try.ntmps53
    go_upto_region 1 with fail
    generalize (w.alloc (.cells #[.int .i64 t.sh, .int .i64 t.k, .int .i64 t.n, .slice t.op t.of.length t.oc, .slice t.fp t.fs.length t.fc, .bool t.pk, .int .i64 t.al] 25)) = W0 at HT0 ⊢
    obtain ⟨y0, y1, y2, y3, y4, y5, y6⟩ := (unveil HT0).1.seven
    go_wp2_with (go_at_call 18; refine (unveil HZ _ (unveil HT0).2).mono ?_; rintro e W1 ⟨rfl, hb1⟩; have HB1 := veil ((unveil HT0).2.trans (hb1.mono (unveil HT0).2.size)); obtain ⟨x0, x1, x2, x3, x4, x5, x6⟩ := ((unveil HT0).1.below hb1).seven; clear hb1)
    exact unveil HPO _ _ ⟨(unveil HB1).alloc (unveil HB1).size _, .inr ⟨hc, _, (unveil HB1).size, rfl, Bk.new _ _ _⟩⟩
set_option maxRecDepth 100000 in
set_option maxHeartbeats 8000000 in
theorem size_any (g o : Nat) (t : ShT) (bit bits : Int) (pv : Value) (w : World) (h : NdAt w g o t bit bits pv) (h0 : 0 ≤ bits) (h1 : bits ≤ 524288) :
    Calls Try.prog 54 #[.pointer (some ⟨g, o, none⟩)] w fun e w' => e = .returned (.int .i64 (bits / 8)) ∧ w' = w := by
  obtain ⟨⟨y0, y1, y2, y3, y4, y5, y6⟩, c7, c8, c9⟩ := h.ten
  clear h
  go_enter Try.func54, Try.ntmps54
  go_wp2_with fail
  go_ret
  exact ⟨by first | rfl | (congr 2; omega), rfl⟩
/-- The spot of a number or a pointer. -/
def nuM (t : ShT) (bits fr : Int) : (Int × Int × Int) × Bool := if t.sh == 1 then ((fr, bits, t.k), true) else if t.sh == 2 then ((fr, bits, 8), true) else ((0, 0, 0), false)
theorem res_sb {f : Func} {k j : Nat} {tmps : Array Value} {w : World} {R : Nat} {cs : Array Value} (hr : f.results = #[.cell k 42, .tmp j]) (hp : tmps.getD k undef = .pointer (some ⟨R, 0, none⟩)) (hg : w.heap[R]? = some (.cells cs 42 (0, 0))) (hz : cs.size = 3) :
    (results f tmps).run Try.prog w = .ok (.tuple #[.agg cs, tmps.getD j undef]) w := by
  rw [results_cell_tmp hr, hp]
  have hi : (Try.prog.info? 42).map (·.size) = some cs.size := by rw [hz]; kernel_rfl
  simp [asAddr, run_loadVar_row w R 42 42 cs (0, 0) _ hg Try.underlying42 rfl hi]
set_option maxRecDepth 100000 in
set_option maxHeartbeats 8000000 in
theorem number_any (g o : Nat) (t : ShT) (bit bits fr : Int) (pv : Value) (w : World) (h : NdAt w g o t bit bits pv) :
    Calls Try.prog 76 #[.pointer (some ⟨g, o, none⟩), .int .i64 fr] w fun e w' => e = .returned (.tuple #[.agg #[.int .i64 (nuM t bits fr).1.1, .int .i64 (nuM t bits fr).1.2.1, .int .i64 (nuM t bits fr).1.2.2], .bool (nuM t bits fr).2]) ∧ Below w.heap.size w w' := by
  have HN := veil (fun o => h.below ((Below.refl _ w).alloc (Nat.le_refl _) o))
  have HB := veil (fun ob => (Below.refl _ w).alloc (Nat.le_refl _) ob)
  have HX := veil (Bk.new w 42 #[.int .i64 0, .int .i64 0, .int .i64 0])
  clear h
  unfold nuM
  cases h1 : t.sh == 1
  · cases h2 : t.sh == 2
    · simp only [Bool.false_eq_true, if_false]
      go_enter Try.func76, Try.ntmps76
      go_upto_region 1 with fail
      have HN0 := veil (unveil HN (.cells #[.int .i64 0, .int .i64 0, .int .i64 0] 42))
      obtain ⟨⟨y0, y1, y2, y3, y4, y5, y6⟩, c7, c8, c9⟩ := (unveil HN0).ten
      go_wp2_with fail
      refine bodyPost_ret (res_sb (f := Try.f76) rfl rfl (Bk.new w _ _) rfl) rfl ⟨rfl, unveil HB _⟩
    · simp only [Bool.false_eq_true, if_false, if_true]
      go_enter Try.func76, Try.ntmps76
      go_upto_region 1 with fail
      have HN0 := veil (unveil HN (.cells #[.int .i64 0, .int .i64 0, .int .i64 0] 42))
      obtain ⟨⟨y0, y1, y2, y3, y4, y5, y6⟩, c7, c8, c9⟩ := (unveil HN0).ten
      go_wp2_with fail
      refine bodyPost_ret (res_sb (f := Try.f76) rfl rfl (Bk.new w _ _) rfl) rfl ⟨rfl, unveil HB _⟩
  · simp only [if_true]
    go_enter Try.func76, Try.ntmps76
    go_upto_region 1 with fail
    have HN0 := veil (unveil HN (.cells #[.int .i64 0, .int .i64 0, .int .i64 0] 42))
    generalize hW : (w.alloc (.cells #[.int .i64 0, .int .i64 0, .int .i64 0] 42)) = W0 at *
    have HB0 : Hid (Below w.heap.size w W0) := by rw [← hW]; exact unveil HB _
    obtain ⟨⟨y0, y1, y2, y3, y4, y5, y6⟩, c7, c8, c9⟩ := (unveil HN0).ten
    have x0 := (unveil HX).cell 0
    have x1 := (unveil HX).cell 1
    have x2 := (unveil HX).cell 2
    have z0 := (unveil HX).frozen 0
    have z1 := (unveil HX).frozen 1
    have z2 := (unveil HX).frozen 2
    have lx := (unveil HX).lt
    simp only [List.getElem?_toArray, List.getElem?_cons_zero, List.getElem?_cons_succ] at x0 x1 x2
    clear hW HB HN
    go_upto_region 3 with fail
    go_region
    have hX3 : Bk (((W0.setCell ⟨w.heap.size, 0, none⟩ (.int .i64 fr)).setCell ⟨w.heap.size, 1, none⟩ (.int .i64 bits)).setCell ⟨w.heap.size, 2, none⟩ (.int .i64 t.k)).drew w.heap.size 42 #[.int .i64 fr, .int .i64 bits, .int .i64 t.k] := (((unveil HX).set 0 _).set 1 _).set 2 _
    have HX3 := veil hX3
    have HB3 : Hid (Below w.heap.size w (((W0.setCell ⟨w.heap.size, 0, none⟩ (.int .i64 fr)).setCell ⟨w.heap.size, 1, none⟩ (.int .i64 bits)).setCell ⟨w.heap.size, 2, none⟩ (.int .i64 t.k)).drew) := ((((unveil HB0).setCell (p := ⟨w.heap.size, 0, none⟩) (Nat.le_refl _) _).setCell (p := ⟨w.heap.size, 1, none⟩) (Nat.le_refl _) _).setCell (p := ⟨w.heap.size, 2, none⟩) (Nat.le_refl _) _).drew
    clear hX3
    go_wp2_with fail
    exact bodyPost_ret (res_sb (f := Try.f76) rfl rfl (unveil HX3) rfl) rfl ⟨rfl, unveil HB3⟩
end Go.Proofs.Ytgomlfaekfabpaa
namespace Go.Proofs.Ytgomlfaekfabpaa
open Go Go.RowKit
set_option linter.unusedVariables false
set_option linter.unusedSimpArgs false

set_option maxRecDepth 100000 in
set_option maxHeartbeats 20000000 in
theorem next_any (t : ShT) (f : FdOf ShT) (z a : Int) (bg : Bool) (v : Value) (en : Int) (w : World) (hok : FOk f (z, a)) (he0 : 0 ≤ en) (he1 : en ≤ 1073741824) :
    Calls Try.prog 84 #[t.v, f.v, .agg #[.int .i64 z, .int .i64 a, .bool bg, v], .int .i64 en] w fun e w' => e = .returned (.int .i64 (layM (z, a) f en t.pk).bit) ∧ Below w.heap.size w w' := by
  obtain ⟨h1, h2, h3, h4, h5⟩ := hok
  simp only at h1 h2 h3 h4 h5
  have HU : Hid (∀ m, 1 ≤ m → m ≤ 1099511627776 → ∀ W, Calls Try.prog 85 #[.int .i64 en, .int .i64 m] W fun e w' => e = .returned (.int .i64 (upM en m)) ∧ w' = W) := fun m hm hm2 W => Rup_any en m W he0 (by omega) hm hm2
  have HW0 : Hid ((((w.alloc (.cells t.cs 25)).alloc (.cells f.cs 45)).alloc (.cells #[.int .i64 z, .int .i64 a, .bool bg, v] 32)).cell? ⟨w.heap.size, 5, none⟩ = some (.bool t.pk) ∧
      (((w.alloc (.cells t.cs 25)).alloc (.cells f.cs 45)).alloc (.cells #[.int .i64 z, .int .i64 a, .bool bg, v] 32)).cell? ⟨w.heap.size + 1, 8, none⟩ = some (.int .i64 f.bits) ∧
      (((w.alloc (.cells t.cs 25)).alloc (.cells f.cs 45)).alloc (.cells #[.int .i64 z, .int .i64 a, .bool bg, v] 32)).cell? ⟨w.heap.size + 1 + 1, 0, none⟩ = some (.int .i64 z) ∧
      (((w.alloc (.cells t.cs 25)).alloc (.cells f.cs 45)).alloc (.cells #[.int .i64 z, .int .i64 a, .bool bg, v] 32)).cell? ⟨w.heap.size + 1 + 1, 1, none⟩ = some (.int .i64 a) ∧
      Below w.heap.size w (((w.alloc (.cells t.cs 25)).alloc (.cells f.cs 45)).alloc (.cells #[.int .i64 z, .int .i64 a, .bool bg, v] 32))) := by
    have b1 := Bk.new (w.alloc (.cells t.cs 25)) 45 f.cs
    have b2 := Bk.new ((w.alloc (.cells t.cs 25)).alloc (.cells f.cs 45)) 32 #[.int .i64 z, .int .i64 a, .bool bg, v]
    rw [World.size_alloc] at b1
    rw [World.size_alloc, World.size_alloc] at b2
    exact ⟨(((Bk.new w 25 t.cs).alloc _).alloc _).cell 5, (b1.alloc _).cell 8, b2.cell 0, b2.cell 1, (below_new2 w _ _).alloc (by simp; omega) _⟩
  unfold layM layB
  unfold ShT.v ShT.cs FdOf.v FdOf.cs at *
  generalize t.sh = q1 at *
  generalize t.k = q2 at *
  generalize t.n = q3 at *
  generalize t.op = q4 at *
  generalize t.of.length = q5 at *
  generalize t.oc = q6 at *
  generalize t.fp = q7 at *
  generalize t.fs.length = q8 at *
  generalize t.fc = q9 at *
  generalize t.pk = pk at *
  generalize t.al = q10 at *
  generalize f.bits = bi at *
  by_cases hb : bi < 0
  · rw [if_neg (show ¬ 0 ≤ bi by omega)]
    have HU1 := veil (unveil HU 8 (by omega) (by omega))
    have HU2 := veil (unveil HU (8 * a) (by omega) (by omega))
    clear HU
    cases pk
    · go_enter Try.func84, Try.ntmps84
      go_upto_region 1 with fail
      generalize (World.alloc _ (.cells #[.int .i64 z, .int .i64 a, .bool bg, v] 32)) = W0 at HW0 ⊢
      obtain ⟨y0, y1, y2, y3, hb0⟩ := unveil HW0
      have HB0 := veil hb0
      clear HW0 hb0
      go_wp2_with (go_at_call 85; refine (unveil HU2 _).mono ?_; rintro e w' ⟨rfl, hw'⟩; obtain rfl := hw'.symm)
      go_ret
      exact ⟨by simp, unveil HB0⟩
    · go_enter Try.func84, Try.ntmps84
      go_upto_region 1 with fail
      generalize (World.alloc _ (.cells #[.int .i64 z, .int .i64 a, .bool bg, v] 32)) = W0 at HW0 ⊢
      obtain ⟨y0, y1, y2, y3, hb0⟩ := unveil HW0
      have HB0 := veil hb0
      clear HW0 hb0
      go_wp2_with (go_at_call 85; refine (unveil HU1 _).mono ?_; rintro e w' ⟨rfl, hw'⟩; obtain rfl := hw'.symm)
      go_ret
      exact ⟨by simp, unveil HB0⟩
  · have hb' : 0 ≤ bi := by omega
    obtain ⟨g1, g2, g3⟩ := h5 hb'
    rw [if_pos hb']
    have HU1 := veil (unveil HU (8 * z) (by omega) (by omega))
    clear HU h5
    simp only
    have hz : ¬ 8 * z = 0 := by omega
    by_cases h0 : bi = 0
    · subst h0
      go_enter Try.func84, Try.ntmps84
      go_upto_region 1 with fail
      generalize (World.alloc _ (.cells #[.int .i64 z, .int .i64 a, .bool bg, v] 32)) = W0 at HW0 ⊢
      obtain ⟨y0, y1, y2, y3, hb0⟩ := unveil HW0
      have HB0 := veil hb0
      clear HW0 hb0
      go_upto_region 7 with fail
      go_quiet (fail)
      go_wp2_with (go_at_call 85; refine (unveil HU1 _).mono ?_; rintro e w' ⟨rfl, hw'⟩; obtain rfl := hw'.symm)
      go_ret
      exact ⟨by simp, below_drewS (unveil HB0) _⟩
    · have h0' : (bi == 0) = false := by simpa using h0
      have hcr0 : (en / (8 * z) != (en + bi - 1).tdiv (8 * z)) = (en / (8 * z) != (en + bi - 1) / (8 * z)) := by
        rw [Int.tdiv_eq_ediv_of_nonneg (by omega)]
      rw [hcr0]
      clear hcr0
      cases pk
      · cases hcr : (en / (8 * z) != (en + bi - 1) / (8 * z))
        all_goals
          simp only [h0', Bool.false_or, Bool.true_and, Bool.not_false, Bool.false_and, Bool.false_eq_true, if_true, if_false]
          go_enter Try.func84, Try.ntmps84
          go_upto_region 1 with fail
          generalize (World.alloc _ (.cells #[.int .i64 z, .int .i64 a, .bool bg, v] 32)) = W0 at HW0 ⊢
          obtain ⟨y0, y1, y2, y3, hb0⟩ := unveil HW0
          have HB0 := veil hb0
          clear HW0 hb0
          go_upto_region 7 with fail
          go_quiet (fail)
          go_wp2_with (go_at_call 85; refine (unveil HU1 _).mono ?_; rintro e w' ⟨rfl, hw'⟩; obtain rfl := hw'.symm)
          go_ret
          exact ⟨by simp [h0], below_drewS (unveil HB0) _⟩
      · go_enter Try.func84, Try.ntmps84
        go_upto_region 1 with fail
        generalize (World.alloc _ (.cells #[.int .i64 z, .int .i64 a, .bool bg, v] 32)) = W0 at HW0 ⊢
        obtain ⟨y0, y1, y2, y3, hb0⟩ := unveil HW0
        have HB0 := veil hb0
        clear HW0 hb0
        go_upto_region 7 with fail
        go_quiet (fail)
        go_wp2_with fail
        go_ret
        exact ⟨by simp [h0], below_drewS (unveil HB0) _⟩
end Go.Proofs.Ytgomlfaekfabpaa
namespace Go.Proofs.Ytgomlfaekfabpaa
open Go Go.RowKit
set_option linter.unusedVariables false
set_option linter.unusedSimpArgs false

/-- None that has a name has one that stands behind it. -/
def dsM : List (List UInt8) → Bool
  | [] => true
  | x :: r => !(!x.isEmpty && decide (x ∈ r)) && dsM r
def hasN (l : List (List UInt8)) : Bool := l.any fun x => !x.isEmpty
theorem nds_facts : ∀ l : List (List UInt8), 
    (nds l : Int) - (if ([] : List UInt8) ∈ l then 1 else 0) + (l.count [] : Nat) ≤ (l.length : Nat) ∧
    (((nds l : Int) - (if ([] : List UInt8) ∈ l then 1 else 0) + (l.count [] : Nat) = (l.length : Nat)) ↔ dsM l = true) ∧
    0 ≤ (nds l : Int) - (if ([] : List UInt8) ∈ l then 1 else 0) ∧
    ((0 < (nds l : Int) - (if ([] : List UInt8) ∈ l then 1 else 0)) ↔ hasN l = true)
  | [] => by simp [nds, dsM, hasN]
  | x :: r => by
    obtain ⟨h1, h2, h3, h4⟩ := nds_facts r
    unfold hasN at h4 ⊢
    simp only [nds, dsM, List.length_cons, List.any_cons]
    by_cases hx : x = []
    · subst hx
      simp only [List.isEmpty_nil, Bool.not_true, Bool.false_and, Bool.not_false, Bool.true_and, Bool.false_or, List.mem_cons_self, if_true, List.count_cons_self]
      by_cases hm : ([] : List UInt8) ∈ r
      · simp only [hm, if_true] at h1 h2 h3 h4 ⊢
        refine ⟨by omega, ?_, by omega, h4⟩
        rw [← h2]; omega
      · simp only [hm, if_false] at h1 h2 h3 h4 ⊢
        refine ⟨by omega, ?_, by omega, ?_⟩
        · rw [← h2]; omega
        · rw [← h4]; omega
    · have hxe : x.isEmpty = false := by cases x with | nil => exact absurd rfl hx | cons => rfl
      have hne : ¬ ([] : List UInt8) = x := fun h => hx h.symm
      have hc : List.count [] (x :: r) = List.count [] r := List.count_cons_of_ne (by simpa using hx)
      have hm0 : (([] : List UInt8) ∈ x :: r) = ([] ∈ r) := by simp [hne]
      simp only [hxe, Bool.not_false, Bool.true_and, Bool.true_or, hc, hm0, iff_true]
      generalize (if ([] : List UInt8) ∈ r then (1 : Int) else 0) = z at *
      by_cases hm : x ∈ r
      · simp only [hm, if_true, decide_true, Bool.not_true, Bool.false_and, Bool.false_eq_true, iff_false]
        have hany : (r.any fun x => !x.isEmpty) = true := List.any_eq_true.2 ⟨x, hm, by simp [hxe]⟩
        refine ⟨by omega, by omega, by omega, h4.2 hany⟩
      · simp only [hm, if_false, decide_false, Bool.not_false, Bool.true_and]
        refine ⟨by omega, ?_, by omega, by omega⟩
        rw [← h2]; omega
theorem nam_is (ns : List (List UInt8)) : namM ns = (hasN ns && dsM ns.reverse) := by
  obtain ⟨h1, h2, h3, h4⟩ := nds_facts ns.reverse
  have hh : hasN ns.reverse = hasN ns := by unfold hasN; simp
  simp only [List.mem_reverse, List.count_reverse, List.length_reverse, hh] at h1 h2 h3 h4
  unfold namM
  simp only
  congr 1
  · rw [Bool.eq_iff_iff, decide_eq_true_eq]; exact h4
  · rw [Bool.eq_iff_iff, beq_iff_eq]; exact h2
theorem ds_app : ∀ {a b : List (List UInt8)}, dsM b = false → dsM (a ++ b) = false
  | [], b, h => h
  | x :: r, b, h => by rw [List.cons_append, dsM, ds_app h, Bool.and_false]
/-- A name that came ahead. -/
theorem ds_no {ns : List (List UInt8)} {k m : Nat} (hk : k < ns.length) (hm : m < k) (he : ns[k].isEmpty = false) (h : ns[m] = ns[k]) : dsM ns.reverse = false := by
  have h1 : ns = ns.take k ++ ns[k] :: ns.drop (k + 1) := by
    rw [← List.drop_eq_getElem_cons hk, List.take_append_drop]
  have h2 : ns.reverse = (ns.drop (k + 1)).reverse ++ (ns[k] :: (ns.take k).reverse) := by
    conv => lhs; rw [h1]
    simp
  rw [h2]
  refine ds_app ?_
  rw [dsM, he]
  have : ns[k] ∈ (ns.take k).reverse := by
    rw [List.mem_reverse, ← h, List.mem_take_iff_getElem]
    exact ⟨m, by omega, rfl⟩
  simp [this]
theorem ds_step {ns : List (List UInt8)} {k : Nat} (hk : k < ns.length) (h0 : dsM (ns.take k).reverse = true) (h : ns[k].isEmpty = true ∨ ∀ m, (hm : m < k) → ns[m] ≠ ns[k]) : dsM (ns.take (k + 1)).reverse = true := by
  rw [List.take_succ_eq_append_getElem hk]
  simp only [List.reverse_append, List.reverse_cons, List.reverse_nil, List.nil_append, List.cons_append, dsM, h0, Bool.and_true]
  rcases h with h | h
  · simp [h]
  · have : ¬ ns[k] ∈ (ns.take k).reverse := by
      rw [List.mem_reverse, List.mem_take_iff_getElem]
      rintro ⟨m, hm, e⟩
      exact h m (by omega) e
    simp [this]
/-- What the document asks of members: each is right, and named so. -/
def rfM (d : Nat) (l : List (FdOf ShT)) : Bool := ffsM l && l.all fun f => rigM d f.t
theorem rf_bad {d : Nat} {l : List (FdOf ShT)} {f : FdOf ShT} (hf : f ∈ l) (h : (rigM d f.t && ffM f) = false) : rfM d l = false := by
  unfold rfM ffsM
  cases hr : rigM d f.t
  · have : (l.all fun f => rigM d f.t) = false := List.all_eq_false.2 ⟨f, hf, by simp [hr]⟩
    rw [this, Bool.and_false]
  · rw [hr, Bool.true_and] at h
    have : l.all ffM = false := List.all_eq_false.2 ⟨f, hf, by simp [h]⟩
    rw [this]; simp
theorem rf_dup {d : Nat} {l : List (FdOf ShT)} {k m : Nat} (hk : k < l.length) (hm : m < k) (he : l[k].nm.isEmpty = false) (h : l[m].nm = l[k].nm) : rfM d l = false := by
  unfold rfM ffsM
  rw [nam_is, ds_no (ns := l.map FdOf.nm) (k := k) (m := m) (by simpa using hk) hm (by simpa using he) (by simpa using h)]
  simp
theorem rf_end {d : Nat} {l : List (FdOf ShT)} (hall : ∀ x ∈ l, (rigM d x.t && ffM x) = true) (hd : dsM (l.map FdOf.nm).reverse = true) : rfM d l = (hasN (l.map FdOf.nm) && decide (l.length ≤ 40)) := by
  unfold rfM ffsM
  have h1 : l.all ffM = true := List.all_eq_true.2 fun x hx => by have := hall x hx; simp only [Bool.and_eq_true] at this; exact this.2
  have h2 : (l.all fun f => rigM d f.t) = true := List.all_eq_true.2 fun x hx => by have := hall x hx; simp only [Bool.and_eq_true] at this; exact this.1
  rw [h1, h2, nam_is, hd]
  simp only [Bool.and_true]
  cases l with
  | nil => simp [hasN]
  | cons x r => simp; rw [Bool.and_comm]
/-- Right types, shape by shape. -/
theorem rig_int {d : Nat} {t : ShT} (h : (t.sh == 1) = true) : rigM (d + 1) t = ((t.fs.length == 0 && !t.pk && t.al == 0) && kiM t.k && t.n == 0 && t.of.length == 0) := by
  unfold rigM formM formW ShT.parts
  rw [h]
  simp only [if_true]
  have hk : decide (0 < sizM t.k) = kiM t.k := by rcases siz_cases t.k with ⟨a, b⟩ | ⟨a, b⟩ <;> rw [b] <;> simp <;> omega
  rw [hk]
  cases h1 : t.fs.length == 0
  · simp
  · cases h2 : t.of.length == 0
    · simp
    · have e1 : t.fs = [] := by simpa using h1
      have e2 : t.of = [] := by simpa using h2
      rw [e1, e2]
      simp
      cases t.n == 0 <;> cases t.pk <;> cases t.al == 0 <;> cases kiM t.k <;> rfl
theorem rig_ptr {d : Nat} {t : ShT} (h1 : (t.sh == 1) = false) (h : (t.sh == 2) = true) : rigM (d + 1) t = ((t.fs.length == 0 && !t.pk && t.al == 0) && t.k == 0 && t.n == 0 && t.of.length == 0) := by
  unfold rigM formM formW ShT.parts
  rw [h1, h]
  simp only [if_true, Bool.false_eq_true, if_false]
  cases h1 : t.fs.length == 0
  · simp
  · cases h2 : t.of.length == 0
    · simp
    · have e1 : t.fs = [] := by simpa using h1
      have e2 : t.of = [] := by simpa using h2
      rw [e1, e2]
      simp
      cases t.n == 0 <;> cases t.pk <;> cases t.al == 0 <;> cases t.k == 0 <;> rfl
theorem rig_arr_no {d : Nat} {t : ShT} (h3 : (t.sh == 3) = true) (h : ((t.fs.length == 0 && !t.pk && t.al == 0) && t.k == 0 && decide (1 ≤ t.n) && t.of.length == 1) = false) : rigM (d + 1) t = false := by
  have hs : t.sh = 3 := by simpa using h3
  unfold rigM formM formW
  rw [hs]
  simp only [Int.reduceBEq, Bool.false_eq_true, if_false, if_true]
  rw [h, Bool.false_and]
theorem rig_arr {d : Nat} {t x : ShT} (h3 : (t.sh == 3) = true) (h : ((t.fs.length == 0 && !t.pk && t.al == 0) && t.k == 0 && decide (1 ≤ t.n) && t.of.length == 1) = true) (hx : t.of = [x]) : rigM (d + 1) t = rigM d x := by
  have hs : t.sh = 3 := by simpa using h3
  show (formM t && t.parts.all (rigM d)) = rigM d x
  unfold formM formW
  rw [hs]
  simp only [Int.reduceBEq, Bool.false_eq_true, if_false, if_true]
  rw [h, Bool.true_and]
  have e1 : t.fs = [] := by
    simp only [Bool.and_eq_true, beq_iff_eq, List.length_eq_zero_iff] at h
    exact h.1.1.1.1.1
  unfold ShT.parts
  rw [hx, e1]
  simp
theorem rig_mem {d : Nat} {t : ShT} (h : (t.sh == 4 || t.sh == 5) = true) : rigM (d + 1) t = (t.k == 0 && t.n == 0 && t.of.length == 0 && aliM t.al && rfM d t.fs) := by
  have hs : t.sh = 4 ∨ t.sh = 5 := by simpa using h
  unfold rigM formM formW rfM ShT.parts
  rw [h]
  have h1 : (t.sh == 1) = false := by simp; omega
  have h2 : (t.sh == 2) = false := by simp; omega
  have h3 : (t.sh == 3) = false := by simp; omega
  rw [h1, h2, h3]
  simp only [if_true, Bool.false_eq_true, if_false]
  cases h4 : t.of.length == 0
  · simp
  · have e2 : t.of = [] := by simpa using h4
    rw [e2]
    simp only [List.nil_append, List.all_map, Function.comp_def, Bool.and_true]
    cases t.n == 0 <;> cases t.k == 0 <;> cases aliM t.al <;> simp
theorem rig_none {d : Nat} {t : ShT} (h1 : (t.sh == 1) = false) (h2 : (t.sh == 2) = false) (h3 : (t.sh == 3) = false) (h4 : (t.sh == 4) = false) (h5 : (t.sh == 5) = false) : rigM (d + 1) t = false := by
  unfold rigM formM formW
  rw [h1, h2, h3, h4, h5]
  simp
end Go.Proofs.Ytgomlfaekfabpaa
namespace Go.Proofs.Ytgomlfaekfabpaa
open Go Go.RowKit Go.Shelf
set_option linter.unusedVariables false
set_option linter.unusedSimpArgs false

def intT (k : Int) : ShT := .mk 1 k 0 none 0 [] none 0 [] false 0
def shoT (g : Nat) : ShT := .mk 4 0 0 none 0 [] (some ⟨g, 0, none⟩) 3 [⟨[97], intT 5, 3⟩, ⟨[98], intT 5, 30⟩, ⟨[99], intT 1, -1⟩] false 0
theorem sho_chk (g : Nat) : chkM (shoT g) = ((12, 4), 0) := by kernel_rfl
theorem sho_mem (g : Nat) : memL (shoT g) = ([⟨0, 3, 5, 4⟩, ⟨32, 30, 5, 4⟩, ⟨64, 8, 1, 1⟩], 0) := by kernel_rfl
theorem intT_in (B : Nat) (W : World) (k : Int) : (intT k).In B W
  | 0 => trivial
  | d + 1 => ⟨fun i hi => absurd hi (Nat.not_lt_zero _), fun i hi => absurd hi (Nat.not_lt_zero _)⟩
theorem res_T {f : Func} {k : Nat} {tmps : Array Value} {w : World} {R : Nat} {cs : Array Value} (hr : f.results = #[.cell k 25]) (hp : tmps.getD k undef = .pointer (some ⟨R, 0, none⟩)) (hg : w.heap[R]? = some (.cells cs 25 (0, 0))) (hz : cs.size = 7) :
    (results f tmps).run Try.prog w = .ok (.agg cs) w := by
  have hi : (Try.prog.info? 25).map (·.size) = some cs.size := by rw [hz]; kernel_rfl
  have hp' : tmps[k]?.getD undef = .pointer (some ⟨R, 0, none⟩) := by simpa using hp
  simp [results, hr, hp', asAddr, run_loadVar_row w R 25 25 cs (0, 0) _ hg Try.underlying25 rfl hi]
theorem integer_any (k : Int) (w : World) : Calls Try.prog 39 #[.int .i64 k] w fun e w' => e = .returned (.agg #[.int .i64 1, .int .i64 k, .int .i64 0, .slice none 0 0, .slice none 0 0, .bool false, .int .i64 0]) ∧ Below w.heap.size w w' := by
  go_enter Try.func39, Try.ntmps39
  go_wp2
  exact bodyPost_ret (res_T (f := Try.f39) rfl rfl (Bk.new w _ _) rfl) rfl ⟨rfl, (Below.refl _ w).alloc (Nat.le_refl _) _⟩
def shoC : Array Value := #[.string ⟨#[97]⟩, .int .i64 1, .int .i64 5, .int .i64 0, .slice none 0 0, .slice none 0 0, .bool false, .int .i64 0, .int .i64 3,
  .string ⟨#[98]⟩, .int .i64 1, .int .i64 5, .int .i64 0, .slice none 0 0, .slice none 0 0, .bool false, .int .i64 0, .int .i64 30,
  .string ⟨#[99]⟩, .int .i64 1, .int .i64 1, .int .i64 0, .slice none 0 0, .slice none 0 0, .bool false, .int .i64 0, .int .i64 (-1)]
theorem sho_in {W : World} {g : Nat} {T : TypeId} (h : Bk W g T shoC) : (shoT g).In W.heap.size W
  | 0 => trivial
  | d + 1 => ⟨fun i hi => absurd hi (Nat.not_lt_zero _), fun i hi => by
      have hi3 : i < 3 := hi
      refine ⟨g, 0, rfl, h.lt, fun j hj => ?_, ?_, ?_⟩
      · rw [h.cell, Nat.zero_add]
        have hI : i = 0 ∨ i = 1 ∨ i = 2 := by omega
        have hJ : j = 0 ∨ j = 1 ∨ j = 2 ∨ j = 3 ∨ j = 4 ∨ j = 5 ∨ j = 6 ∨ j = 7 ∨ j = 8 := by omega
        rcases hI with rfl | rfl | rfl <;> rcases hJ with rfl | rfl | rfl | rfl | rfl | rfl | rfl | rfl | rfl <;> rfl
      · have : i = 0 ∨ i = 1 ∨ i = 2 := by omega
        rcases this with rfl | rfl | rfl <;> (show 1 ≤ maxLen; unfold maxLen; decide)
      · have : i = 0 ∨ i = 1 ∨ i = 2 := by omega
        rcases this with rfl | rfl | rfl <;> exact intT_in _ _ _ d⟩
theorem row_cells {W : World} {base n size : Nat} {e : TypeId} {v : Value} {xs : List Value} (h : W.ownsRow base e size v (n + 1) xs) :
    ∃ g cap, v = .slice (some ⟨g, 0, none⟩) (n + 1) cap ∧ base ≤ g ∧ g < W.heap.size ∧ n + 1 ≤ cap ∧ ∀ (i : Nat) (u : Value), xs[i]? = some u → W.cell? ⟨g, i, none⟩ = some u := by
  rcases h.2 with ⟨_, h0⟩ | ⟨g, cap, cur, rfl, hb, hg, hc, hm, hs, hx⟩
  · omega
  · refine ⟨g, cap, rfl, hb, (Array.getElem?_eq_some_iff.1 hg).1, hc, fun i u hu => ?_⟩
    have hk : Bk W g e cur := hg
    rw [hk.cell]
    rw [← hx, List.getElem?_take] at hu
    split at hu
    · simpa using hu
    · cases hu
set_option maxRecDepth 100000 in
set_option maxHeartbeats 8000000 in
theorem shown_any (w : World) : Calls Try.prog 17 #[] w fun e w' => e = .returned (.bool true) ∧ Below w.heap.size w w' := by
  have HI := veil integer_any
  have HB : Hid (Below w.heap.size w w) := Below.refl _ _
  go_enter Try.func17, Try.ntmps17
  go_upto_region 1 with fail
  go_upto_region 2 with (first
    | (go_at_call 39; refine (unveil HI _ _).mono ?_; rintro e w1 ⟨rfl, hb1⟩; have HB := veil ((unveil HB).trans (hb1.mono (unveil HB).size)); clear hb1))
  have HT : Hid (TyB ((w1.alloc (.cells shoC 45)).alloc (.cells (shoT w1.heap.size).cs 25)) (w1.heap.size + 1) (shoT w1.heap.size)) := by
    have := TyB.new (w1.alloc (.cells shoC 45)) (shoT w1.heap.size)
    rw [World.size_alloc] at this
    exact this
  have HR : Hid (Bk ((w1.alloc (.cells shoC 45)).alloc (.cells (shoT w1.heap.size).cs 25)) w1.heap.size 45 shoC) := (Bk.new w1 _ _).alloc _
  have HBE : Hid (Below w.heap.size w ((w1.alloc (.cells shoC 45)).alloc (.cells (shoT w1.heap.size).cs 25))) := ((unveil HB).alloc (unveil HB).size _).alloc (by have := (unveil HB).size; simp; omega) _
  have hcs : (shoT w1.heap.size).cs = #[.int .i64 4, .int .i64 0, .int .i64 0, .slice none 0 0, .slice (some ⟨w1.heap.size, 0, none⟩) 3 3, .bool false, .int .i64 0] := rfl
  rw [hcs] at HT HR HBE
  unfold shoC at HT HR HBE
  generalize w1.heap.size = g at *
  clear hcs
  generalize ((w1.alloc (.cells _ 45)).alloc (.cells _ 25)) = W0 at *
  have HS : Hid (Calls Try.prog 18 #[(shoT g).v] W0 fun r w' => r = .returned (.tuple #[.int .i64 12, .int .i64 4, .int .i64 0]) ∧ Below W0.heap.size W0 w') := by
    have := Size10_any (shoT g) W0 (sho_in (unveil HR))
    rw [sho_chk] at this
    exact this
  have HM : Hid (∀ W, Below W0.heap.size W0 W → Calls Try.prog 21 #[(shoT g).v] W fun e w' => MbP W [⟨0, 3, 5, 4⟩, ⟨32, 30, 5, 4⟩, ⟨64, 8, 1, 1⟩] 0 e w') := fun W hW => by
    have := Members_any (shoT g) W (sho_in ((unveil HR).below hW))
    rw [sho_mem] at this
    exact this
  have hv : (shoT g).v = .agg #[.int .i64 4, .int .i64 0, .int .i64 0, .slice none 0 0, .slice (some ⟨g, 0, none⟩) 3 3, .bool false, .int .i64 0] := rfl
  rw [hv] at HS HM
  clear hv
  obtain ⟨y0, y1, y2, y3, y4, y5, y6⟩ := (unveil HT).seven
  simp only [shoT, ShT.sh, ShT.k, ShT.n, ShT.op, ShT.of, ShT.oc, ShT.fp, ShT.fs, ShT.fc, ShT.pk, ShT.al, List.length_cons, List.length_nil] at y0 y1 y2 y3 y4 y5 y6
  go_wp2_with (first
    | (go_at_call 18; refine (unveil HS).mono ?_; rintro e W2 ⟨rfl, hb2⟩; have HB2 := veil hb2; obtain ⟨z0, z1, z2, z3, z4, z5, z6⟩ := ((unveil HT).below hb2).seven; simp only [shoT, ShT.sh, ShT.k, ShT.n, ShT.op, ShT.of, ShT.oc, ShT.fp, ShT.fs, ShT.fc, ShT.pk, ShT.al, List.length_cons, List.length_nil] at z0 z1 z2 z3 z4 z5 z6; clear hb2)
    | (go_at_call 21; refine (unveil HM _ (unveil HB2)).mono ?_; rintro e W3 ⟨v, rfl, hrow, hb3⟩; obtain ⟨gg, cap, rfl, hg1, hg2, hcap, hce⟩ := row_cells hrow; have HB3 := veil hb3; have e3 := hce 3 (.int .i64 32) rfl; have e6 := hce 6 (.int .i64 64) rfl; clear hrow hce hb3))
  go_ret
  exact ⟨by simp, (unveil HBE).trans (((unveil HB2).trans ((unveil HB3).mono (unveil HB2).size)).mono (unveil HBE).size)⟩
end Go.Proofs.Ytgomlfaekfabpaa
namespace Go.Proofs.Ytgomlfaekfabpaa
open Go Go.RowKit Go.Shelf
set_option linter.unusedVariables false
set_option linter.unusedSimpArgs false

/-- A member lies as it must. -/
def Good (f : FdOf ShT) (m : Mb) (n a : Int) : Prop :=
  (f.bits < 0 → m.bit % (8 * a) = 0 ∧ m.bits = 8 * n) ∧ (f.bits = 0 → m.bit % (8 * sizM f.t.k) = 0) ∧ (0 < f.bits → m.bit / (8 * sizM f.t.k) = (m.bit + m.bits - 1) / (8 * sizM f.t.k))
def StP (w : World) (G : Prop) (e : Ending) (w' : World) : Prop := ∃ b : Bool, e = .returned (.bool b) ∧ Below w.heap.size w w' ∧ (G → b = true)
set_option maxRecDepth 100000 in
set_option maxHeartbeats 8000000 in
theorem stands_any (f : FdOf ShT) (m : Mb) (n a : Int) (w : World) (hin : f.t.In w.heap.size w) (hc : chkM f.t = ((n, a), 0)) (hn0 : 0 ≤ n) (hn1 : n ≤ 65537) (ha0 : 1 ≤ a) (ha1 : a ≤ 64)
    (hb0 : 0 ≤ m.bit) (hb1 : m.bit ≤ 20992320) (hs0 : 0 ≤ m.bits) (hs1 : m.bits ≤ 524296) (hbi : 0 ≤ f.bits → m.bits = f.bits ∧ 1 ≤ sizM f.t.k) :
    Calls Try.prog 28 #[f.v, .agg #[.int .i64 m.bit, .int .i64 m.bits, .int .i64 m.k]] w fun e w' => StP w (Good f m n a) e w' := by
  have HZ : Hid (∀ o o', Calls Try.prog 18 #[f.t.v] ((w.alloc o).alloc o') fun r w' => r = .returned (.tuple #[.int .i64 n, .int .i64 a, .int .i64 0]) ∧ Below ((w.alloc o).alloc o').heap.size ((w.alloc o).alloc o') w') := fun o o' => by
    have := Size10_any f.t ((w.alloc o).alloc o') ((hin.below (below_new2 w o o')).mono (by simp; omega))
    rw [hc] at this
    exact this
  have HK := veil (Size_any f.t.k)
  have hsz := siz_cases f.t.k
  have HX : Hid (∀ w1, Below ((w.alloc (.cells f.cs 45)).alloc (.cells #[.int .i64 m.bit, .int .i64 m.bits, .int .i64 m.k] 42)).heap.size ((w.alloc (.cells f.cs 45)).alloc (.cells #[.int .i64 m.bit, .int .i64 m.bits, .int .i64 m.k] 42)) w1 →
      Bk w1 w.heap.size 45 f.cs ∧ Bk w1 (w.heap.size + 1) 42 #[.int .i64 m.bit, .int .i64 m.bits, .int .i64 m.k] ∧ Below w.heap.size w w1) := fun w1 h => by
    have h1 := Bk.new (w.alloc (.cells f.cs 45)) 42 #[.int .i64 m.bit, .int .i64 m.bits, .int .i64 m.k]
    rw [World.size_alloc] at h1
    exact ⟨((Bk.new w _ _).alloc _).below h, h1.below h, (below_new2 w _ _).trans (h.mono (by simp; omega))⟩
  obtain ⟨G, HG⟩ : ∃ G : Prop, Hid (G ↔ Good f m n a) := ⟨_, Iff.rfl⟩
  have HP : Hid (∀ e w', StP w G e w' → StP w (Good f m n a) e w') := fun e w' ⟨b, h1, h2, h3⟩ => ⟨b, h1, h2, fun g => h3 ((unveil HG).2 g)⟩
  refine Calls.mono (R := fun e w' => StP w G e w') ?_ (unveil HP)
  have HG2 : Hid (G → Good f m n a) := (unveil HG).1
  clear HP HG hin hc
  obtain ⟨bt, bs, km, ml⟩ := m
  simp only at *
  unfold FdOf.v FdOf.cs ShT.v ShT.cs at *
  unfold Good at HG2
  simp only at HG2
  generalize f.t.sh = a1 at *
  generalize sizM f.t.k = z at *
  generalize f.t.k = a2 at *
  generalize f.t.n = a3 at *
  generalize f.t.op = a4 at *
  generalize f.t.of.length = a4l at *
  generalize f.t.oc = a4c at *
  generalize f.t.fp = a5 at *
  generalize f.t.fs.length = a5l at *
  generalize f.t.fc = a5c at *
  generalize f.t.pk = a6 at *
  generalize f.t.al = a7 at *
  generalize f.bits = bi at *
  generalize f.nm = nm at *
  by_cases hlt : bi < 0
  · have h8 : ¬ 8 * a = 0 := by omega
    clear hbi hsz
    have HG3 : Hid (G → bt % (8 * a) = 0 ∧ bs = 8 * n) := fun g => (unveil HG2 g).1 hlt
    have hbm : bt.tmod (8 * a) = bt % (8 * a) := Int.tmod_eq_emod_of_nonneg hb0
    clear HG2
    go_enter Try.func28, Try.ntmps28
    go_wp2_with (go_at_call 18; refine (unveil HZ _ _).mono ?_; rintro r w1 ⟨rfl, hb1⟩; obtain ⟨x1, x2, x3⟩ := unveil HX w1 hb1; obtain ⟨c0, c1, c2, c3, c4, c5, c6, c7, c8⟩ := x1.nine; have d0 := x2.cell 0; have d1 := x2.cell 1; simp only [List.getElem?_toArray, List.getElem?_cons_succ, List.getElem?_cons_zero] at d0 d1; have XB := veil x3; clear x1 x2 x3)
    all_goals go_ret
    all_goals (
      refine ⟨_, rfl, unveil XB, fun g => ?_⟩
      obtain ⟨g1, g2⟩ := unveil HG3 g
      first
      | (simp [g2]; done)
      | (exfalso; simp_all; done))
  · obtain ⟨rfl, hz1⟩ := hbi (by omega)
    have hz8 : z ≤ 8 := by omega
    clear hbi hsz
    have hu : ¬ 8 * z = 0 := by omega
    have hge : ¬ bs < 0 := hlt
    have HSX : Hid (∀ w1, Bk w1 w.heap.size 45 #[.string ⟨nm.toArray⟩, .int .i64 a1, .int .i64 a2, .int .i64 a3, .slice a4 a4l a4c, .slice a5 a5l a5c, .bool a6, .int .i64 a7, .int .i64 bs] → Bk w1 (w.heap.size + 1) 42 #[.int .i64 bt, .int .i64 bs, .int .i64 km] →
        w1.cell? ⟨w.heap.size, 2, none⟩ = some (.int .i64 a2) ∧ w1.cell? ⟨w.heap.size, 8, none⟩ = some (.int .i64 bs) ∧ w1.cell? ⟨w.heap.size + 1, 0, none⟩ = some (.int .i64 bt) ∧ w1.cell? ⟨w.heap.size + 1, 1, none⟩ = some (.int .i64 bs)) := fun w1 h1 h2 => ⟨h1.cell 2, h1.cell 8, h2.cell 0, h2.cell 1⟩
    have hqe : (bs == bs) = true := by simp
    cases h0 : bs == 0
    · have hpos : bs > 0 := by have : ¬ bs = 0 := by simpa using h0
                               omega
      have HG3 : Hid (G → bt / (8 * z) = (bt + bs - 1) / (8 * z)) := fun g => (unveil HG2 g).2.2 hpos
      clear HG2
      go_enter Try.func28, Try.ntmps28
      go_wp2_with (first
        | (go_at_call 18; refine (unveil HZ _ _).mono ?_; rintro r w1 ⟨rfl, hb1⟩; obtain ⟨x1, x2, x3⟩ := unveil HX w1 hb1; obtain ⟨c2, c8, d0, d1⟩ := unveil HSX w1 x1 x2; have XB := veil x3; clear x1 x2 x3)
        | (go_at_call 49; refine (unveil HK _).mono ?_; rintro e w' ⟨rfl, hw'⟩; obtain rfl := hw'.symm))
      go_quiet (fail)
      go_wp2_with fail
      go_ret
      refine ⟨_, rfl, below_drewS (unveil XB) _, fun g => ?_⟩
      have g1 := unveil HG3 g
      simp [g1]
    · have HG3 : Hid (G → bt % (8 * z) = 0) := fun g => (unveil HG2 g).2.1 (by simpa using h0)
      clear HG2
      obtain rfl : bs = 0 := by simpa using h0
      clear h0
      have hbm : bt.tmod (8 * z) = bt % (8 * z) := Int.tmod_eq_emod_of_nonneg hb0
      cases hR : bt % (8 * z) == 0
      all_goals (
        go_enter Try.func28, Try.ntmps28
        go_wp2_with (first
          | (go_at_call 18; refine (unveil HZ _ _).mono ?_; rintro r w1 ⟨rfl, hb1⟩; obtain ⟨x1, x2, x3⟩ := unveil HX w1 hb1; obtain ⟨c2, c8, d0, d1⟩ := unveil HSX w1 x1 x2; have XB := veil x3; clear x1 x2 x3)
          | (go_at_call 49; refine (unveil HK _).mono ?_; rintro e w' ⟨rfl, hw'⟩; obtain rfl := hw'.symm))
        go_quiet (fail)
        go_wp2_with fail
        go_ret
        refine ⟨_, rfl, below_drewS (unveil XB) _, fun g => ?_⟩
        have g1 := unveil HG3 g
        first
        | rfl
        | (exfalso; rw [g1] at hR; cases hR)
        | (simp_all; done))
end Go.Proofs.Ytgomlfaekfabpaa
