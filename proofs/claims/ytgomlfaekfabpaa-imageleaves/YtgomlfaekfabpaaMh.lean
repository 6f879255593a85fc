/-
  Package shape: Leaves.
-/
import Derived.Test.YtgomlfaekfabpaaMg
import Derived.Test.YtgomlfaekfabpaaZze
namespace Go.Proofs.Ytgomlfaekfabpaa
open Go Go.RowKit Go.Shelf
attribute [local go_sem] Oper.semAt_some
set_option linter.unusedVariables false
set_option linter.unusedSimpArgs false

/-- What Leaves tells. -/
def leaL (t : ShT) : List Mb × Int := if (chkM t).2 == 0 then (if (leaM 6 t 0).length ≤ 2000 then (leaM 6 t 0, 0) else ([], 101)) else ([], (chkM t).2)
theorem chk_small {t : ShT} (h : ((chkM t).2 == 0) = true) : (meaM 6 t).1 ≤ 65536 := by
  unfold chkM at h
  split at h
  · split at h
    · simp at h
    · omega
  · simp at h
theorem res_ss {f : Func} {k j : Nat} {tmps : Array Value} {w : World} {R S : Nat} {v u : Value} (hr : f.results = #[.cell k 30, .cell j 27]) (hp : tmps.getD k undef = .pointer (some ⟨R, 0, none⟩)) (hq : tmps.getD j undef = .pointer (some ⟨S, 0, none⟩)) (hg : Bk w R 30 #[v]) (hs : Bk w S 27 #[u]) :
    (results f tmps).run Try.prog w = .ok (.tuple #[v, u]) w := by
  have hp' : tmps[k]?.getD undef = .pointer (some ⟨R, 0, none⟩) := by simpa using hp
  have hq' : tmps[j]?.getD undef = .pointer (some ⟨S, 0, none⟩) := by simpa using hq
  have hc := hg.cell 0
  have hd := hs.cell 0
  simp only [List.getElem?_toArray, List.getElem?_cons_zero] at hc hd
  simp [results, hr, hp', hq', asAddr, loadVar, go_sem, hc, hd, Try.underlying30, Try.underlying27]
/-- The boxes of Leaves: the type's, both answers'. -/
structure LeS (w W : World) (t : ShT) : Prop where
  t : TyB W w.heap.size t
  a : Bk W (w.heap.size + 1) 30 #[.slice none 0 0]
  e : Bk W (w.heap.size + 1 + 1) 27 #[.int .i64 0]
  be : Below w.heap.size w W
theorem LeS.new (w : World) (t : ShT) : LeS w (((w.alloc (.cells t.cs 25)).alloc (.cells #[.slice none 0 0] 30)).alloc (.cells #[.int .i64 0] 27)) t := by
  have h1 := Bk.new (w.alloc (.cells t.cs 25)) 30 #[.slice none 0 0]
  have h2 := Bk.new ((w.alloc (.cells t.cs 25)).alloc (.cells #[.slice none 0 0] 30)) 27 #[.int .i64 0]
  rw [World.size_alloc] at h1
  rw [World.size_alloc, World.size_alloc] at h2
  exact ⟨((TyB.new w t).alloc _).alloc _, h1.alloc _, h2, (below_new2 w _ _).alloc (by simp; omega) _⟩
theorem LeS.call {w W W' : World} {t : ShT} (h : LeS w W t) (hb : Below W.heap.size W W') : LeS w W' t := ⟨h.t.below hb, h.a.below hb, h.e.below hb, h.be.trans (hb.mono h.be.size)⟩
theorem LeS.cells {w W : World} {t : ShT} (h : LeS w W t) :
    (W.cell? ⟨w.heap.size, 0, none⟩ = some (.int .i64 t.sh) ∧ W.cell? ⟨w.heap.size, 1, none⟩ = some (.int .i64 t.k) ∧ W.cell? ⟨w.heap.size, 2, none⟩ = some (.int .i64 t.n) ∧ W.cell? ⟨w.heap.size, 3, none⟩ = some (.slice t.op t.of.length t.oc) ∧
      W.cell? ⟨w.heap.size, 4, none⟩ = some (.slice t.fp t.fs.length t.fc) ∧ W.cell? ⟨w.heap.size, 5, none⟩ = some (.bool t.pk) ∧ W.cell? ⟨w.heap.size, 6, none⟩ = some (.int .i64 t.al)) ∧
    W.cell? ⟨w.heap.size + 1, 0, none⟩ = some (.slice none 0 0) ∧ W.cell? ⟨w.heap.size + 1 + 1, 0, none⟩ = some (.int .i64 0) ∧ W.frozen? ⟨w.heap.size + 1, 0, none⟩ = false ∧ W.frozen? ⟨w.heap.size + 1 + 1, 0, none⟩ = false :=
  ⟨h.t.seven, h.a.cell 0, h.e.cell 0, h.a.frozen 0, h.e.frozen 0⟩
/-- Both answers are written. -/
theorem LeS.fin {w W : World} {t : ShT} (h : LeS w W t) (v u : Value) : Bk ((W.setCell ⟨w.heap.size + 1, 0, none⟩ v).setCell ⟨w.heap.size + 1 + 1, 0, none⟩ u) (w.heap.size + 1) 30 #[v] ∧ Bk ((W.setCell ⟨w.heap.size + 1, 0, none⟩ v).setCell ⟨w.heap.size + 1 + 1, 0, none⟩ u) (w.heap.size + 1 + 1) 27 #[u] ∧ Below w.heap.size w ((W.setCell ⟨w.heap.size + 1, 0, none⟩ v).setCell ⟨w.heap.size + 1 + 1, 0, none⟩ u) :=
  ⟨(h.a.set 0 v).other _ _ (by omega), (h.e.other _ _ (by omega)).set 0 u, (h.be.setCell (p := ⟨w.heap.size + 1, 0, none⟩) (by show w.heap.size ≤ w.heap.size + 1; omega) _).setCell (p := ⟨w.heap.size + 1 + 1, 0, none⟩) (by show w.heap.size ≤ w.heap.size + 1 + 1; omega) _⟩
def LvI (w : World) (t : ShT) (L : Nat) (pre : List Mb) (W : World) : Prop :=
  (∃ v, Bk W L 30 #[v] ∧ W.ownsRow w.heap.size 42 3 v pre.length (spCs pre)) ∧ LeS w W t ∧ pre.length ≤ 2000
def LvX (w : World) (full : List Mb) (c : Code) (W : World) : Prop :=
  c = .ret ∧ Bk W (w.heap.size + 1) 30 #[.slice none 0 0] ∧ Bk W (w.heap.size + 1 + 1) 27 #[.int .i64 101] ∧ Below w.heap.size w W ∧ ¬ full.length ≤ 2000
theorem LeS.turn {w W W' : World} {t : ShT} {row : Option Nat} (h : LeS w W t) (hg : W.grownBy W' row) (hr : ∀ r, row = some r → w.heap.size + 3 ≤ r) : LeS w W' t :=
  ⟨Bk.turn h.t hg (fun r e => by have := hr r e; omega), h.a.turn hg (fun r e => by have := hr r e; omega), h.e.turn hg (fun r e => by have := hr r e; omega), h.be.grown hg h.be.size (fun r e => by have := hr r e; omega)⟩
theorem LvI.abides (w : World) (t : ShT) (L B : Nat) (h1 : L < B) (h2 : w.heap.size + 3 ≤ B) : AbT B 4 (LvI w t L) := by
  refine ⟨fun pre X Y row hs hg hr => ?_, fun pre X hs => ?_⟩
  · obtain ⟨⟨v, a, b⟩, c, hl⟩ := hs
    have hr' : ∀ r, row = some r → B ≤ r := fun r e => (hr r e).1
    refine ⟨⟨v, a.turn hg (fun r e => by have := hr' r e; omega), ownsRow_turnS b hg (fun r e cur hc => ?_)⟩, c.turn hg (fun r e => by have := hr' r e; omega), hl⟩
    rcases (hr r e).2 with ⟨o, ho, hcs⟩ | ⟨cs, hcs⟩
    · rw [hc] at ho; cases ho; cases hcs
    · unfold Bk at hcs
      rw [hc] at hcs
      simp at hcs
  · obtain ⟨⟨v, a, b⟩, c, hl⟩ := hs
    exact ⟨⟨v, a, b⟩, ⟨c.t, c.a, c.e, c.be.drew⟩, hl⟩
theorem LvX.abides (w : World) (full : List Mb) (B : Nat) (c : Code) (h2 : w.heap.size + 3 ≤ B) : AbT B 4 (fun (_ : List Mb) W => LvX w full c W) := by
  refine ⟨fun pre X Y row hs hg hr => ?_, fun pre X hs => ?_⟩
  · obtain ⟨rfl, a, e, b, hl⟩ := hs
    have hr' : ∀ r, row = some r → B ≤ r := fun r e => (hr r e).1
    exact ⟨rfl, a.turn hg (fun r e => by have := hr' r e; omega), e.turn hg (fun r e => by have := hr' r e; omega), b.grown hg b.size (fun r e => by have := hr' r e; omega), hl⟩
  · obtain ⟨rfl, a, e, b, hl⟩ := hs
    exact ⟨rfl, a, e, b.drew, hl⟩
set_option maxRecDepth 100000 in
set_option maxHeartbeats 20000000 in
theorem Leaves_main (t : ShT) (w : World) (hin : t.In w.heap.size w) (hrg : rigM 6 t = true) (hsm : (meaM 6 t).1 ≤ 65536)
    (HC : Hid (∀ W, LeS w W t → Calls Try.prog 20 #[t.v] W fun r w' => r = .returned (.int .i64 0) ∧ Below W.heap.size W w')) :
    Calls Try.prog 24 #[t.v] w fun e w' => MbP w (if (leaM 6 t 0).length ≤ 2000 then (leaM 6 t 0) else []) (if (leaM 6 t 0).length ≤ 2000 then 0 else 101) e w' := by
  have HIN := veil hin
  have HLS := veil (fun Bd => leaves_stops 3 Bd w.heap.size t hrg hsm)
  have HLA := veil (leaves_any t)
  have HS0 := veil (LeS.new w t)
  clear hin hrg hsm
  generalize leaM 6 t 0 = full at *
  unfold ShT.v ShT.cs at *
  obtain ⟨RL, hRL⟩ : ∃ RL, (if full.length ≤ 2000 then full else []) = RL := ⟨_, rfl⟩
  obtain ⟨RE, hRE⟩ : ∃ RE, (if full.length ≤ 2000 then (0 : Int) else 101) = RE := ⟨_, rfl⟩
  rw [hRL, hRE]
  have HRL := veil hRL
  have HRE := veil hRE
  clear hRL hRE
  refine (callsIn_wide (n := 4)).1 ?_
  refine callsIn_of_wp_marks Try.func24 rfl trivial ?_ rfl
  simp only [Try.ntmps24, List.size_toArray, List.length_cons, List.length_nil, Nat.reduceAdd, Nat.reduceSub, Array.replicate_succ, Array.replicate_zero, List.push_toArray, List.append_toArray, List.nil_append, List.cons_append]
  refine wpIn_wide.2 ?_
  go_upto_region 1 with fail
  generalize (((w.alloc (.cells _ 25)).alloc (.cells #[.slice none 0 0] 30)).alloc (.cells #[.int .i64 0] 27)) = W0 at HS0 ⊢
  obtain ⟨⟨y0, y1, y2, y3, y4, y5, y6⟩, g0, g1, gf0, gf1⟩ := (unveil HS0).cells
  go_wp2_with (first
    | (go_at_call 20; refine (unveil HC _ (unveil HS0)).mono ?_; rintro e W1 ⟨rfl, hb1⟩; have HS1 := veil ((unveil HS0).call hb1); clear hb1; obtain ⟨⟨z0, z1, z2, z3, z4, z5, z6⟩, k0, k1, kf0, kf1⟩ := (unveil HS1).cells; have ltz := (unveil HS1).t.lt)
    | (go_at_call 44; refine (unveil HLA _).mono ?_; rintro e w' ⟨rfl, rfl⟩))
  have HB : Hid (Bk ((W1.alloc (.cells #[.slice none 0 0] 30)).alloc (.cells #[.int .i64 t.sh, .int .i64 t.k, .int .i64 t.n, .slice t.op t.of.length t.oc, .slice t.fp t.fs.length t.fc, .bool t.pk, .int .i64 t.al] 25)) (W1.heap.size + 1) 25 t.cs) := by
    have := Bk.new (W1.alloc (.cells #[.slice none 0 0] 30)) 25 t.cs
    rw [World.size_alloc] at this
    exact this
  have HI0 : Hid (LvI w t W1.heap.size [] ((W1.alloc (.cells #[.slice none 0 0] 30)).alloc (.cells #[.int .i64 t.sh, .int .i64 t.k, .int .i64 t.n, .slice t.op t.of.length t.oc, .slice t.fp t.fs.length t.fc, .bool t.pk, .int .i64 t.al] 25))) :=
    ⟨⟨_, (Bk.new W1 _ _).alloc _, World.ownsRow_nil _ _ _ _⟩, (unveil HS1).call (below_new2 W1 _ _), Nat.zero_le _⟩
  have hz : ((W1.alloc (.cells #[.slice none 0 0] 30)).alloc (.cells #[.int .i64 t.sh, .int .i64 t.k, .int .i64 t.n, .slice t.op t.of.length t.oc, .slice t.fp t.fs.length t.fc, .bool t.pk, .int .i64 t.al] 25)).heap.size = W1.heap.size + 2 := by simp
  have hlw := (unveil HS1).e.lt
  generalize ((W1.alloc (.cells #[.slice none 0 0] 30)).alloc (.cells #[.int .i64 t.sh, .int .i64 t.k, .int .i64 t.n, .slice t.op t.of.length t.oc, .slice t.fp t.fs.length t.fc, .bool t.pk, .int .i64 t.al] 25)) = W2 at *
  have HBE : Hid (Below w.heap.size w W2) := (unveil HI0).2.1.be
  clear HC HLA HS0 HS1 y0 y1 y2 y3 y4 y5 y6 g0 g1 gf0 gf1 z0 z1 z2 z3 z4 z5 z6 k0 k1 kf0 kf1
  refine (wpIn_wide (n := 4)).1 ?_
  refine wpIn_rangeFunc_ownT (T := 4) rfl (by decide) (gf := 72) (lb := #[.pointer (some ⟨W1.heap.size + 1, 0, none⟩)]) rfl trivial (enters_of Try.func72 (by kernel_rfl) rfl)
    (unveil HLS (W1.heap.size + 1) W2 (by omega) (unveil HB) ((unveil HIN).below (unveil HBE))) Kp0.trans (fun W lb o o' hlb hlo ho _ => Kp0.put hlo ho (by omega) o') (fun W o hW => Kp0.below ((Below.refl _ W).alloc (Nat.le_refl _) o) (by omega)) (Below.refl _ _) (fun _ => rfl)
    (LvI w t W1.heap.size) (fun c _ W => LvX w full c W) (LvI.abides w t _ _ (by omega) (by omega)) (fun c => LvX.abides w full _ c (by omega))
    (unveil HI0) (fun x => .cells #[.int .i64 x.bit, .int .i64 x.bits, .int .i64 x.k] 42)
    (fun x B => { tmps := #[.agg #[.int .i64 t.sh, .int .i64 t.k, .int .i64 t.n, .slice t.op t.of.length t.oc, .slice t.fp t.fs.length t.fc, .bool t.pk, .int .i64 t.al], .pointer (some ⟨w.heap.size, 0, none⟩), .pointer (some ⟨w.heap.size + 1, 0, none⟩), .pointer (some ⟨w.heap.size + 1 + 1, 0, none⟩), .int .i64 0, .pointer (some ⟨W1.heap.size, 0, none⟩), .pointer (some ⟨B, 0, none⟩), .agg #[.int .i64 t.sh, .int .i64 t.k, .int .i64 t.n, .slice t.op t.of.length t.oc, .slice t.fp t.fs.length t.fc, .bool t.pk, .int .i64 t.al], .int .i64 0, .int .i64 0, .bool false, undef, .agg #[.int .i64 t.sh, .int .i64 t.k, .int .i64 t.n, .slice t.op t.of.length t.oc, .slice t.fp t.fs.length t.fc, .bool t.pk, .int .i64 t.al], .func (.func 72) #[] #[.pointer (some ⟨W1.heap.size + 1, 0, none⟩)], .agg #[.int .i64 x.bit, .int .i64 x.bits, .int .i64 x.k], undef, undef, undef, undef, undef, undef, undef, undef], defers := [] })
    ?assign ?body ?done ?stop
  case assign =>
    intro l' x W' K hK
    simp only [encS] at hK ⊢
    gi_wp2
    simpa using hK
  case body =>
    rintro l' pre x W3 B hB hxB ⟨⟨v, c0, hrow⟩, oS, hlen⟩ hpre
    have hx : Bk W3 B 42 #[.int .i64 x.bit, .int .i64 x.bits, .int .i64 x.k] := hxB
    obtain ⟨q, cp, rfl⟩ := row_slice hrow
    obtain ⟨m1, m2, m3, m4⟩ := x
    simp only at *
    have x0 := hx.cell 0
    have x1 := hx.cell 1
    have x2 := hx.cell 2
    simp only [List.getElem?_toArray, List.getElem?_cons_zero, List.getElem?_cons_succ] at x0 x1 x2
    have k0 := c0.cell 0
    simp only [List.getElem?_toArray, List.getElem?_cons_zero] at k0
    have hLl := c0.lt
    have HPL := veil hpre.length_le
    have hzW : w.heap.size ≤ W3.heap.size := oS.be.size
    have hBlt := hx.lt
    obtain ⟨⟨y0, y1, y2, y3, y4, y5, y6⟩, g0, g1, gf0, gf1⟩ := oS.cells
    have HOS := veil oS
    have HC0 := veil c0
    have HRW := veil hrow
    have HLN := veil hlen
    have lt1 := oS.a.lt
    have lt2 := oS.e.lt
    clear oS c0 hrow hx hxB hpre hlen
    by_cases h2k : pre.length = 2000
    · have e1 : (((pre.length : Nat) : Int) == 2000) = true := by rw [h2k]; rfl
      have HBG : Hid (¬ full.length ≤ 2000) := by
        have := unveil HPL
        rw [List.length_append] at this
        simp only [List.length_cons, List.length_nil] at this
        show ¬ full.length ≤ 2000
        omega
      clear h2k
      gi_wp2
      have hf := (unveil HOS).fin (.slice none 0 0) (.int .i64 101)
      refine ⟨((KeepsOthers.setCell _ _ _).from _).trans ((KeepsOthers.setCell _ _ _).from _), (Kp0.set (unveil HOS).a (.inl rfl) (by omega) _).trans (Kp0.set ((unveil HOS).e.other _ _ (by omega)) (.inr rfl) (by omega) _), rfl, hf.1, hf.2.1, hf.2.2, unveil HBG⟩
    · have e1 : (((pre.length : Nat) : Int) == 2000) = false := by simp; omega
      have hle2 : pre.length + 1 ≤ 2000 := by have := unveil HLN; omega
      clear h2k
      have hrowa : (W3.alloc (.cells (spC ⟨m1, m2, m3, m4⟩).toArray 42)).ownsRow w.heap.size 42 3 (.slice q pre.length cp) pre.length (spCs pre) := (unveil HRW).alloc _
      obtain ⟨i0, hi, hz0, hz1, hz2'⟩ := info_parts infoSp
      gi_wp2_with (gi_at_builtin; refine wpListIn_append_own _ rfl _ _ 30 rfl w.heap.size 42 i0 _ 3 24 Try.underlying30 hi hz0 hz1 hz2' rfl (by decide) _ _ _ rfl hrowa ⟨W3.heap.size, 0, none⟩ 1 1 (spC ⟨m1, m2, m3, m4⟩) rfl rfl (sp_cells W3 ⟨m1, m2, m3, m4⟩ 42) ?c2 ?c3 ?c4 ?c5 ?_)
      case c2 => intro u hu; simp [spC] at hu; rcases hu with rfl | rfl | rfl <;> rfl
      case c3 => unfold maxLen; omega
      case c4 => omega
      case c5 => simp; omega
      intro v' W5 hown' hgrow _
      obtain ⟨g', cap', rfl⟩ := ownsRow_succS hown'
      have p0 : Bk W5 W1.heap.size 30 #[.slice q pre.length cp] := ((unveil HC0).alloc _).rowG hrowa hgrow (by decide)
      have pS : LeS w W5 t := by
        have h5 := (unveil HOS).call ((Below.refl _ W3).alloc (Nat.le_refl _) (.cells (spC ⟨m1, m2, m3, m4⟩).toArray 42))
        exact ⟨Bk.rowG h5.t hrowa hgrow (by decide), h5.a.rowG hrowa hgrow (by decide), h5.e.rowG hrowa hgrow (by decide), h5.be.grown hgrow (by simp; omega) (fun r e => (row_turnS hrowa r e).1)⟩
      have pkf : KeepsFrom W2.heap.size W3 W5 := ((KeepsOthers.alloc W3 _).from _).trans (KeepsFrom.rowS hrowa hgrow)
      have pk : Kp0 w.heap.size W3 W5 := (Kp0.below ((Below.refl _ W3).alloc (Nat.le_refl _) _) hzW).trans (Kp0.rowG hrowa hgrow (Nat.le_refl _) (by simp; omega))
      have p0c := p0.cell 0
      simp only [List.getElem?_toArray, List.getElem?_cons_zero] at p0c
      have p0f := p0.frozen 0
      clear hi hz0 hz1 hz2' k0 x0 x1 x2
      gi_wp2
      refine ⟨pkf.trans ((KeepsOthers.setCell _ _ _).from _), pk.trans (Kp0.set p0 (.inl rfl) (by omega) _), ⟨_, p0.set 0 _, ?_⟩, ⟨Bk.other pS.t _ _ (by omega), pS.a.other _ _ (by omega), pS.e.other _ _ (by omega), pS.be.setCell (p := ⟨W1.heap.size, 0, none⟩) (by show w.heap.size ≤ W1.heap.size; omega) _⟩, by rw [List.length_append]; exact hle2⟩
      have := ownsRow_setS (i := 0) hown' p0 (by decide) (.slice (some ⟨g', 0, none⟩) (pre.length + 1) cap')
      rw [spCs_snoc, List.length_append]
      exact this
  case done =>
    rintro D' W' hD' ⟨⟨v, c0, hrow⟩, cS, hlen⟩ hK
    obtain ⟨q, cp, rfl⟩ := row_slice hrow
    have d0 := c0.cell 0
    simp only [List.getElem?_toArray, List.getElem?_cons_zero] at d0
    obtain ⟨⟨y0, y1, y2, y3, y4, y5, y6⟩, g0, g1, gf0, gf1⟩ := cS.cells
    have HR := veil hrow
    have HCS := veil cS
    have HKK := veil hK
    obtain ⟨hl1, hl2⟩ : RL = full ∧ RE = 0 := ⟨by rw [← unveil HRL, if_pos hlen], by rw [← unveil HRE, if_pos hlen]⟩
    have lt1 := cS.a.lt
    have lt2 := cS.e.lt
    have HLL := veil hl1
    have HLE := veil hl2
    clear c0 hrow cS hK hlen hl1 hl2 HRL HRE
    go_wp2_with fail
    have hDn1 : D' ≠ w.heap.size + 1 := by omega
    have hDn2 : D' ≠ w.heap.size + 1 + 1 := by omega
    have hKs : ((W'.setCell ⟨w.heap.size + 1, 0, none⟩ (.slice q full.length cp)).setCell ⟨w.heap.size + 1 + 1, 0, none⟩ (.int .i64 0)).heap[D']? = some (.deferred (some [])) := (Below.heap_setCell _ _ _ _ hDn2).trans ((Below.heap_setCell _ _ _ _ hDn1).trans (unveil HKK))
    refine ⟨by simp, .inl ⟨_, _, rfl, run_takeDeferred hKs, ?_⟩⟩
    have hf := (unveil HCS).fin (.slice q full.length cp) (.int .i64 0)
    refine ⟨_, res_ss (f := Try.f24) rfl rfl rfl (hf.1.turn (grownBy_putObj' _ D' _) (fun r e => by cases e; omega)) (hf.2.1.turn (grownBy_putObj' _ D' _) (fun r e => by cases e; omega)), .slice q full.length cp, by rw [unveil HLE], ?_, hf.2.2.grown (grownBy_putObj' _ D' _) hf.2.2.size (fun r e => by cases e; omega)⟩
    rw [unveil HLL]
    exact ownsRow_turnS (ownsRow_setS (ownsRow_setS (unveil HR) (unveil HCS).a (by decide) _) ((unveil HCS).e.other _ _ (by omega)) (by decide) _) (grownBy_putObj' _ D' _) (fun r e cur hc => by cases e; rw [hKs] at hc; cases hc)
  case stop =>
    rintro D' c pre W' hD' _ ⟨rfl, ha, he, hb, hg⟩ hK
    obtain ⟨hl1, hl2⟩ : RL = [] ∧ RE = 101 := ⟨by rw [← unveil HRL, if_neg hg], by rw [← unveil HRE, if_neg hg]⟩
    subst hl1 hl2
    have HKK := veil hK
    clear hK
    gi_wp2
    refine ⟨by simp, .inl ⟨_, _, rfl, run_takeDeferred (unveil HKK), ?_⟩⟩
    exact ⟨_, res_ss (f := Try.f24) rfl rfl rfl (ha.turn (grownBy_putObj' _ D' _) (fun r e => by cases e; omega)) (he.turn (grownBy_putObj' _ D' _) (fun r e => by cases e; omega)), _, rfl, World.ownsRow_nil _ _ _ _, hb.grown (grownBy_putObj' _ D' _) hb.size (fun r e => by cases e; omega)⟩
set_option maxRecDepth 100000 in
set_option maxHeartbeats 8000000 in
theorem Leaves_any (t : ShT) (w : World) (hin : t.In w.heap.size w) :
    Calls Try.prog 24 #[t.v] w fun e w' => MbP w (leaL t).1 (leaL t).2 e w' := by
  have HC : Hid (∀ W, LeS w W t → Calls Try.prog 20 #[t.v] W fun r w' => r = .returned (.int .i64 (chkM t).2) ∧ Below W.heap.size W w') := fun W h => Right_any t W ((hin.below h.be).mono h.be.size)
  unfold leaL
  cases hc : (chkM t).2 == 0
  · simp only [Bool.false_eq_true, if_false]
    have hc' : ((chkM t).2 != 0) = true := by simp only [bne, hc]; rfl
    have HS0 := veil (LeS.new w t)
    clear hin
    generalize (chkM t).2 = C at *
    unfold ShT.v ShT.cs at *
    refine (callsIn_wide (n := 4)).1 ?_
    refine callsIn_of_wp_marks Try.func24 rfl trivial ?_ rfl
    simp only [Try.ntmps24, List.size_toArray, List.length_cons, List.length_nil, Nat.reduceAdd, Nat.reduceSub, Array.replicate_succ, Array.replicate_zero, List.push_toArray, List.append_toArray, List.nil_append, List.cons_append]
    refine wpIn_wide.2 ?_
    go_upto_region 1 with fail
    generalize (((w.alloc (.cells _ 25)).alloc (.cells #[.slice none 0 0] 30)).alloc (.cells #[.int .i64 0] 27)) = W0 at HS0 ⊢
    obtain ⟨⟨y0, y1, y2, y3, y4, y5, y6⟩, g0, g1, gf0, gf1⟩ := (unveil HS0).cells
    go_wp2_with (go_at_call 20; refine (unveil HC _ (unveil HS0)).mono ?_; rintro e W1 ⟨rfl, hb1⟩; have HS1 := veil ((unveil HS0).call hb1); clear hb1; obtain ⟨⟨z0, z1, z2, z3, z4, z5, z6⟩, k0, k1, kf0, kf1⟩ := (unveil HS1).cells; have lt1 := (unveil HS1).a.lt; have lt2 := (unveil HS1).e.lt)
    have hf := (unveil HS1).fin (.slice none 0 0) (.int .i64 C)
    exact ⟨_, res_ss (f := Try.f24) rfl rfl rfl hf.1 hf.2.1, _, rfl, World.ownsRow_nil _ _ _ _, hf.2.2⟩
  · have h0 : (chkM t).2 = 0 := by simpa using hc
    rw [h0] at HC
    have := Leaves_main t w hin (chk_ok hc) (chk_small hc) HC
    simp only [if_true]
    split
    · rename_i h
      rw [if_pos h, if_pos h] at this
      exact this
    · rename_i h
      rw [if_neg h, if_neg h] at this
      exact this
end Go.Proofs.Ytgomlfaekfabpaa
