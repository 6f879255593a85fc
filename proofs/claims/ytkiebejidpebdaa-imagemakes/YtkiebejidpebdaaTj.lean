/-
  burinref11.walk: of an array.
-/
import Derived.Test.YtkiebejidpebdaaTi
namespace Go.Proofs.Ytkiebejidpebdaa
open Go Go.RowKit Go.Shelf
set_option linter.unusedVariables false
set_option linter.unusedSimpArgs false

/-- What walk does along a path. -/
def RwA (path : List Int) : Prop := ∀ (d : Nat) (x : ShT × Int × Int) (fr deep : Int) (p : Option Addr) (cap : Nat) (w : World), d ≤ 6 → RiN d x → x.1.In w.heap.size w → x.1.Len → PaG w.heap.size w p path → path.length ≤ cap → path.length ≤ maxLen → 0 ≤ fr → fr + x.2.2 ≤ 524288 → 0 ≤ deep → deep ≤ 20 - d →
  Calls Try.prog 52 #[x.1.v, .int .i64 fr, .int .i64 deep, .slice p path.length cap] w (RwP w x fr deep path)
theorem elem47 : Try.prog.underlying 47 = some (.slice (Try.prog.elem 47)) := by kernel_rfl
theorem size47 (W : World) : (Go.sizeOf (Try.prog.elem 47)).run Try.prog W = .ok 1 W := by kernel_rfl
theorem sl_tail (g o n cap : Nat) : ∃ q : Addr, (∀ W, (Instr.slice 47 (.slice (some ⟨g, o, none⟩) (n + 1) cap) (some (.int .i64 1)) none none).run Try.prog W = .ok (.slice (some q) n (cap - 1)) W) ∧ (q = ⟨g, o + 1, none⟩ ∨ cap = 1) := by
  by_cases hc : cap = 1
  · refine ⟨⟨g, o, none⟩, fun W => ?_, .inr hc⟩
    rw [run_slice_l W 47 (some ⟨g, o, none⟩) (n + 1) cap elem47 .i64 1 (by omega) (by omega), size47]
    have h1 : (1 : Int).toNat = 1 := rfl
    simp only [Result.andThen, h1, sliced, if_pos hc, Nat.add_sub_cancel]
  · refine ⟨⟨g, o + 1, none⟩, fun W => ?_, .inl rfl⟩
    rw [run_slice_l W 47 (some ⟨g, o, none⟩) (n + 1) cap elem47 .i64 1 (by omega) (by omega), size47]
    have h1 : (1 : Int).toNat = 1 := rfl
    simp only [Result.andThen, h1, sliced, if_neg hc, Option.map_some, Nat.one_mul, Nat.add_sub_cancel]
    rw [add_plainS]
theorem pa_tail {B : Nat} {W : World} {g o cap : Nat} {s : Int} {r : List Int} {q : Addr} (h : PaG B W (some ⟨g, o, none⟩) (s :: r)) (hc : (s :: r).length ≤ cap) (hq : q = ⟨g, o + 1, none⟩ ∨ cap = 1) : PaG B W (some q) r := fun i hi => by
  rcases hq with rfl | rfl
  · obtain ⟨g', o', e, hg, hcell⟩ := h (i + 1) (by simp; omega)
    simp only [Option.some.injEq, Addr.mk.injEq, and_true] at e
    obtain ⟨rfl, rfl⟩ := e
    refine ⟨g, o + 1, rfl, hg, ?_⟩
    rw [show o + 1 + i = o + (i + 1) by omega, hcell]
    rfl
  · simp at hc
    rw [hc] at hi
    exact absurd hi (Nat.not_lt_zero _)
theorem RwP.cons {w w' W : World} {x y : ShT × Int × Int} {fr deep s b : Int} {j : Nat} {r : List Int} {e : Ending} (hst : stpM x s = some (j, y, b)) (hu : (x.1.sh == 5) = false) (hb : Below w.heap.size w W) (h : RwP W y (fr + b) (deep + 1) r e w') : RwP w x fr deep (s :: r) e w' := by
  obtain ⟨a1, a2, a3, q, n, cp, U, he, hr, hbb, hh, hl⟩ := h
  obtain ⟨k1, k2, k3⟩ := okN_yes hst fr r
  refine ⟨a1, a2, a3, q, n, cp, U, by rw [he, k1], ownsRow_baseS hr hb.size, hb.trans (hbb.mono hb.size), fun hok => ?_, by omega⟩
  rw [k1] at hok
  obtain ⟨e1, e2⟩ := hh hok
  refine ⟨by rw [e1, k2], ?_⟩
  rw [k3, e2, uniM]
  simp only [hu, Bool.false_eq_true, if_false, List.nil_append]
theorem RwP.put {w W : World} {x : ShT × Int × Int} {fr deep : Int} {path : List Int} {a1 a2 a3 : Int} {q : Option Addr} {n cp : Nat} {B : Bool} {t : ShT} (h : RwP w x fr deep path (.returned (.tuple #[.agg #[.int .i64 a1, .int .i64 a2, .int .i64 a3], .slice q n cp, .bool B])) W) (hf : FdS w W t) :
    ∀ W', W' = ((W.setCell ⟨w.heap.size + 1, 0, none⟩ (.int .i64 a1)).setCell ⟨w.heap.size + 1, 1, none⟩ (.int .i64 a2)).setCell ⟨w.heap.size + 1, 2, none⟩ (.int .i64 a3) → Bk W' (w.heap.size + 1) 42 #[.int .i64 a1, .int .i64 a2, .int .i64 a3] ∧ RwP w x fr deep path (.returned (.tuple #[.agg #[.int .i64 a1, .int .i64 a2, .int .i64 a3], .slice q n cp, .bool B])) W' := fun W' e => by
  obtain ⟨h1, h2⟩ := hf.fin (.int .i64 a1) (.int .i64 a2) (.int .i64 a3) W' e
  subst e
  obtain ⟨b1, b2, b3, q', n', cp', U, he, hr, hbb, hh⟩ := h
  have z1 : Bk (W.setCell ⟨w.heap.size + 1, 0, none⟩ (.int .i64 a1)) (w.heap.size + 1) 42 #[.int .i64 a1, .int .i64 0, .int .i64 0] := hf.z.set 0 _
  have z2 : Bk ((W.setCell ⟨w.heap.size + 1, 0, none⟩ (.int .i64 a1)).setCell ⟨w.heap.size + 1, 1, none⟩ (.int .i64 a2)) (w.heap.size + 1) 42 #[.int .i64 a1, .int .i64 a2, .int .i64 0] := z1.set 1 _
  exact ⟨h1, b1, b2, b3, q', n', cp', U, he, ownsRow_setS (ownsRow_setS (ownsRow_setS hr hf.z (by decide) _) z1 (by decide) _) z2 (by decide) _, h2, hh⟩
set_option maxRecDepth 100000 in
set_option maxHeartbeats 20000000 in
theorem rwalk_arr (d : Nat) (x : ShT × Int × Int) (fr deep : Int) (p : Option Addr) (cap : Nat) (s : Int) (r : List Int) (w : World) (hd : d ≤ 6) (h : RiN d x) (hin : x.1.In w.heap.size w) (hle : x.1.Len) (hp : PaG w.heap.size w p (s :: r)) (hcap : (s :: r).length ≤ cap) (hpl : (s :: r).length ≤ maxLen) (h0 : 0 ≤ fr) (h1 : fr + x.2.2 ≤ 524288) (hdp0 : 0 ≤ deep) (hdp1 : deep ≤ 20 - d)
    (h3 : (x.1.sh == 3) = true) (hs0 : 0 ≤ s) (ih : RwA r) :
    Calls Try.prog 52 #[x.1.v, .int .i64 fr, .int .i64 deep, .slice p (s :: r).length cap] w (RwP w x fr deep (s :: r)) := by
  obtain ⟨z, a, hz, hz1, hz2, hof⟩ := rw_of hd h hin hle
  have HOF := veil hof
  have HT0 := veil (FdS.new w x.1)
  clear hof
  have h3' : x.1.sh = 3 := by simpa using h3
  have hs1 : (x.1.sh == 1) = false := by rw [h3']; rfl
  have hs2 : (x.1.sh == 2) = false := by rw [h3']; rfl
  have hs5 : (x.1.sh == 5) = false := by rw [h3']; rfl
  obtain ⟨g, o, rfl, hg0, hc0'⟩ := hp 0 (by simp)
  have HPA := veil hp
  have hlt0 : (0 : Int) < ((r.length : Nat) : Int) + 1 := by omega
  have hne : ((((r.length : Nat) : Int) + 1) == 0) = false := by simp; omega
  have hns : ¬ s < 0 := by omega
  simp only [List.getElem_cons_zero, Nat.add_zero] at hc0'
  have HC0 := veil hc0'
  have HG0 := veil hg0
  by_cases hsn : s ≥ x.1.n
  · have hst : stpM x s = none := by unfold stpM; rw [if_pos h3, if_neg hns, if_pos hsn]
    have HPO : Hid (∀ w', Below w.heap.size w w' → RwP w x fr deep (s :: r) (.returned (.tuple #[.agg #[.int .i64 0, .int .i64 0, .int .i64 0], .slice none 0 0, .bool false])) w') := fun w' hb => RwP.no (okN_no hst fr r) hb 0 0 0
    clear hin hle h hp hst hc0' hg0 ih h3'
    obtain ⟨PO, hPO⟩ : ∃ PO, RwP w x fr deep (s :: r) = PO := ⟨_, rfl⟩
    rw [hPO] at HPO ⊢
    clear hPO
    generalize ofL x.1 = OL at *
    generalize x.1 = t at *
    simp only [List.length_cons] at hpl hcap ⊢
    unfold ShT.v ShT.cs at *
    go_enter Try.func52, Try.ntmps52
    go_upto_region 1 with fail
    generalize ((w.alloc (.cells #[.int .i64 t.sh, .int .i64 t.k, .int .i64 t.n, .slice t.op t.of.length t.oc, .slice t.fp t.fs.length t.fc, .bool t.pk, .int .i64 t.al] 25)).alloc (.cells #[.int .i64 0, .int .i64 0, .int .i64 0] 42)) = W0 at HT0 ⊢
    obtain ⟨y0, y1, y2, y3, y4, y5, y6⟩ := (unveil HT0).t.seven
    go_upto_region 2 with (go_at_call 19; refine (unveil HOF _ (unveil HT0).be).mono ?_; rintro e W1 ⟨q1, n1, c1, rfl, hb1, hr1⟩; have HS1 := veil (And.intro (And.intro (RwS.mk (((unveil HT0).below hb1).below ((Below.refl _ W1).alloc (Nat.le_refl _) (.cells (bxC z a false (.slice q1 n1 c1)) 32))) (Bk.new W1 32 (bxC z a false (.slice q1 n1 c1)))) hb1) (ownsRow_belowS hr1 ((Below.refl _ W1).alloc (Nat.le_refl _) (.cells (bxC z a false (.slice q1 n1 c1)) 32)))); clear hb1 hr1)
    clear y0 y1 y2 y3 y4 y5 y6
    unfold bxC at HS1
    have HR1 : Hid (RwS w (W1.alloc (.cells #[.int .i64 z, .int .i64 a, .bool false, .slice q1 n1 c1] 32)) t W1.heap.size z a (.slice q1 n1 c1)) := (unveil HS1).1.1
    have HRW : Hid ((W1.alloc (.cells #[.int .i64 z, .int .i64 a, .bool false, .slice q1 n1 c1] 32)).ownsRow W0.heap.size 42 3 (.slice q1 n1 c1) OL.length (spCs OL)) := (unveil HS1).2
    clear HS1
    generalize (W1.alloc (.cells #[.int .i64 z, .int .i64 a, .bool false, .slice q1 n1 c1] 32)) = W2 at *
    generalize W1.heap.size = BB at *
    obtain ⟨y0, y1, y2, y3, y4, y5, y6⟩ := (unveil HR1).f.t.seven
    obtain ⟨⟨z0, z1, z2⟩, ⟨f0, f1, f2⟩, zl⟩ := (unveil HR1).f.cells
    have b0 : W2.cell? ⟨BB, 0, none⟩ = some (.int .i64 z) := (unveil HR1).b.cell 0
    have bl := (unveil HR1).b.lt
    have hc0 := ((unveil HR1).f.be.cell (p := ⟨g, o, none⟩) (unveil HG0)).trans (unveil HC0)
    have hgl : g < W2.heap.size := Nat.lt_of_lt_of_le (unveil HG0) (unveil HR1).f.be.size
    clear HPA HC0 HG0
    go_wp2_with fail
    all_goals (
      obtain ⟨r1, r2⟩ := (unveil HR1).f.fin (.int .i64 0) (.int .i64 0) (.int .i64 0) _ rfl
      exact bodyPost_ret (res_slb (f := Try.f52) (i := 9) (j := 10) rfl rfl r1 rfl) rfl (unveil HPO _ r2))
  · cases d with
    | zero => have := h.1; cases this
    | succ d =>
    have hrig := rig_form h.1
    have hsn2 : s < x.1.n := by omega
    have hsn3 : decide (s ≥ x.1.n) = false := by simpa using hsn2
    have hn1 := (form_arr hrig.1 h3).2.1
    have hl1 := (form_arr hrig.1 h3).2.2.1
    obtain ⟨y, hy⟩ : ∃ y, x.1.of = [y] := by
      cases e : x.1.of with
      | nil => rw [e] at hl1; cases hl1
      | cons y r => cases r with
        | nil => exact ⟨y, rfl⟩
        | cons z r => rw [e] at hl1; simp at hl1
    have hri := h.arr h3 hy
    have hg : GdN (d + 1) x := .inl h
    have hprt : prtM x = [(y, 0, x.2.2 / x.1.n)] := by unfold prtM; rw [if_pos h3, hy]
    have hst : stpM x s = some (0, (y, 0, x.2.2 / x.1.n), s * (x.2.2 / x.1.n)) := by
      unfold stpM
      rw [if_pos h3, if_neg hns, if_neg hsn, hprt]
      rfl
    have hbb2 : 0 ≤ s * (x.2.2 / x.1.n) ∧ s * (x.2.2 / x.1.n) + x.2.2 / x.1.n ≤ x.2.2 := by
      obtain ⟨_, _, _, _, _, hb0, hb1⟩ := hg.step hd hst
      exact ⟨hb0, hb1⟩
    obtain ⟨hb0, hb1⟩ := hbb2
    obtain ⟨go', oo, hop, hgo, hco, hyin⟩ := hin.of 0 (by rw [hy]; simp)
    have hx0 : x.1.of[0]'(by rw [hy]; simp) = y := by simp [hy]
    rw [hx0] at hco hyin
    have hyl : y.Len := hle.part (by unfold ShT.parts; rw [hy]; simp)
    have hol : x.1.of.length = 1 := by rw [hy]; rfl
    have hq0 : 0 ≤ x.2.2 / x.1.n := by have := mea_pos d y hri.1; have := hri.2.1; simp only at this; omega
    obtain ⟨qa, hsl, hqa⟩ := sl_tail g o r.length cap
    have HIH : Hid (∀ W, Below w.heap.size w W → Calls Try.prog 52 #[y.v, .int .i64 (fr + s * (x.2.2 / x.1.n)), .int .i64 (deep + 1), .slice (some qa) r.length (cap - 1)] W (RwP W (y, 0, x.2.2 / x.1.n) (fr + s * (x.2.2 / x.1.n)) (deep + 1) r)) := fun W hbw =>
      ih d (y, 0, x.2.2 / x.1.n) _ _ (some qa) (cap - 1) W (by omega) hri ((hyin.below hbw).mono hbw.size) hyl ((pa_tail (hp.below hbw) hcap hqa).mono hbw.size) (by simp at hcap; omega) (by simp at hpl; omega) (by omega) (by simp only; omega) (by omega) (by omega)
    have HFIN : Hid (∀ W e w', Below w.heap.size w W → RwP W (y, 0, x.2.2 / x.1.n) (fr + s * (x.2.2 / x.1.n)) (deep + 1) r e w' → ∃ a1 a2 a3 q n cp B, e = .returned (.tuple #[.agg #[.int .i64 a1, .int .i64 a2, .int .i64 a3], .slice q n cp, .bool B]) ∧ Hid (RwP w x fr deep (s :: r) (.returned (.tuple #[.agg #[.int .i64 a1, .int .i64 a2, .int .i64 a3], .slice q n cp, .bool B])) w') ∧ Below W.heap.size W w') := fun W e w' hbw hrw => by
      have hh := RwP.cons hst hs5 hbw hrw
      obtain ⟨a1, a2, a3, q, n, cp, U, he, _, hbb, _⟩ := hrw
      exact ⟨a1, a2, a3, q, n, cp, _, he, by rw [← he]; exact hh, hbb⟩
    obtain ⟨PO, hPO⟩ : ∃ PO, RwP w x fr deep (s :: r) = PO := ⟨_, rfl⟩
    have HPUT : Hid (∀ W a1 a2 a3 q n cp B, FdS w W x.1 → PO (.returned (.tuple #[.agg #[.int .i64 a1, .int .i64 a2, .int .i64 a3], .slice q n cp, .bool B])) W → ∀ W', W' = ((W.setCell ⟨w.heap.size + 1, 0, none⟩ (.int .i64 a1)).setCell ⟨w.heap.size + 1, 1, none⟩ (.int .i64 a2)).setCell ⟨w.heap.size + 1, 2, none⟩ (.int .i64 a3) →
      Bk W' (w.heap.size + 1) 42 #[.int .i64 a1, .int .i64 a2, .int .i64 a3] ∧ PO (.returned (.tuple #[.agg #[.int .i64 a1, .int .i64 a2, .int .i64 a3], .slice q n cp, .bool B])) W') := fun W a1 a2 a3 q n cp B hf hq W' e => by
      rw [← hPO] at hq ⊢
      exact RwP.put hq hf W' e
    rw [hPO] at HFIN ⊢
    have HCO : Hid (∀ W, Below w.heap.size w W → (W.cell? ⟨go', oo, none⟩ = some (.int .i64 y.sh) ∧ W.cell? ⟨go', oo + 1, none⟩ = some (.int .i64 y.k) ∧ W.cell? ⟨go', oo + 2, none⟩ = some (.int .i64 y.n) ∧ W.cell? ⟨go', oo + 3, none⟩ = some (.slice y.op y.of.length y.oc) ∧ W.cell? ⟨go', oo + 4, none⟩ = some (.slice y.fp y.fs.length y.fc) ∧ W.cell? ⟨go', oo + 5, none⟩ = some (.bool y.pk) ∧ W.cell? ⟨go', oo + 6, none⟩ = some (.int .i64 y.al)) ∧ go' < W.heap.size) := fun W hbw => by
      have hc2 : ∀ (j : Nat), j < 7 → W.cell? ⟨go', oo + j, none⟩ = y.cs[j]? := fun j hj => (hbw.cell (p := ⟨go', oo + j, none⟩) hgo).trans (by simpa using hco j hj)
      exact ⟨seven hc2, Nat.lt_of_lt_of_le hgo hbw.size⟩
    have HNZ : Hid (¬ x.1.n = 0) := by show ¬ x.1.n = 0; omega
    have h8z : 8 * z ≤ 524288 := by omega
    obtain ⟨Q, hQ⟩ : ∃ Q, x.2.2 / x.1.n = Q := ⟨_, rfl⟩
    rw [hQ] at HIH HFIN hb0 hb1 hq0
    have hn1' : 1 ≤ x.1.n := hn1
    have hQ2 : (8 * z).tdiv x.1.n = Q := by rw [Int.tdiv_eq_ediv_of_nonneg (by omega), ← hz, hQ]
    have hQle : Q ≤ 524288 := by
      have := Int.ediv_le_self x.1.n (a := x.2.2) (by omega)
      omega
    have hw8 : IntKind.i64.wrap (8 * z) = 8 * z := by rw [IntKind.wrap_i64]; omega
    have hwQ : IntKind.i64.wrap ((8 * z).tdiv x.1.n) = Q := by rw [hQ2, IntKind.wrap_i64]; omega
    have hcm : Q * s = s * Q := Int.mul_comm Q s
    have hwM : IntKind.i64.wrap (Q * s) = s * Q := by rw [hcm, IntKind.wrap_i64]; omega
    have hwA : IntKind.i64.wrap (fr + s * Q) = fr + s * Q := by rw [IntKind.wrap_i64]; omega
    have hwD : IntKind.i64.wrap (deep + 1) = deep + 1 := by rw [IntKind.wrap_i64]; omega
    have HWS := veil (And.intro hw8 (And.intro hwQ (And.intro hwM (And.intro hwA hwD))))
    have HOP := veil (And.intro hop hol)
    have HSL := veil hsl
    clear hw8 hwQ hwM hwA hwD hop hsl
    clear hPO hQ hQ2 hcm hol hin hle hp hst hc0' hg0 ih h3' hn1' hx0 hco hyin hyl hprt hg hri hy hl1 hrig h hz hgo hqa hn1 hq0 hQle h8z
    generalize ofL x.1 = OL at *
    generalize x.1 = t at *
    simp only [List.length_cons] at hpl hcap ⊢
    have HYV : Hid (y.v = .agg #[.int .i64 y.sh, .int .i64 y.k, .int .i64 y.n, .slice y.op y.of.length y.oc, .slice y.fp y.fs.length y.fc, .bool y.pk, .int .i64 y.al]) := rfl
    rw [unveil HYV] at HIH
    unfold ShT.v ShT.cs at *
    go_enter Try.func52, Try.ntmps52
    go_upto_region 1 with fail
    generalize ((w.alloc (.cells #[.int .i64 t.sh, .int .i64 t.k, .int .i64 t.n, .slice t.op t.of.length t.oc, .slice t.fp t.fs.length t.fc, .bool t.pk, .int .i64 t.al] 25)).alloc (.cells #[.int .i64 0, .int .i64 0, .int .i64 0] 42)) = W0 at HT0 ⊢
    obtain ⟨y0, y1, y2, y3, y4, y5, y6⟩ := (unveil HT0).t.seven
    go_upto_region 2 with (go_at_call 19; refine (unveil HOF _ (unveil HT0).be).mono ?_; rintro e W1 ⟨q1, n1, c1, rfl, hb1, hr1⟩; have HS1 := veil (And.intro (And.intro (RwS.mk (((unveil HT0).below hb1).below ((Below.refl _ W1).alloc (Nat.le_refl _) (.cells (bxC z a false (.slice q1 n1 c1)) 32))) (Bk.new W1 32 (bxC z a false (.slice q1 n1 c1)))) hb1) (ownsRow_belowS hr1 ((Below.refl _ W1).alloc (Nat.le_refl _) (.cells (bxC z a false (.slice q1 n1 c1)) 32)))); clear hb1 hr1)
    clear y0 y1 y2 y3 y4 y5 y6
    unfold bxC at HS1
    have HR1 : Hid (RwS w (W1.alloc (.cells #[.int .i64 z, .int .i64 a, .bool false, .slice q1 n1 c1] 32)) t W1.heap.size z a (.slice q1 n1 c1)) := (unveil HS1).1.1
    have HRW : Hid ((W1.alloc (.cells #[.int .i64 z, .int .i64 a, .bool false, .slice q1 n1 c1] 32)).ownsRow W0.heap.size 42 3 (.slice q1 n1 c1) OL.length (spCs OL)) := (unveil HS1).2
    clear HS1
    generalize (W1.alloc (.cells #[.int .i64 z, .int .i64 a, .bool false, .slice q1 n1 c1] 32)) = W2 at *
    generalize W1.heap.size = BB at *
    obtain ⟨y0, y1, y2, y3, y4, y5, y6⟩ := (unveil HR1).f.t.seven
    obtain ⟨⟨z0, z1, z2⟩, ⟨f0, f1, f2⟩, zl⟩ := (unveil HR1).f.cells
    have b0 : W2.cell? ⟨BB, 0, none⟩ = some (.int .i64 z) := (unveil HR1).b.cell 0
    have bl := (unveil HR1).b.lt
    have hc0 := ((unveil HR1).f.be.cell (p := ⟨g, o, none⟩) (unveil HG0)).trans (unveil HC0)
    have hgl : g < W2.heap.size := Nat.lt_of_lt_of_le (unveil HG0) (unveil HR1).f.be.size
    rw [(unveil HOP).1, (unveil HOP).2] at y3
    clear HPA HC0 HG0 hcap hpl h0 h1 hdp0 hdp1 hb0 hb1
    go_upto_region 13 with fail
    obtain ⟨hw8, hwQ, hwM, hwA, hwD⟩ := unveil HWS
    have HS2 : Hid (RwS w W2.drew t BB z a (.slice q1 n1 c1)) := (unveil HR1).below (Below.refl _ W2).drew
    have HB2 : Hid (Below w.heap.size w W2.drew) := (unveil HS2).f.be
    have hsl := unveil HSL
    have HY7 : Hid (W2.drew.cell? ⟨w.heap.size, 3, none⟩ = some (.slice (some ⟨go', oo, none⟩) 1 t.oc)) := by
      have := (unveil HS2).f.t.seven.2.2.2.1
      rw [(unveil HOP).1, (unveil HOP).2] at this
      exact this
    refine wp_region_noPanic (wpIn_wide.1 (wpIn_region_mix (ro := none) (n := 0) (fun w' => Hid (Below W2.drew.heap.size W2.drew w'))
      [(0, true), (1, true), (2, true), (3, true), (4, true), (5, true), (6, true), (7, true), (8, true), (9, true), (10, true), (11, true), (12, true), (13, true), (14, true), (15, true), (16, true), (17, true), (18, false), (19, true), (20, true), (21, true)]
      22 hmixN (by kernel_rfl) (by kernel_rfl) (by kernel_rfl) (by kernel_rfl) (by kernel_rfl) (by kernel_rfl) (fun _ _ _ _ h => h) (veil (Below.refl _ _)) ?_))
    have HCELL : Hid (∀ W, Hid (Below W2.drew.heap.size W2.drew W) → (W.cell? ⟨w.heap.size, 3, none⟩ = some (.slice (some ⟨go', oo, none⟩) 1 t.oc) ∧ W.cell? ⟨w.heap.size, 2, none⟩ = some (.int .i64 t.n) ∧ W.cell? ⟨BB, 0, none⟩ = some (.int .i64 z)) ∧
      (W.cell? ⟨go', oo, none⟩ = some (.int .i64 y.sh) ∧ W.cell? ⟨go', oo + 1, none⟩ = some (.int .i64 y.k) ∧ W.cell? ⟨go', oo + 2, none⟩ = some (.int .i64 y.n) ∧ W.cell? ⟨go', oo + 3, none⟩ = some (.slice y.op y.of.length y.oc) ∧ W.cell? ⟨go', oo + 4, none⟩ = some (.slice y.fp y.fs.length y.fc) ∧ W.cell? ⟨go', oo + 5, none⟩ = some (.bool y.pk) ∧ W.cell? ⟨go', oo + 6, none⟩ = some (.int .i64 y.al))) := fun W hS => by
      have h1 := (unveil HS2).below (unveil hS)
      refine ⟨⟨?_, h1.f.t.seven.2.2.1, h1.b.cell 0⟩, (unveil HCO W h1.f.be).1⟩
      have := h1.f.t.seven.2.2.2.1
      rw [(unveil HOP).1, (unveil HOP).2] at this
      exact this
    clear y0 y1 y2 y3 y4 y5 y6 z0 z1 z2 f0 f1 f2 b0 hc0
    iterate 7 (
      refine mix_pure _ rfl _ (.inl ⟨rfl, fun W hS => (by obtain ⟨⟨x3, x2, xb⟩, u0, u1, u2, u3, u4, u5, u6⟩ := unveil HCELL W hS; go_simp; rfl)⟩) (fun B hB => ?_); simp only [Act.put, List.setIfInBounds_toArray, List.set_cons_zero, List.set_cons_succ] at hB; subst hB)
    refine mix_pure _ rfl (.int .i64 (8 * z)) (.inl ⟨rfl, fun W hS => (by go_simp)⟩) (fun B hB => ?_); simp only [Act.put, List.setIfInBounds_toArray, List.set_cons_zero, List.set_cons_succ] at hB; subst hB
    iterate 2 (
      refine mix_pure _ rfl _ (.inl ⟨rfl, fun W hS => (by obtain ⟨⟨x3, x2, xb⟩, u0, u1, u2, u3, u4, u5, u6⟩ := unveil HCELL W hS; go_simp; rfl)⟩) (fun B hB => ?_); simp only [Act.put, List.setIfInBounds_toArray, List.set_cons_zero, List.set_cons_succ] at hB; subst hB)
    refine mix_pure _ rfl (.int .i64 Q) (.inl ⟨rfl, fun W hS => (by go_simp; exact unveil HNZ)⟩) (fun B hB => ?_); simp only [Act.put, List.setIfInBounds_toArray, List.set_cons_zero, List.set_cons_succ] at hB; subst hB
    refine mix_pure _ rfl _ (.inl ⟨rfl, fun W hS => (by go_simp; rfl)⟩) (fun B hB => ?_); simp only [Act.put, List.setIfInBounds_toArray, List.set_cons_zero, List.set_cons_succ] at hB; subst hB
    refine mix_pure _ rfl (.int .i64 (s * Q)) (.inl ⟨rfl, fun W hS => (by go_simp)⟩) (fun B hB => ?_); simp only [Act.put, List.setIfInBounds_toArray, List.set_cons_zero, List.set_cons_succ] at hB; subst hB
    refine mix_pure _ rfl (.int .i64 (fr + s * Q)) (.inl ⟨rfl, fun W hS => (by go_simp)⟩) (fun B hB => ?_); simp only [Act.put, List.setIfInBounds_toArray, List.set_cons_zero, List.set_cons_succ] at hB; subst hB
    refine mix_pure _ rfl _ (.inl ⟨rfl, fun W hS => (by go_simp; rfl)⟩) (fun B hB => ?_); simp only [Act.put, List.setIfInBounds_toArray, List.set_cons_zero, List.set_cons_succ] at hB; subst hB
    refine mix_pure _ rfl (.int .i64 (deep + 1)) (.inl ⟨rfl, fun W hS => (by go_simp)⟩) (fun B hB => ?_); simp only [Act.put, List.setIfInBounds_toArray, List.set_cons_zero, List.set_cons_succ] at hB; subst hB
    refine mix_pure _ rfl _ (.inl ⟨rfl, fun W hS => (by go_simp; rfl)⟩) (fun B hB => ?_); simp only [Act.put, List.setIfInBounds_toArray, List.set_cons_zero, List.set_cons_succ] at hB; subst hB
    refine mix_pure _ rfl (.slice (some qa) r.length (cap - 1)) (.inl ⟨rfl, fun W hS => (by go_simp)⟩) (fun B hB => ?_); simp only [Act.put, List.setIfInBounds_toArray, List.set_cons_zero, List.set_cons_succ] at hB; subst hB
    refine mix_sole _ rfl (fun K hK => ?_)
    go_simp
    refine ⟨trivial, rfl, (callsIn_wide.2 (unveil HIH _ (unveil HB2))).mono ?_⟩
    intro e W9 hrw
    obtain ⟨a1, a2, a3, q9, n9, cp9, B9, rfl, hpo, hb9⟩ := unveil HFIN _ e W9 (unveil HB2) hrw
    have HS9 := veil ((unveil HS2).below hb9)
    have HP9 := veil (unveil hpo)
    refine hK _ _ (veil hb9) ?_
    clear hK K hrw hpo hb9
    iterate 3 (
      refine mix_pure _ rfl _ (.inl ⟨rfl, fun W hS => (by go_simp; rfl)⟩) (fun B hB => ?_); simp only [Act.put, List.setIfInBounds_toArray, List.set_cons_zero, List.set_cons_succ] at hB; subst hB)
    refine mix_nil ?_
    obtain ⟨⟨z0, z1, z2⟩, ⟨f0, f1, f2⟩, zl⟩ := (unveil HS9).f.cells
    iterate 2 (
      refine wpListIn_plain rfl (fun K hK => ?_)
      go_simp
      refine hK _ _ ?_
      clear hK K)
    refine listIn_last rfl (fun K hK => ?_)
    go_simp
    refine hK _ _ ?_
    clear hK K
    go_wp2_with fail
    obtain ⟨r1, r2⟩ := unveil HPUT _ a1 a2 a3 q9 n9 cp9 B9 (unveil HS9).f (unveil HP9) _ rfl
    exact bodyPost_ret (res_slb (f := Try.f52) (i := 9) (j := 10) rfl rfl r1 rfl) rfl r2
end Go.Proofs.Ytkiebejidpebdaa
