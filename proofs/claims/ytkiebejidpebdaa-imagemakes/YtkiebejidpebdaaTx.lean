/-
  burinref11.walk: of members.
-/
import Derived.Test.YtkiebejidpebdaaTw
import Derived.Test.YtkiebejidpebdaaNc
namespace Go.Proofs.Ytkiebejidpebdaa
open Go Go.RowKit Go.Shelf
set_option linter.unusedVariables false
set_option linter.unusedSimpArgs false
theorem us_new (W : World) (f z d s : Int) : (W.alloc (.cells #[.int .i64 f, .int .i64 z, .int .i64 d, .int .i64 s] 103)).ownsRow W.heap.size 103 4 (.slice (some ⟨W.heap.size, 0, none⟩) 1 1) 1 (usCs [(f, z, d, s)]) :=
  ⟨rfl, .inr ⟨W.heap.size, 1, _, rfl, Nat.le_refl _, World.alloc_heap_new _ _, Nat.le_refl _, by unfold maxLen; decide, rfl, rfl⟩⟩
set_option maxRecDepth 100000 in
set_option maxHeartbeats 20000000 in
theorem rwalk_mem (d : Nat) (x : ShT × Int × Int) (fr deep : Int) (p : Option Addr) (cap : Nat) (s : Int) (r : List Int) (w : World) (hd : d ≤ 6) (h : RiN d x) (hin : x.1.In w.heap.size w) (hle : x.1.Len) (hp : PaG w.heap.size w p (s :: r)) (hcap : (s :: r).length ≤ cap) (hpl : (s :: r).length ≤ maxLen) (h0 : 0 ≤ fr) (h1 : fr + x.2.2 ≤ 524288) (hdp0 : 0 ≤ deep) (hdp1 : deep ≤ 20 - d)
    (hsh : x.1.sh = 4 ∨ x.1.sh = 5) (hs0 : 0 ≤ s) (ih : RwA r) :
    Calls Try.prog 52 #[x.1.v, .int .i64 fr, .int .i64 deep, .slice p (s :: r).length cap] w (RwP w x fr deep (s :: r)) := by
  obtain ⟨z, a, hz, hz1, hz2, hof⟩ := rw_of hd h hin hle
  have HOF := veil hof
  have HT0 := veil (FdS.new w x.1)
  clear hof
  have hs1 : (x.1.sh == 1) = false := by simp; omega
  have hs2 : (x.1.sh == 2) = false := by simp; omega
  have h3 : (x.1.sh == 3) = false := by simp; omega
  obtain ⟨g, o, rfl, hg0, hc0'⟩ := hp 0 (by simp)
  have HPA := veil hp
  have hlt0 : (0 : Int) < ((r.length : Nat) : Int) + 1 := by omega
  have hne : ((((r.length : Nat) : Int) + 1) == 0) = false := by simp; omega
  have hns : ¬ s < 0 := by omega
  simp only [List.getElem_cons_zero, Nat.add_zero] at hc0'
  have HC0 := veil hc0'
  have HG0 := veil hg0
  by_cases hsn : s ≥ x.1.fs.length
  · have hst : stpM x s = none := stp_out hsh hsn
    have HPO : Hid (∀ w', Below w.heap.size w w' → RwP w x fr deep (s :: r) (.returned (.tuple #[.agg #[.int .i64 0, .int .i64 0, .int .i64 0], .slice none 0 0, .bool false])) w') := fun w' hb => RwP.no (okN_no hst fr r) hb 0 0 0
    clear hin hle h hp hst hc0' hg0 ih hsh
    obtain ⟨PO, hPO⟩ : ∃ PO, RwP w x fr deep (s :: r) = PO := ⟨_, rfl⟩
    rw [hPO] at HPO ⊢
    clear hPO
    generalize ofL x.1 = OL at *
    generalize x.1 = t at *
    simp only [List.length_cons] at hpl hcap ⊢
    unfold ShT.v ShT.cs at *
    go_enter Try.func52, Try.ntmps52
    go_upto_region 1 with fail
    generalize ((w.alloc (.cells #[.int .i64 t.sh, .int .i64 t.k, .int .i64 t.n, .slice t.op t.of.length t.oc, .slice t.fp t.fs.length t.fc, .bool t.pk, .int .i64 t.al] 25)).alloc (.cells #[.int .i64 0, .int .i64 0, .int .i64 0] 42)) = W0 at HT0 ⊢
    obtain ⟨y0, y1, y2, y3, y4, y5, y6⟩ := (unveil HT0).t.seven
    go_upto_region 2 with (go_at_call 19; refine (unveil HOF _ (unveil HT0).be).mono ?_; rintro e W1 ⟨q1, n1, c1, rfl, hb1, hr1⟩; have HS1 := veil (And.intro (And.intro (RwS.mk (((unveil HT0).below hb1).below ((Below.refl _ W1).alloc (Nat.le_refl _) (.cells (bxC z a false (.slice q1 n1 c1)) 32))) (Bk.new W1 32 (bxC z a false (.slice q1 n1 c1)))) hb1) (ownsRow_belowS hr1 ((Below.refl _ W1).alloc (Nat.le_refl _) (.cells (bxC z a false (.slice q1 n1 c1)) 32)))); clear hb1 hr1)
    clear y0 y1 y2 y3 y4 y5 y6
    unfold bxC at HS1
    have HR1 : Hid (RwS w (W1.alloc (.cells #[.int .i64 z, .int .i64 a, .bool false, .slice q1 n1 c1] 32)) t W1.heap.size z a (.slice q1 n1 c1)) := (unveil HS1).1.1
    have HRW : Hid ((W1.alloc (.cells #[.int .i64 z, .int .i64 a, .bool false, .slice q1 n1 c1] 32)).ownsRow W0.heap.size 42 3 (.slice q1 n1 c1) OL.length (spCs OL)) := (unveil HS1).2
    clear HS1
    generalize (W1.alloc (.cells #[.int .i64 z, .int .i64 a, .bool false, .slice q1 n1 c1] 32)) = W2 at *
    generalize W1.heap.size = BB at *
    obtain ⟨y0, y1, y2, y3, y4, y5, y6⟩ := (unveil HR1).f.t.seven
    obtain ⟨⟨z0, z1, z2⟩, ⟨f0, f1, f2⟩, zl⟩ := (unveil HR1).f.cells
    have b0 : W2.cell? ⟨BB, 0, none⟩ = some (.int .i64 z) := (unveil HR1).b.cell 0
    have bl := (unveil HR1).b.lt
    have hc0 := ((unveil HR1).f.be.cell (p := ⟨g, o, none⟩) (unveil HG0)).trans (unveil HC0)
    have hgl : g < W2.heap.size := Nat.lt_of_lt_of_le (unveil HG0) (unveil HR1).f.be.size
    clear HPA HC0 HG0
    go_wp2_with fail
    all_goals (
      obtain ⟨r1, r2⟩ := (unveil HR1).f.fin (.int .i64 0) (.int .i64 0) (.int .i64 0) _ rfl
      exact bodyPost_ret (res_slb (f := Try.f52) (i := 9) (j := 10) rfl rfl r1 rfl) rfl (unveil HPO _ r2))
  · cases d with
    | zero => have := h.1; cases this
    | succ d =>
    obtain ⟨k, rfl⟩ : ∃ k : Nat, s = (k : Int) := ⟨s.toNat, by omega⟩
    have hk : k < x.1.fs.length := by omega
    have hsn2 : ¬ ((k : Int) ≥ (x.1.fs.length : Int)) := by omega
    obtain ⟨zm, m1, m2, m3, m4, m5, m6, m7⟩ := mem_at rfl (by omega) h hsh hk
    obtain ⟨hko, hkz⟩ := List.getElem?_eq_some_iff.1 m1
    obtain ⟨gf, of', hfp, hgf, hcf, _, hfin⟩ := hin.fs k hk
    have hyl : x.1.fs[k].t.Len := hle.part (fs_part (List.getElem_mem hk))
    obtain ⟨qa, hsl, hqa⟩ := sl_tail g o r.length cap
    have hst := stp_mem hsh hk m3
    have HBF : Hid (∀ (W : World) (q : Option Addr) (n cp : Nat), ¬ x.1.fs[k].bits < 0 → W.ownsRow w.heap.size 103 4 (.slice q n cp) (ownU x fr deep k).length (usCs (ownU x fr deep k)) → Below w.heap.size w W →
      RwP w x fr deep (k :: r) (.returned (.tuple #[.agg #[.int .i64 (fr + zm.bit), .int .i64 zm.bits, .int .i64 zm.k], .slice q n cp, .bool (decide (0 < x.1.fs[k].bits) && ((r.length : Int) + 1 == 1))])) W) := fun W q n cp hb ho hbe => RwP.bitf hsh hk hb m3 m5 ho hbe (by omega)
    have HIH : Hid (x.1.fs[k].bits < 0 → ∀ W, Below w.heap.size w W → Calls Try.prog 52 #[x.1.fs[k].t.v, .int .i64 (fr + zm.bit), .int .i64 (deep + 1), .slice (some qa) r.length (cap - 1)] W (fun e w' => ∃ (a1 a2 a3 : Int) (q : Option Addr) (n cp : Nat) (U : List (Int × Int × Int × Int)), e = .returned (.tuple #[.agg #[.int .i64 a1, .int .i64 a2, .int .i64 a3], .slice q n cp, .bool (okN (x.1.fs[k].t, zm.bit, zm.bits) (fr + zm.bit) r)]) ∧ w'.ownsRow W.heap.size 103 4 (.slice q n cp) U.length (usCs U) ∧ Below W.heap.size W w' ∧ U.length ≤ 20 ∧
      ∀ (W' : World) (q' : Option Addr) (n' cp' : Nat), W'.ownsRow w.heap.size 103 4 (.slice q' n' cp') (ownU x fr deep k ++ U).length (usCs (ownU x fr deep k ++ U)) → Below w.heap.size w W' →
        RwP w x fr deep (k :: r) (.returned (.tuple #[.agg #[.int .i64 a1, .int .i64 a2, .int .i64 a3], .slice q' n' cp', .bool (okN (x.1.fs[k].t, zm.bit, zm.bits) (fr + zm.bit) r)])) W')) := fun hb W hbw => by
      refine (ih d (x.1.fs[k].t, zm.bit, zm.bits) _ _ (some qa) (cap - 1) W (by omega) (m4 hb) ((hfin.below hbw).mono hbw.size) hyl ((pa_tail (hp.below hbw) hcap hqa).mono hbw.size) (by simp at hcap; omega) (by simp at hpl; omega) (by omega) (by simp only; omega) (by omega) (by omega)).mono ?_
      rintro e w' ⟨a1, a2, a3, q, n, cp, U, he, hr, hbb, hh, hl⟩
      rw [if_neg (by omega)] at hst
      exact ⟨a1, a2, a3, q, n, cp, U, he, hr, hbb, by omega, fun W' q' n' cp' ho hbe => RwP.whole hst rfl hh ho hbe hdp0 (by omega) hl⟩
    have HOL : Hid ((ownU x fr deep k).length ≤ 1) := own_le _ _ _ _
    have HCF : Hid (∀ W, Below w.heap.size w W → (∀ (j : Nat), j < 9 → W.cell? ⟨gf, of' + k * 9 + j, none⟩ = x.1.fs[k].cs[j]?) ∧ gf < W.heap.size) := fun W hb => ⟨fun j hj => (hb.cell (p := ⟨gf, of' + k * 9 + j, none⟩) hgf).trans (hcf j hj), Nat.lt_of_lt_of_le hgf hb.size⟩
    have HOU : Hid (ownU x fr deep k = if x.1.sh == 5 then [(fr / 8, z, deep, (k : Int))] else []) := by
      have : x.2.2 / 8 = z := by omega
      show ownU x fr deep k = _
      unfold ownU
      rw [this]
    have hzb : 0 ≤ zm.bits := m7
    have hv8 : (fr.tdiv 8) = fr / 8 := Int.tdiv_eq_ediv_of_nonneg h0
    obtain ⟨PO, hPO⟩ : ∃ PO, RwP w x fr deep ((k : Int) :: r) = PO := ⟨_, rfl⟩
    rw [hPO] at HBF HIH ⊢
    have HSL := veil hsl
    have HFP := veil hfp
    have HV8 := veil hv8
    have HZB := veil (And.intro m2 (And.intro m6 (And.intro hzb (And.intro h0 (And.intro h1 (And.intro hdp0 (And.intro hdp1 (And.intro hz1 (And.intro hz2 hz)))))))))
    have HSH := veil hsh
    have HKF := veil (And.intro hk hsn)
    clear hfp hv8 m2 m6 m7 hzb h0 h1 hdp0 hdp1 hz1 hz2
    clear hsh hsl hPO hin hle h hp hst hc0' hg0 ih hz m3 m4 m5 hyl hfin hcf hgf hqa
    have HROW : Hid (∀ (W : World) (base : Nat) (q : Option Addr) (n c : Nat), W.ownsRow base 42 3 (.slice q n c) (ofL x.1).length (spCs (ofL x.1)) → n = (ofL x.1).length ∧ k < n ∧ ∃ gs, q = some ⟨gs, 0, none⟩ ∧ gs < W.heap.size ∧ W.cell? ⟨gs, k * 3, none⟩ = some (.int .i64 zm.bit) ∧ W.cell? ⟨gs, k * 3 + 1, none⟩ = some (.int .i64 zm.bits) ∧ W.cell? ⟨gs, k * 3 + 2, none⟩ = some (.int .i64 zm.k)) := fun W base q n c hr => by
      obtain ⟨e1, e2, gs, e3, _, e4, c0, c1, c2⟩ := row_at hr hko
      rw [hkz] at c0 c1 c2
      exact ⟨e1, by omega, gs, e3, e4, c0, c1, c2⟩
    clear m1 hkz hko
    generalize ofL x.1 = OL at *
    generalize ownU x fr deep k = OU at *
    generalize okN (x.1.fs[k].t, zm.bit, zm.bits) (fr + zm.bit) r = OKY at *
    generalize x.1.fs[k] = f at *
    clear hk hsn
    generalize x.1 = t at *
    simp only [List.length_cons] at hpl hcap ⊢
    have HYV : Hid (f.t.v = .agg #[.int .i64 f.t.sh, .int .i64 f.t.k, .int .i64 f.t.n, .slice f.t.op f.t.of.length f.t.oc, .slice f.t.fp f.t.fs.length f.t.fc, .bool f.t.pk, .int .i64 f.t.al]) := rfl
    rw [unveil HYV] at HIH
    unfold ShT.v ShT.cs at *
    go_enter Try.func52, Try.ntmps52
    go_upto_region 1 with fail
    generalize ((w.alloc (.cells #[.int .i64 t.sh, .int .i64 t.k, .int .i64 t.n, .slice t.op t.of.length t.oc, .slice t.fp t.fs.length t.fc, .bool t.pk, .int .i64 t.al] 25)).alloc (.cells #[.int .i64 0, .int .i64 0, .int .i64 0] 42)) = W0 at HT0 ⊢
    obtain ⟨y0, y1, y2, y3, y4, y5, y6⟩ := (unveil HT0).t.seven
    go_upto_region 2 with (go_at_call 19; refine (unveil HOF _ (unveil HT0).be).mono ?_; rintro e W1 ⟨q1, n1, c1, rfl, hb1, hr1⟩; have HS1 := veil (And.intro (And.intro (RwS.mk (((unveil HT0).below hb1).below ((Below.refl _ W1).alloc (Nat.le_refl _) (.cells (bxC z a false (.slice q1 n1 c1)) 32))) (Bk.new W1 32 (bxC z a false (.slice q1 n1 c1)))) hb1) (ownsRow_belowS hr1 ((Below.refl _ W1).alloc (Nat.le_refl _) (.cells (bxC z a false (.slice q1 n1 c1)) 32)))); clear hb1 hr1)
    clear y0 y1 y2 y3 y4 y5 y6
    unfold bxC at HS1
    have HR1 : Hid (RwS w (W1.alloc (.cells #[.int .i64 z, .int .i64 a, .bool false, .slice q1 n1 c1] 32)) t W1.heap.size z a (.slice q1 n1 c1)) := (unveil HS1).1.1
    have HRW : Hid ((W1.alloc (.cells #[.int .i64 z, .int .i64 a, .bool false, .slice q1 n1 c1] 32)).ownsRow W0.heap.size 42 3 (.slice q1 n1 c1) OL.length (spCs OL)) := (unveil HS1).2
    clear HS1
    generalize (W1.alloc (.cells #[.int .i64 z, .int .i64 a, .bool false, .slice q1 n1 c1] 32)) = W2 at *
    generalize W1.heap.size = BB at *
    obtain ⟨y0, y1, y2, y3, y4, y5, y6⟩ := (unveil HR1).f.t.seven
    obtain ⟨⟨z0, z1, z2⟩, ⟨f0, f1, f2⟩, zl⟩ := (unveil HR1).f.cells
    have b0 : W2.cell? ⟨BB, 0, none⟩ = some (.int .i64 z) := (unveil HR1).b.cell 0
    have bl := (unveil HR1).b.lt
    have hc0 := ((unveil HR1).f.be.cell (p := ⟨g, o, none⟩) (unveil HG0)).trans (unveil HC0)
    have hgl : g < W2.heap.size := Nat.lt_of_lt_of_le (unveil HG0) (unveil HR1).f.be.size
    obtain ⟨rfl, w1, gs, rfl, hgs, s0, s1, s2⟩ := unveil HROW _ _ _ _ _ (unveil HRW)
    have HSP := veil (And.intro s0 (And.intro s1 (And.intro s2 hgs)))
    clear s0 s1 s2 HROW HRW
    have b3 : W2.cell? ⟨BB, 3, none⟩ = some (.slice (some ⟨gs, 0, none⟩) OL.length c1) := (unveil HR1).b.cell 3
    have hkl : ¬ ((k : Int) ≥ (t.fs.length : Int)) := by have := (unveil HKF).2; omega
    have hkg : decide ((k : Int) ≥ (t.fs.length : Int)) = false := by simpa using hkl
    clear HOF hsn2
    rw [unveil HFP] at y4
    go_upto_region 14 with fail
    go_upto_if 99 with fail
    have hwQ : IntKind.i64.wrap (fr.tdiv 8) = fr / 8 := by
      rw [unveil HV8, IntKind.wrap_i64]
      obtain ⟨_, _, _, q0, q1, _, _, q2, q3, q4⟩ := unveil HZB
      omega
    have HWQ := veil hwQ
    clear hwQ
    go_cut [15] from 97 to 154 (fun ov wx => ∃ (q : Option Addr) (n cp : Nat), ov = .slice q n cp ∧ Hid (wx.ownsRow w.heap.size 103 4 (.slice q n cp) OU.length (usCs OU)) ∧ Below W2.heap.size W2 wx)
    case first =>
      cases h5 : t.sh == 5
      · have HOO : Hid (OU = []) := by rw [Hid, unveil HOU, h5]; rfl
        go_wp2_with fail
        go_meet
        case rel => exact ⟨none, 0, 0, rfl, by rw [unveil HOO]; exact World.ownsRow_nil _ _ _ _, Below.refl _ _⟩
      · have HOO : Hid (OU = [(fr / 8, z, deep, (k : Int))]) := by rw [Hid, unveil HOU, h5]; rfl
        have hwQ := unveil HWQ
        go_wp2_with fail
        go_meet
        case rel => exact ⟨_, _, _, rfl, by rw [unveil HOO]; exact ownsRow_baseS (us_new W2 (fr / 8) z deep k) (unveil HR1).f.be.size, (Below.refl _ _).alloc (Nat.le_refl _) _⟩
    case rest =>
    obtain ⟨qo, no, co, rfl, HOW, hbx⟩ := hcut
    obtain ⟨s0, s1, s2, sl⟩ := unveil HSP
    have HRX := veil ((unveil HR1).below hbx)
    have HSX := veil (And.intro ((hbx.cell (p := ⟨gs, k * 3, none⟩) sl).trans s0) (And.intro ((hbx.cell (p := ⟨gs, k * 3 + 1, none⟩) sl).trans s1) (And.intro ((hbx.cell (p := ⟨gs, k * 3 + 2, none⟩) sl).trans s2) (Nat.lt_of_lt_of_le sl hbx.size))))
    clear y0 y1 y2 y3 y4 y5 y6 z0 z1 z2 f0 f1 f2 zl b0 b3 bl hc0 hgl hgs s0 s1 s2 sl hbx HR1 HSP HWQ HV8 HT0 hs1 hs2 h3 hkl hkg
    obtain ⟨y0, y1, y2, y3, y4, y5, y6⟩ := (unveil HRX).f.t.seven
    obtain ⟨q0, q1, q2, q3, q4, q5, q6, q7, q8⟩ := nine (f := f) ((unveil HCF wc (unveil HRX).f.be).1)
    obtain ⟨s0, s1, s2, sl⟩ := unveil HSX
    have b3 : wc.cell? ⟨BB, 3, none⟩ = some (.slice (some ⟨gs, 0, none⟩) OL.length c1) := (unveil HRX).b.cell 3
    have hkl : k < t.fs.length := (unveil HKF).1
    have hgf : gf < wc.heap.size := (unveil HCF wc (unveil HRX).f.be).2
    have bl := (unveil HRX).b.lt
    have tl := (unveil HRX).f.t.lt
    rw [unveil HFP] at y4
    go_upto_region 20 with fail
    have HF16 : Hid (Bk (wc.alloc (.cells #[.string ⟨f.nm.toArray⟩, .int .i64 f.t.sh, .int .i64 f.t.k, .int .i64 f.t.n, .slice f.t.op f.t.of.length f.t.oc, .slice f.t.fp f.t.fs.length f.t.fc, .bool f.t.pk, .int .i64 f.t.al, .int .i64 f.bits] 45)) wc.heap.size 45 #[.string ⟨f.nm.toArray⟩, .int .i64 f.t.sh, .int .i64 f.t.k, .int .i64 f.t.n, .slice f.t.op f.t.of.length f.t.oc, .slice f.t.fp f.t.fs.length f.t.fc, .bool f.t.pk, .int .i64 f.t.al, .int .i64 f.bits]) := Bk.new wc _ _
    have hba : Below wc.heap.size wc (wc.alloc (.cells #[.string ⟨f.nm.toArray⟩, .int .i64 f.t.sh, .int .i64 f.t.k, .int .i64 f.t.n, .slice f.t.op f.t.of.length f.t.oc, .slice f.t.fp f.t.fs.length f.t.fc, .bool f.t.pk, .int .i64 f.t.al, .int .i64 f.bits] 45)) := (Below.refl _ wc).alloc (Nat.le_refl _) _
    have HRA := veil ((unveil HRX).below hba)
    have HOA := veil (ownsRow_belowS (unveil HOW) hba)
    have HSA := veil (And.intro ((hba.cell (p := ⟨gs, k * 3, none⟩) sl).trans s0) (And.intro ((hba.cell (p := ⟨gs, k * 3 + 1, none⟩) sl).trans s1) (And.intro ((hba.cell (p := ⟨gs, k * 3 + 2, none⟩) sl).trans s2) (Nat.lt_of_lt_of_le sl hba.size))))
    clear y0 y1 y2 y3 y4 y5 y6 q0 q1 q2 q3 q4 q5 q6 q7 q8 s0 s1 s2 sl b3 hgf bl tl hba HOW HSX HRX HKF hkl
    generalize (wc.alloc (.cells #[.string ⟨f.nm.toArray⟩, .int .i64 f.t.sh, .int .i64 f.t.k, .int .i64 f.t.n, .slice f.t.op f.t.of.length f.t.oc, .slice f.t.fp f.t.fs.length f.t.fc, .bool f.t.pk, .int .i64 f.t.al, .int .i64 f.bits] 45)) = WA at *
    generalize wc.heap.size = XF at *
    obtain ⟨s0, s1, s2, sl⟩ := unveil HSA
    have b3 : WA.cell? ⟨BB, 3, none⟩ = some (.slice (some ⟨gs, 0, none⟩) OL.length c1) := (unveil HRA).b.cell 3
    have bl := (unveil HRA).b.lt
    go_upto_region 21 with fail
    have HX17 : Hid (Bk (WA.alloc (.cells #[.int .i64 zm.bit, .int .i64 zm.bits, .int .i64 zm.k] 42)) WA.heap.size 42 #[.int .i64 zm.bit, .int .i64 zm.bits, .int .i64 zm.k]) := Bk.new WA _ _
    have hbc : Below WA.heap.size WA ((WA.alloc (.cells #[.int .i64 zm.bit, .int .i64 zm.bits, .int .i64 zm.k] 42)).setCell ⟨WA.heap.size, 0, none⟩ (.int .i64 (fr + zm.bit))) := ((Below.refl _ WA).alloc (Nat.le_refl _) _).setCell (p := ⟨WA.heap.size, 0, none⟩) (Nat.le_refl _) _
    have HRC := veil ((unveil HRA).below hbc)
    have HOC := veil (ownsRow_belowS (unveil HOA) hbc)
    have HF17 := veil ((unveil HF16).below hbc)
    have HX18 : Hid (Bk ((WA.alloc (.cells #[.int .i64 zm.bit, .int .i64 zm.bits, .int .i64 zm.k] 42)).setCell ⟨WA.heap.size, 0, none⟩ (.int .i64 (fr + zm.bit))) WA.heap.size 42 #[.int .i64 (fr + zm.bit), .int .i64 zm.bits, .int .i64 zm.k]) := (unveil HX17).set 0 _
    have HXN : Hid (w.heap.size + 1 < WA.heap.size ∧ XF < WA.heap.size ∧ BB < WA.heap.size) := ⟨(unveil HRA).f.z.lt, (unveil HF16).lt, (unveil HRA).b.lt⟩
    clear s0 s1 s2 sl b3 bl hbc HRA HOA HSA HF16
    generalize (WA.alloc (.cells #[.int .i64 zm.bit, .int .i64 zm.bits, .int .i64 zm.k] 42)) = WB at *
    generalize WA.heap.size = XS at *
    have x0 := (unveil HX17).cell 0
    have xf0 := (unveil HX17).frozen 0
    have xl := (unveil HX17).lt
    have hwX : IntKind.i64.wrap (zm.bit + fr) = fr + zm.bit := by
      obtain ⟨e0, e1, e2, e3, e4, _⟩ := unveil HZB
      rw [IntKind.wrap_i64]
      omega
    go_upto_region 22 with fail
    clear x0 xf0 xl hwX HX17
    generalize (WB.setCell ⟨XS, 0, none⟩ (.int .i64 (fr + zm.bit))) = WC at *
    have f8 : WC.cell? ⟨XF, 8, none⟩ = some (.int .i64 f.bits) := (unveil HF17).cell 8
    have fl := (unveil HF17).lt
    have x0 : WC.cell? ⟨XS, 0, none⟩ = some (.int .i64 (fr + zm.bit)) := (unveil HX18).cell 0
    have x1 : WC.cell? ⟨XS, 1, none⟩ = some (.int .i64 zm.bits) := (unveil HX18).cell 1
    have x2 : WC.cell? ⟨XS, 2, none⟩ = some (.int .i64 zm.k) := (unveil HX18).cell 2
    have xl := (unveil HX18).lt
    obtain ⟨⟨z0, z1, z2⟩, ⟨f0, f1, f2⟩, zl⟩ := (unveil HRC).f.cells
    by_cases hb : f.bits < 0
    · have hb2 : ¬ f.bits ≥ 0 := by omega
      go_upto_region 24 with fail
      have HRD := veil ((unveil HRC).below (Below.refl _ WC).drew)
      have HOD := veil (ownsRow_belowS (unveil HOC) (Below.refl _ WC).drew)
      have HFD := veil ((unveil HF17).below (Below.refl _ WC).drew)
      have HXD := veil ((unveil HX18).below (Below.refl _ WC).drew)
      have hwD : IntKind.i64.wrap (deep + 1) = deep + 1 := by
        obtain ⟨_, _, _, _, _, e5, e6, _⟩ := unveil HZB
        rw [IntKind.wrap_i64]; omega
      have hsl := unveil HSL
      have HCX : Hid (∀ W, Hid (Below WC.drew.heap.size WC.drew W) → (W.cell? ⟨XF, 1, none⟩ = some (.int .i64 f.t.sh) ∧ W.cell? ⟨XF, 2, none⟩ = some (.int .i64 f.t.k) ∧ W.cell? ⟨XF, 3, none⟩ = some (.int .i64 f.t.n) ∧ W.cell? ⟨XF, 4, none⟩ = some (.slice f.t.op f.t.of.length f.t.oc) ∧ W.cell? ⟨XF, 5, none⟩ = some (.slice f.t.fp f.t.fs.length f.t.fc) ∧ W.cell? ⟨XF, 6, none⟩ = some (.bool f.t.pk) ∧ W.cell? ⟨XF, 7, none⟩ = some (.int .i64 f.t.al)) ∧ W.cell? ⟨XS, 0, none⟩ = some (.int .i64 (fr + zm.bit))) := fun W hS => by
        have hf := (unveil HFD).below (unveil hS)
        exact ⟨⟨hf.cell 1, hf.cell 2, hf.cell 3, hf.cell 4, hf.cell 5, hf.cell 6, hf.cell 7⟩, ((unveil HXD).below (unveil hS)).cell 0⟩
      have HII := veil (unveil HIH hb)
      refine wp_region_noPanic (wpIn_wide.1 (wpIn_region_sch (ro := none) (n := 0) (fun w' => Hid (Below WC.drew.heap.size WC.drew w'))
        (.pure 0 (.pure 1 (.pure 2 (.pure 3 (.pure 4 (.pure 5 (.pure 6 (.pure 7 (.both 8 13
          (.pure 9 (.pure 10 (.pure 11 (.pure 12 (.sole 13 (.sole 14 (.pure 15 .done)))))))
          (.sole 8 (.pure 9 (.pure 10 (.pure 11 (.pure 12 (.sole 14 (.pure 15 .done))))))))))))))))
        16 hmixN (by kernel_rfl) (by kernel_rfl) (by kernel_rfl) (by kernel_rfl) (by kernel_rfl) (by kernel_rfl) (fun _ _ _ _ h => h) (veil (Below.refl _ WC.drew)) ?_))
      clear f8 fl x0 x1 x2 xl z0 z1 z2 f0 f1 f2 zl
      refine sch_pure _ rfl _ (.inl ⟨rfl, fun W hS => (by obtain ⟨⟨u1, u2, u3, u4, u5, u6, u7⟩, ux⟩ := unveil HCX W hS; go_simp; rfl)⟩) (fun B hB => ?_)
      simp only [List.getElem_toArray, List.getElem_cons_zero, List.getElem_cons_succ, Act.put, List.setIfInBounds_toArray, List.set_cons_zero, List.set_cons_succ] at hB
      subst hB
      refine sch_pure _ rfl _ (.inl ⟨rfl, fun W hS => (by obtain ⟨⟨u1, u2, u3, u4, u5, u6, u7⟩, ux⟩ := unveil HCX W hS; go_simp; rfl)⟩) (fun B hB => ?_)
      simp only [List.getElem_toArray, List.getElem_cons_zero, List.getElem_cons_succ, Act.put, List.setIfInBounds_toArray, List.set_cons_zero, List.set_cons_succ] at hB
      subst hB
      refine sch_pure _ rfl _ (.inl ⟨rfl, fun W hS => (by obtain ⟨⟨u1, u2, u3, u4, u5, u6, u7⟩, ux⟩ := unveil HCX W hS; go_simp; rfl)⟩) (fun B hB => ?_)
      simp only [List.getElem_toArray, List.getElem_cons_zero, List.getElem_cons_succ, Act.put, List.setIfInBounds_toArray, List.set_cons_zero, List.set_cons_succ] at hB
      subst hB
      refine sch_pure _ rfl _ (.inl ⟨rfl, fun W hS => (by obtain ⟨⟨u1, u2, u3, u4, u5, u6, u7⟩, ux⟩ := unveil HCX W hS; go_simp; rfl)⟩) (fun B hB => ?_)
      simp only [List.getElem_toArray, List.getElem_cons_zero, List.getElem_cons_succ, Act.put, List.setIfInBounds_toArray, List.set_cons_zero, List.set_cons_succ] at hB
      subst hB
      refine sch_pure _ rfl _ (.inl ⟨rfl, fun W hS => (by obtain ⟨⟨u1, u2, u3, u4, u5, u6, u7⟩, ux⟩ := unveil HCX W hS; go_simp; rfl)⟩) (fun B hB => ?_)
      simp only [List.getElem_toArray, List.getElem_cons_zero, List.getElem_cons_succ, Act.put, List.setIfInBounds_toArray, List.set_cons_zero, List.set_cons_succ] at hB
      subst hB
      refine sch_pure _ rfl (.int .i64 (deep + 1)) (.inl ⟨rfl, fun W hS => (by go_simp; first | done | rw [hwD])⟩) (fun B hB => ?_)
      simp only [List.getElem_toArray, List.getElem_cons_zero, List.getElem_cons_succ, Act.put, List.setIfInBounds_toArray, List.set_cons_zero, List.set_cons_succ] at hB
      subst hB
      refine sch_pure _ rfl _ (.inl ⟨rfl, fun W hS => (by obtain ⟨⟨u1, u2, u3, u4, u5, u6, u7⟩, ux⟩ := unveil HCX W hS; go_simp; rfl)⟩) (fun B hB => ?_)
      simp only [List.getElem_toArray, List.getElem_cons_zero, List.getElem_cons_succ, Act.put, List.setIfInBounds_toArray, List.set_cons_zero, List.set_cons_succ] at hB
      subst hB
      refine sch_pure _ rfl (.slice (some qa) r.length (cap - 1)) (.inl ⟨rfl, fun W hS => (by go_simp)⟩) (fun B hB => ?_)
      simp only [List.getElem_toArray, List.getElem_cons_zero, List.getElem_cons_succ, Act.put, List.setIfInBounds_toArray, List.set_cons_zero, List.set_cons_succ] at hB
      subst hB
      refine sch_both ?_ ?_
      · refine sch_sole _ rfl (fun K hK => ?_)
        go_simp
        refine ⟨trivial, rfl, (callsIn_wide.2 (unveil HII _ (unveil HRD).f.be)).mono ?_⟩
        rintro e W9 ⟨a1, a2, a3, q9, n9, cp9, U, rfl, hr9, hb9, hh⟩
        have HR9 := veil (And.intro hr9 (And.intro hb9 hh))
        refine hK _ _ (veil hb9) ?_
        clear hK K hr9 hb9 hh
        iterate 4 (
          refine sch_pure _ rfl _ (.inl ⟨rfl, fun W hS => (by go_simp; rfl)⟩) (fun B hB => ?_)
          simp only [List.getElem_toArray, List.getElem_cons_zero, List.getElem_cons_succ, Act.put, List.setIfInBounds_toArray, List.set_cons_zero, List.set_cons_succ] at hB
          subst hB)
        refine sch_sole _ rfl (fun K hK => ?_)
        go_simp
        refine hK _ _ (veil ((unveil HR9).2.1.alloc (unveil HR9).2.1.size _)) ?_
        clear hK K
        have HN18 : Hid (Bk (W9.alloc (.cells #[.int .i64 0, .int .i64 0, .int .i64 0] 42)) W9.heap.size 42 #[.int .i64 0, .int .i64 0, .int .i64 0]) := Bk.new W9 _ _
        have n0 := (unveil HN18).cell 0
        have n1 := (unveil HN18).cell 1
        have n2 := (unveil HN18).cell 2
        have m0 := (unveil HN18).frozen 0
        have m1 := (unveil HN18).frozen 1
        have m2 := (unveil HN18).frozen 2
        have nl := (unveil HN18).lt
        refine sch_sole _ rfl (fun K hK => ?_)
        go_simp
        have hbz : Below W9.heap.size W9 (W9.alloc (.cells #[.int .i64 a1, .int .i64 a2, .int .i64 a3] 42)) := (Below.refl _ W9).alloc (Nat.le_refl _) _
        have HRZ := veil (((unveil HRD).below (unveil HR9).2.1).below hbz)
        have HOZ := veil (ownsRow_belowS (ownsRow_belowS (unveil HOD) (unveil HR9).2.1) hbz)
        have HUZ := veil (ownsRow_belowS (unveil HR9).1 hbz)
        have HNZ : Hid (Bk (W9.alloc (.cells #[.int .i64 a1, .int .i64 a2, .int .i64 a3] 42)) W9.heap.size 42 #[.int .i64 a1, .int .i64 a2, .int .i64 a3]) := Bk.new W9 _ _
        have HNE : Hid (w.heap.size + 1 ≠ W9.heap.size) := by have h1 := (unveil HRD).f.z.lt; have h2 := (unveil HR9).2.1.size; show _ ≠ _; omega
        have HHZ := veil (unveil HR9).2.2
        refine hK _ _ (veil ((unveil HR9).2.1.trans (hbz.mono (unveil HR9).2.1.size))) ?_
        clear hK K n0 n1 n2 m0 m1 m2 nl hbz HN18 HR9
        generalize (W9.alloc (.cells #[.int .i64 a1, .int .i64 a2, .int .i64 a3] 42)) = WZ at *
        generalize W9.heap.size = NB at *
        generalize okN (f.t, zm.bit, zm.bits) (fr + zm.bit) r = OKZ at *
        refine sch_pure _ rfl _ (.inl ⟨rfl, fun W hS => (by go_simp; rfl)⟩) (fun B hB => ?_)
        simp only [List.getElem_toArray, List.getElem_cons_zero, List.getElem_cons_succ, Act.put, List.setIfInBounds_toArray, List.set_cons_zero, List.set_cons_succ] at hB
        subst hB
        refine sch_done ?_
        refine listIn_last rfl (fun K hK => ?_)
        go_simp
        refine hK _ _ ?_
        clear hK K
        go_upto_region 25 with fail
        obtain ⟨i0, hi, hq0, hq1, hq2⟩ := info_parts infoStep
        have hul := (unveil HHZ).1
        have hol := unveil HOL
        have HBY : Below WZ.heap.size WZ WZ.drew := (Below.refl _ WZ).drew
        have HOY := ownsRow_belowS (unveil HOZ) HBY
        have HUY := ownsRow_belowS (unveil HUZ) HBY
        have HRY := (unveil HRZ).below HBY
        obtain ⟨rfl, hnil, hsrc⟩ := row_src HUY
        refine wp_region_noPanic (wpIn_wide.1 (wpIn_region_sch (ro := none) (n := 0) (fun w' => Hid (Bk w' NB 42 #[.int .i64 a1, .int .i64 a2, .int .i64 a3]))
          (.pure 0 (.pure 1 (.pure 2 (.pure 4 (.sole 3 (.sole 5 (.pure 6 .done)))))))
          7 hmixN (by kernel_rfl) (by kernel_rfl) (by kernel_rfl) (by kernel_rfl) (by kernel_rfl) (by kernel_rfl) (fun _ _ _ _ h => h) (veil ((unveil HNZ).below HBY)) ?_))
        refine sch_pure _ rfl _ (.inl ⟨rfl, fun W hS => (by have n0 : W.cell? ⟨NB, 0, none⟩ = some (.int .i64 a1) := (unveil hS).cell 0; have n1 : W.cell? ⟨NB, 1, none⟩ = some (.int .i64 a2) := (unveil hS).cell 1; have n2 : W.cell? ⟨NB, 2, none⟩ = some (.int .i64 a3) := (unveil hS).cell 2; have nl := (unveil hS).lt; go_simp; rfl)⟩) (fun B hB => ?_)
        simp only [List.getElem_toArray, List.getElem_cons_zero, List.getElem_cons_succ, Act.put, List.setIfInBounds_toArray, List.set_cons_zero, List.set_cons_succ] at hB
        subst hB
        iterate 3 (
          refine sch_pure _ rfl _ (.inl ⟨rfl, fun W hS => (by go_simp; rfl)⟩) (fun B hB => ?_)
          simp only [List.getElem_toArray, List.getElem_cons_zero, List.getElem_cons_succ, Act.put, List.setIfInBounds_toArray, List.set_cons_zero, List.set_cons_succ] at hB
          subst hB)
        refine sch_sole _ rfl (fun K hK => ?_)
        refine stepIn_app_src (by rfl) _ _ 88 (by rfl) w.heap.size 103 i0 _ 4 32 Try.underlying88 hi hq0 hq1 hq2 rfl (by decide) (.slice qo no co) OU.length (usCs OU) (by rfl) HOY q9 U.length cp9 (usCs U) (by rfl) (us_len U) hnil hsrc (us_one U) (by unfold maxLen; omega) (by omega) (by have := HRY.f.z.lt; omega) ?_
        intro v6 W6 hown6 hg6
        obtain ⟨q6, c6, rfl⟩ := row_slice hown6
        have HN6 := Bk.rowG ((unveil HNZ).below HBY) HOY hg6 (by decide)
        have HF6 : FdS w W6 t := ⟨Bk.rowG HRY.f.t HOY hg6 (by decide), Bk.rowG HRY.f.z HOY hg6 (by decide), HRY.f.be.grown hg6 HRY.f.be.size (fun r e => (row_turnS HOY r e).1)⟩
        rw [← us_app] at hown6
        refine hK _ _ (veil HN6) ?_
        clear hK K hg6 hnil hsrc HUY HRY HOY HBY HUZ HOZ HRZ HNZ hi hq0 hq1 hq2 i0
        have HO6 := veil hown6
        clear hown6
        have HG6 := veil (And.intro HF6 HN6)
        clear HF6 HN6
        obtain ⟨⟨z0, z1, z2⟩, ⟨f0, f1, f2⟩, zl⟩ := (unveil HG6).1.cells
        refine sch_sole _ rfl (fun K hK => ?_)
        go_simp
        refine hK _ _ (veil ((((unveil HG6).2.other _ _ (unveil HNE).symm).other _ _ (unveil HNE).symm).other _ _ (unveil HNE).symm)) ?_
        clear hK K
        refine sch_pure _ rfl _ (.inl ⟨rfl, fun W hS => (by go_simp; rfl)⟩) (fun B hB => ?_)
        simp only [List.getElem_toArray, List.getElem_cons_zero, List.getElem_cons_succ, Act.put, List.setIfInBounds_toArray, List.set_cons_zero, List.set_cons_succ] at hB
        subst hB
        refine sch_done ?_
        refine listIn_last rfl (fun K hK => ?_)
        go_simp
        refine hK _ _ ?_
        clear hK K
        go_wp2_with fail
        all_goals (
          obtain ⟨r1, r2, r3⟩ := fin3 (unveil HG6).1 (unveil HO6) (.int .i64 a1) (.int .i64 a2) (.int .i64 a3) _ rfl
          exact bodyPost_ret (res_slb (f := Try.f52) (i := 9) (j := 10) rfl rfl r1 rfl) rfl ((unveil HHZ).2 _ q6 _ c6 (by rw [List.length_append]; exact r3) r2))
      · refine sch_sole _ rfl (fun K hK => ?_)
        go_simp
        refine hK _ _ (veil ((Below.refl _ _).alloc (Nat.le_refl _) _)) ?_
        clear hK K
        have HN18 : Hid (Bk (WC.drew.alloc (.cells #[.int .i64 0, .int .i64 0, .int .i64 0] 42)) WC.drew.heap.size 42 #[.int .i64 0, .int .i64 0, .int .i64 0]) := Bk.new WC.drew _ _
        have hbn : Below WC.drew.heap.size WC.drew (WC.drew.alloc (.cells #[.int .i64 0, .int .i64 0, .int .i64 0] 42)) := (Below.refl _ _).alloc (Nat.le_refl _) _
        refine sch_sole _ rfl (fun K hK => ?_)
        go_simp
        refine ⟨trivial, rfl, (callsIn_wide.2 (unveil HII _ ((unveil HRD).f.be.trans (hbn.mono (unveil HRD).f.be.size)))).mono ?_⟩
        rintro e W9 ⟨a1, a2, a3, q9, n9, cp9, U, rfl, hr9, hb9, hh⟩
        have HB9 := veil (hbn.trans (hb9.mono hbn.size))
        have HN19 := veil ((unveil HN18).below hb9)
        have HR9 := veil (And.intro hr9 (And.intro hb9 hh))
        refine hK _ _ HB9 ?_
        clear hK K hr9 hb9 hh hbn
        iterate 4 (
          refine sch_pure _ rfl _ (.inl ⟨rfl, fun W hS => (by go_simp; rfl)⟩) (fun B hB => ?_)
          simp only [List.getElem_toArray, List.getElem_cons_zero, List.getElem_cons_succ, Act.put, List.setIfInBounds_toArray, List.set_cons_zero, List.set_cons_succ] at hB
          subst hB)
        have n0 : W9.cell? ⟨WC.heap.size, 0, none⟩ = some (.int .i64 0) := (unveil HN19).cell 0
        have n1 : W9.cell? ⟨WC.heap.size, 1, none⟩ = some (.int .i64 0) := (unveil HN19).cell 1
        have n2 : W9.cell? ⟨WC.heap.size, 2, none⟩ = some (.int .i64 0) := (unveil HN19).cell 2
        have m0 : W9.frozen? ⟨WC.heap.size, 0, none⟩ = false := (unveil HN19).frozen 0
        have m1 : W9.frozen? ⟨WC.heap.size, 1, none⟩ = false := (unveil HN19).frozen 1
        have m2 : W9.frozen? ⟨WC.heap.size, 2, none⟩ = false := (unveil HN19).frozen 2
        have nl : WC.heap.size < W9.heap.size := (unveil HN19).lt
        refine sch_sole _ rfl (fun K hK => ?_)
        go_simp
        have z1 : Bk (W9.setCell ⟨WC.heap.size, 0, none⟩ (.int .i64 a1)) WC.heap.size 42 #[.int .i64 a1, .int .i64 0, .int .i64 0] := (unveil HN19).set 0 _
        have z2 : Bk ((W9.setCell ⟨WC.heap.size, 0, none⟩ (.int .i64 a1)).setCell ⟨WC.heap.size, 1, none⟩ (.int .i64 a2)) WC.heap.size 42 #[.int .i64 a1, .int .i64 a2, .int .i64 0] := z1.set 1 _
        have HNZ : Hid (Bk (((W9.setCell ⟨WC.heap.size, 0, none⟩ (.int .i64 a1)).setCell ⟨WC.heap.size, 1, none⟩ (.int .i64 a2)).setCell ⟨WC.heap.size, 2, none⟩ (.int .i64 a3)) WC.heap.size 42 #[.int .i64 a1, .int .i64 a2, .int .i64 a3]) := z2.set 2 _
        have hbz : Below WC.drew.heap.size WC.drew (((W9.setCell ⟨WC.heap.size, 0, none⟩ (.int .i64 a1)).setCell ⟨WC.heap.size, 1, none⟩ (.int .i64 a2)).setCell ⟨WC.heap.size, 2, none⟩ (.int .i64 a3)) := (((unveil HB9).setCell (p := ⟨WC.heap.size, 0, none⟩) (Nat.le_refl _) _).setCell (p := ⟨WC.heap.size, 1, none⟩) (Nat.le_refl _) _).setCell (p := ⟨WC.heap.size, 2, none⟩) (Nat.le_refl _) _
        have HRZ := veil ((unveil HRD).below hbz)
        have HOZ := veil (ownsRow_belowS (unveil HOD) hbz)
        have HUZ : Hid (World.ownsRow (((W9.setCell ⟨WC.heap.size, 0, none⟩ (.int .i64 a1)).setCell ⟨WC.heap.size, 1, none⟩ (.int .i64 a2)).setCell ⟨WC.heap.size, 2, none⟩ (.int .i64 a3)) _ 103 4 (.slice q9 n9 cp9) U.length (usCs U)) := veil (ownsRow_setS (ownsRow_setS (ownsRow_setS (unveil HR9).1 (unveil HN19) (by decide) _) z1 (by decide) _) z2 (by decide) (.int .i64 a3))
        have HNE : Hid (w.heap.size + 1 ≠ WC.heap.size) := by have h1 := (unveil HRC).f.z.lt; show _ ≠ _; omega
        have HHZ := veil (unveil HR9).2.2
        refine hK _ _ (veil hbz) ?_
        clear hK K n0 n1 n2 m0 m1 m2 nl hbz HN18 HN19 HR9 HB9 z1 z2
        generalize (((W9.setCell ⟨WC.heap.size, 0, none⟩ (.int .i64 a1)).setCell ⟨WC.heap.size, 1, none⟩ (.int .i64 a2)).setCell ⟨WC.heap.size, 2, none⟩ (.int .i64 a3)) = WZ at *
        generalize okN (f.t, zm.bit, zm.bits) (fr + zm.bit) r = OKZ at *
        refine sch_pure _ rfl _ (.inl ⟨rfl, fun W hS => (by go_simp; rfl)⟩) (fun B hB => ?_)
        simp only [List.getElem_toArray, List.getElem_cons_zero, List.getElem_cons_succ, Act.put, List.setIfInBounds_toArray, List.set_cons_zero, List.set_cons_succ] at hB
        subst hB
        refine sch_done ?_
        refine listIn_last rfl (fun K hK => ?_)
        go_simp
        refine hK _ _ ?_
        clear hK K
        go_upto_region 25 with fail
        obtain ⟨i0, hi, hq0, hq1, hq2⟩ := info_parts infoStep
        have hul := (unveil HHZ).1
        have hol := unveil HOL
        have HBY : Below WZ.heap.size WZ WZ.drew := (Below.refl _ WZ).drew
        have HOY := ownsRow_belowS (unveil HOZ) HBY
        have HUY := ownsRow_belowS (unveil HUZ) HBY
        have HRY := (unveil HRZ).below HBY
        obtain ⟨rfl, hnil, hsrc⟩ := row_src HUY
        refine wp_region_noPanic (wpIn_wide.1 (wpIn_region_sch (ro := none) (n := 0) (fun w' => Hid (Bk w' WC.heap.size 42 #[.int .i64 a1, .int .i64 a2, .int .i64 a3]))
          (.pure 0 (.pure 1 (.pure 2 (.pure 4 (.sole 3 (.sole 5 (.pure 6 .done)))))))
          7 hmixN (by kernel_rfl) (by kernel_rfl) (by kernel_rfl) (by kernel_rfl) (by kernel_rfl) (by kernel_rfl) (fun _ _ _ _ h => h) (veil ((unveil HNZ).below HBY)) ?_))
        refine sch_pure _ rfl _ (.inl ⟨rfl, fun W hS => (by have n0 : W.cell? ⟨WC.heap.size, 0, none⟩ = some (.int .i64 a1) := (unveil hS).cell 0; have n1 : W.cell? ⟨WC.heap.size, 1, none⟩ = some (.int .i64 a2) := (unveil hS).cell 1; have n2 : W.cell? ⟨WC.heap.size, 2, none⟩ = some (.int .i64 a3) := (unveil hS).cell 2; have nl := (unveil hS).lt; go_simp; rfl)⟩) (fun B hB => ?_)
        simp only [List.getElem_toArray, List.getElem_cons_zero, List.getElem_cons_succ, Act.put, List.setIfInBounds_toArray, List.set_cons_zero, List.set_cons_succ] at hB
        subst hB
        iterate 3 (
          refine sch_pure _ rfl _ (.inl ⟨rfl, fun W hS => (by go_simp; rfl)⟩) (fun B hB => ?_)
          simp only [List.getElem_toArray, List.getElem_cons_zero, List.getElem_cons_succ, Act.put, List.setIfInBounds_toArray, List.set_cons_zero, List.set_cons_succ] at hB
          subst hB)
        refine sch_sole _ rfl (fun K hK => ?_)
        refine stepIn_app_src (by rfl) _ _ 88 (by rfl) w.heap.size 103 i0 _ 4 32 Try.underlying88 hi hq0 hq1 hq2 rfl (by decide) (.slice qo no co) OU.length (usCs OU) (by rfl) HOY q9 U.length cp9 (usCs U) (by rfl) (us_len U) hnil hsrc (us_one U) (by unfold maxLen; omega) (by omega) (by have := HRY.f.z.lt; omega) ?_
        intro v6 W6 hown6 hg6
        obtain ⟨q6, c6, rfl⟩ := row_slice hown6
        have HN6 := Bk.rowG ((unveil HNZ).below HBY) HOY hg6 (by decide)
        have HF6 : FdS w W6 t := ⟨Bk.rowG HRY.f.t HOY hg6 (by decide), Bk.rowG HRY.f.z HOY hg6 (by decide), HRY.f.be.grown hg6 HRY.f.be.size (fun r e => (row_turnS HOY r e).1)⟩
        rw [← us_app] at hown6
        refine hK _ _ (veil HN6) ?_
        clear hK K hg6 hnil hsrc HUY HRY HOY HBY HUZ HOZ HRZ HNZ hi hq0 hq1 hq2 i0
        have HO6 := veil hown6
        clear hown6
        have HG6 := veil (And.intro HF6 HN6)
        clear HF6 HN6
        obtain ⟨⟨z0, z1, z2⟩, ⟨f0, f1, f2⟩, zl⟩ := (unveil HG6).1.cells
        refine sch_sole _ rfl (fun K hK => ?_)
        go_simp
        refine hK _ _ (veil ((((unveil HG6).2.other _ _ (unveil HNE).symm).other _ _ (unveil HNE).symm).other _ _ (unveil HNE).symm)) ?_
        clear hK K
        refine sch_pure _ rfl _ (.inl ⟨rfl, fun W hS => (by go_simp; rfl)⟩) (fun B hB => ?_)
        simp only [List.getElem_toArray, List.getElem_cons_zero, List.getElem_cons_succ, Act.put, List.setIfInBounds_toArray, List.set_cons_zero, List.set_cons_succ] at hB
        subst hB
        refine sch_done ?_
        refine listIn_last rfl (fun K hK => ?_)
        go_simp
        refine hK _ _ ?_
        clear hK K
        go_wp2_with fail
        all_goals (
          obtain ⟨r1, r2, r3⟩ := fin3 (unveil HG6).1 (unveil HO6) (.int .i64 a1) (.int .i64 a2) (.int .i64 a3) _ rfl
          exact bodyPost_ret (res_slb (f := Try.f52) (i := 9) (j := 10) rfl rfl r1 rfl) rfl ((unveil HHZ).2 _ q6 _ c6 (by rw [List.length_append]; exact r3) r2))
    · have hb2 : f.bits ≥ 0 := by omega
      have HBO := veil (unveil HBF WC qo no co)
      go_wp2_with fail
      all_goals (
        obtain ⟨r1, r2, r3⟩ := fin3 (unveil HRC).f (unveil HOC) (.int .i64 (fr + zm.bit)) (.int .i64 zm.bits) (.int .i64 zm.k) _ rfl
        have hpo := unveil HBF _ _ _ _ (by omega) r3 r2
        refine bodyPost_ret (res_slb (f := Try.f52) (i := 9) (j := 10) rfl rfl r1 rfl) rfl ?_
        first
          | (rw [show decide (0 < f.bits) = true from by (rw [decide_eq_true_eq]; omega), Bool.true_and] at hpo; exact hpo)
          | (rw [show decide (0 < f.bits) = false from by (rw [decide_eq_false_iff_not]; omega), Bool.false_and] at hpo; exact hpo))
end Go.Proofs.Ytkiebejidpebdaa
