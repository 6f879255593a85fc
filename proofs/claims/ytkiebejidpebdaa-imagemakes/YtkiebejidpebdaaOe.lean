/-
  Package image: members, the nodes of a struct or union.
-/
import Derived.Test.YtkiebejidpebdaaOd
import Derived.Test.YtkiebejidpebdaaZ6
import Derived.Maps.OwnIn
import Derived.Maps.AppendAt
namespace Go.Proofs.Ytkiebejidpebdaa
open Go Go.RowKit Go.Shelf
set_option linter.unusedVariables false
set_option linter.unusedSimpArgs false

def ndL (x : ShT × Int × Int) : List Value := (ndC x.1 x.2.1 x.2.2 (.slice none 0 0)).toList
def ndCs (l : List (ShT × Int × Int)) : List Value := l.flatMap ndL
theorem ndCs_snoc (l : List (ShT × Int × Int)) (x : ShT × Int × Int) : ndCs (l ++ [x]) = ndCs l ++ ndL x := by simp [ndCs]
theorem infoNd : (Try.prog.info? 117).map (fun i => (i.zero, i.size, i.bytes)) = some (some (.agg #[.int .i64 0, .int .i64 0, .int .i64 0, .slice none 0 0, .slice none 0 0, .bool false, .int .i64 0, .int .i64 0, .int .i64 0, .slice none 0 0]), 10, 128) := by kernel_rfl
theorem nd_cells (W : World) (x : ShT × Int × Int) (ty : TypeId) : ∀ (j : Nat) (u : Value), (ndL x)[j]? = some u → (W.alloc (.cells (ndL x).toArray ty)).cell? ((⟨W.heap.size, 0, none⟩ : Addr).add j) = some u := by
  intro j u h
  have hadd : (⟨W.heap.size, 0, none⟩ : Addr).add j = ⟨W.heap.size, j, none⟩ := by unfold Addr.add; split <;> simp_all
  rw [hadd, Bk.cell (Bk.new W ty _)]
  simpa using h
/-- The parts of a struct or union: each member's type, first bit, bits. -/
def ptsM (t : ShT) : List (ShT × Int × Int) := (t.ml (meaM 5)).map (fun x => (x.1.t, x.2.bit, x.2.bits))
theorem hmixN : Try.prog.follows .mixedOrders = true := by kernel_rfl
/-- What members' loop keeps. -/
structure NmS (w W : World) (t : ShT) (b3 : Nat) (q3 : Option Addr) (c3 : Nat) (ms : List Mb) (v : Value) (l : List (ShT × Int × Int)) : Prop where
  t : TyB W w.heap.size t
  s : W.ownsRow b3 42 3 (.slice q3 ms.length c3) ms.length (spCs ms)
  r : W.ownsRow w.heap.size 117 10 v l.length (ndCs l)
  be : Below w.heap.size w W
theorem NmS.below {w W W' : World} {t : ShT} {b3 : Nat} {q3 : Option Addr} {c3 : Nat} {ms : List Mb} {v : Value} {l : List (ShT × Int × Int)} (h : NmS w W t b3 q3 c3 ms v l) (hb : Below W.heap.size W W') : NmS w W' t b3 q3 c3 ms v l :=
  ⟨h.t.below hb, ownsRow_belowS h.s hb, ownsRow_belowS h.r hb, h.be.trans (hb.mono h.be.size)⟩
theorem NmS.grow {w W Wa W' : World} {t : ShT} {b3 : Nat} {q3 : Option Addr} {c3 : Nat} {ms : List Mb} {v v' : Value} {l : List (ShT × Int × Int)} (x : ShT × Int × Int) (h : NmS w W t b3 q3 c3 ms v l) (hWa : Below W.heap.size W Wa) (hg : Wa.grownBy W' v.ownBlock)
    (hr : W'.ownsRow w.heap.size 117 10 v' (l.length + 1) (ndCs l ++ ndL x)) : NmS w W' t b3 q3 c3 ms v' (l ++ [x]) := by
  have ha := h.below hWa
  refine ⟨Bk.rowG ha.t ha.r hg (by decide), ownsRow_turnS ha.s hg (fun r e cur hc => ?_), ?_, ha.be.grown hg ha.be.size (fun r e => (row_turnS ha.r r e).1)⟩
  · obtain ⟨_, cur2, h2⟩ := row_turnS ha.r r e
    rw [hc] at h2
    simp at h2
  · rw [ndCs_snoc, List.length_append]
    exact hr
theorem pts_take (t : ShT) (k : Nat) (hk : k < t.fs.length) (h' : k < ((t.ml (meaM 5)).map Prod.snd).length) : (ptsM t).take (k + 1) = (ptsM t).take k ++ [(t.fs[k].t, ((t.ml (meaM 5)).map Prod.snd)[k].bit, ((t.ml (meaM 5)).map Prod.snd)[k].bits)] := by
  have hll : (t.ml (meaM 5)).length = t.fs.length := ml_len _ _ _ _ _
  have hk2 : k < (t.ml (meaM 5)).length := by omega
  have h9 : ((t.ml (meaM 5)).map Prod.fst)[k]? = t.fs[k]? := by
    have := ml_fst (meaM 5) t.pk (t.sh == 4) t.fs 0
    unfold ShT.ml
    rw [this]
  rw [List.getElem?_map, List.getElem?_eq_getElem hk2, List.getElem?_eq_getElem hk] at h9
  have h8 : (t.ml (meaM 5))[k].1 = t.fs[k] := by simpa using h9
  rw [List.take_add_one]
  congr 1
  unfold ptsM
  rw [List.getElem?_map, List.getElem?_eq_getElem hk2]
  simp [h8]
set_option maxRecDepth 100000 in
set_option maxHeartbeats 20000000 in
theorem nodes_any (t : ShT) (w : World) (hin : t.In w.heap.size w) (hme : memL t = ((t.ml (meaM 5)).map Prod.snd, 0)) (hfl : t.fs.length ≤ 40) :
    Calls Try.prog 89 #[t.v] w fun e w' => ∃ v, e = .returned v ∧ w'.ownsRow w.heap.size 117 10 v (ptsM t).length (ndCs (ptsM t)) ∧ Below w.heap.size w w' := by
  have HIN := veil hin
  have HMM : Hid (∀ W, Below w.heap.size w W → Calls Try.prog 21 #[t.v] W fun e w' => MbP W ((t.ml (meaM 5)).map Prod.snd) 0 e w') := fun W h => by
    have := Members_any t W ((hin.below h).mono h.size)
    rw [hme] at this
    exact this
  have HT0 := veil (And.intro (TyB.new w t) ((Below.refl _ w).alloc (Nat.le_refl _) (.cells t.cs 25)))
  have hll : (t.ml (meaM 5)).length = t.fs.length := ml_len _ _ _ _ _
  have HPT : Hid (∀ (k : Nat) (hk : k < t.fs.length) (h' : k < ((t.ml (meaM 5)).map Prod.snd).length), (ptsM t).take (k + 1) = (ptsM t).take k ++ [(t.fs[k].t, ((t.ml (meaM 5)).map Prod.snd)[k].bit, ((t.ml (meaM 5)).map Prod.snd)[k].bits)]) := fun k hk h' => pts_take t k hk h'
  have HPL : Hid ((ptsM t).length = t.fs.length) := by unfold Hid ptsM; rw [List.length_map]; exact hll
  have HML : Hid (((t.ml (meaM 5)).map Prod.snd).length = t.fs.length) := by unfold Hid; rw [List.length_map]; exact hll
  have HFL := veil hfl
  clear hin hme hll hfl
  generalize (t.ml (meaM 5)).map Prod.snd = ms at *
  generalize ptsM t = PT at *
  unfold ShT.v ShT.cs at *
  go_enter Try.func89, Try.ntmps89
  go_upto_region 1 with fail
  generalize (w.alloc (.cells #[.int .i64 t.sh, .int .i64 t.k, .int .i64 t.n, .slice t.op t.of.length t.oc, .slice t.fp t.fs.length t.fc, .bool t.pk, .int .i64 t.al] 25)) = W0 at HT0 ⊢
  obtain ⟨y0, y1, y2, y3, y4, y5, y6⟩ := (unveil HT0).1.seven
  go_upto_region 2 with (go_at_call 21; refine (unveil HMM _ (unveil HT0).2).mono ?_; rintro e W3 ⟨v3, rfl, hr3, hb3⟩; have HT3 := veil (And.intro ((unveil HT0).1.below hb3) ((unveil HT0).2.trans (hb3.mono (unveil HT0).2.size))); obtain ⟨q3, c3, rfl⟩ := row_slice hr3; have HR3 := veil hr3; clear hb3 hr3)
  clear y0 y1 y2 y3 y4 y5 y6 HMM
  have hmb : ms.length ≤ 40 := by rw [unveil HML]; exact unveil HFL
  go_wp2_with (at_make; obtain ⟨i0, hi, hz0, hz1, hz2'⟩ := info_parts infoNd; refine wpList_make_own _ rfl _ _ 115 rfl w.heap.size 117 i0 _ 10 Try.underlying115 hi hz0 hz1 .i64 .i64 _ ms.length rfl rfl rfl (by rw [hz2']; omega) (by unfold maxLen; omega) (unveil HT3).2.size ?_; intro W4 hown4 hgrow4; have hB4 := (Below.refl _ W3).grown hgrow4 (Nat.le_refl _) (fun r e => by cases e); have HS4 : Hid (NmS w W4 t W0.heap.size q3 c3 ms _ []) := ⟨(unveil HT3).1.below hB4, ownsRow_belowS (unveil HR3) hB4, hown4, (unveil HT3).2.trans (hB4.mono (unveil HT3).2.size)⟩; clear hi hz0 hz1 hz2' i0 hown4 hgrow4 hB4)
  go_loopw [5, 18] (fun vv i wr => ∃ (k : Nat) (q : Option Addr) (c : Nat), i = .int .i64 k ∧ vv = .slice q k c ∧ k ≤ ms.length ∧ Hid ((PT.take k).length = k) ∧ Hid (NmS w wr t W0.heap.size q3 c3 ms (.slice q k c) (PT.take k))) (fun vv i wr => ms.length - (intOf i).toNat)
  case atStart => exact ⟨0, _, _, rfl, rfl, Nat.zero_le _, by rw [List.take_zero]; rfl, by rw [List.take_zero]; exact HS4⟩
  case round =>
    obtain ⟨k, q, c, rfl, rfl, hk, hpl, hSk⟩ := hrel
    obtain ⟨y0, y1, y2, y3, y4, y5, y6⟩ := (unveil hSk).t.seven
    have lt0 := (unveil hSk).t.lt
    by_cases hlt : k < ms.length
    · have hkf : k < t.fs.length := by rw [← unveil HML]; exact hlt
      obtain ⟨g, o, hfp, hg, hc, _, _⟩ := (unveil HIN).fs k hkf
      have hpt := unveil HPT k hkf hlt
      obtain ⟨_, hc3, g3, rfl, _, hg3, o0, o1, o2⟩ := row_at (unveil hSk).s hlt
      generalize ms[k] = m at *
      obtain ⟨m1, m2, m3, m4⟩ := m
      simp only at o0 o1 o2 hpt
      generalize hfk : t.fs[k] = f at *
      have HPTK := veil hpt
      have hki : (k : Int) < (t.fs.length : Int) := by omega
      have HFC : Hid (∀ W, Below w.heap.size w W → (W.cell? ⟨g, o + k * 9 + 1, none⟩ = some (.int .i64 f.t.sh) ∧ W.cell? ⟨g, o + k * 9 + 2, none⟩ = some (.int .i64 f.t.k) ∧ W.cell? ⟨g, o + k * 9 + 3, none⟩ = some (.int .i64 f.t.n) ∧ W.cell? ⟨g, o + k * 9 + 4, none⟩ = some (.slice f.t.op f.t.of.length f.t.oc) ∧ W.cell? ⟨g, o + k * 9 + 5, none⟩ = some (.slice f.t.fp f.t.fs.length f.t.fc) ∧ W.cell? ⟨g, o + k * 9 + 6, none⟩ = some (.bool f.t.pk) ∧ W.cell? ⟨g, o + k * 9 + 7, none⟩ = some (.int .i64 f.t.al)) ∧ g < W.heap.size) := fun W h => by
        have hcc : ∀ (j : Nat), j < 9 → W.cell? ⟨g, o + k * 9 + j, none⟩ = f.cs[j]? := fun j hj => (h.cell (p := ⟨g, o + k * 9 + j, none⟩) hg).trans (hc j hj)
        obtain ⟨d0, d1, d2, d3, d4, d5, d6, d7, d8⟩ := nine hcc
        exact ⟨⟨d1, d2, d3, d4, d5, d6, d7⟩, Nat.lt_of_lt_of_le hg h.size⟩
      clear hpt hc hfk hg
      rw [hfp] at y4 ⊢
      go_upto_region 6 with fail
      have HX0 := veil (Bk.new wr 42 #[.int .i64 m1, .int .i64 m2, .int .i64 m3])
      have HSW : Hid (NmS w (wr.alloc (.cells #[.int .i64 m1, .int .i64 m2, .int .i64 m3] 42)) t W0.heap.size (some ⟨g3, 0, none⟩) c3 ms (.slice q k c) (PT.take k)) := (unveil hSk).below ((Below.refl _ wr).alloc (Nat.le_refl _) _)
      generalize (wr.alloc (.cells #[.int .i64 m1, .int .i64 m2, .int .i64 m3] 42)) = Wf at HX0 HSW ⊢
      generalize wr.heap.size = SB at HX0 ⊢
      have HSB : Hid (∀ W, Below Wf.heap.size Wf W → NmS w W t W0.heap.size (some ⟨g3, 0, none⟩) c3 ms (.slice q k c) (PT.take k) ∧ Bk W SB 42 #[.int .i64 m1, .int .i64 m2, .int .i64 m3]) := fun W h => ⟨(unveil HSW).below h, (unveil HX0).below h⟩
      have HCC : Hid (∀ W, Hid (Below Wf.heap.size Wf W) → W.cell? ⟨w.heap.size, 4, none⟩ = some (.slice (some ⟨g, o, none⟩) t.fs.length t.fc) ∧ (W.cell? ⟨SB, 0, none⟩ = some (.int .i64 m1) ∧ W.cell? ⟨SB, 1, none⟩ = some (.int .i64 m2)) ∧ (W.cell? ⟨g, o + k * 9 + 1, none⟩ = some (.int .i64 f.t.sh) ∧ W.cell? ⟨g, o + k * 9 + 2, none⟩ = some (.int .i64 f.t.k) ∧ W.cell? ⟨g, o + k * 9 + 3, none⟩ = some (.int .i64 f.t.n) ∧ W.cell? ⟨g, o + k * 9 + 4, none⟩ = some (.slice f.t.op f.t.of.length f.t.oc) ∧ W.cell? ⟨g, o + k * 9 + 5, none⟩ = some (.slice f.t.fp f.t.fs.length f.t.fc) ∧ W.cell? ⟨g, o + k * 9 + 6, none⟩ = some (.bool f.t.pk) ∧ W.cell? ⟨g, o + k * 9 + 7, none⟩ = some (.int .i64 f.t.al))) := fun W h => by
        obtain ⟨h1, h2⟩ := unveil HSB W (unveil h)
        obtain ⟨z0, z1, z2, z3, z4, z5, z6⟩ := h1.t.seven
        rw [hfp] at z4
        exact ⟨z4, ⟨h2.cell 0, h2.cell 1⟩, (unveil HFC W h1.be).1⟩
      clear y0 y1 y2 y3 y4 y5 y6 lt0 o0 o1 o2 hg3 hSk
      refine wp_region_noPanic (wpIn_wide.1 (wpIn_region_mix (ro := none) (n := 0) (fun w' => Hid (Below Wf.heap.size Wf w'))
        [(0, true), (1, true), (2, true), (3, true), (4, true), (5, true), (6, true), (7, true), (8, true), (9, true), (10, true), (11, true), (12, false)]
        13 hmixN (by kernel_rfl) (by kernel_rfl) (by kernel_rfl) (by kernel_rfl) (by kernel_rfl) (by kernel_rfl) (fun _ _ _ _ h => h) (veil (Below.refl _ Wf).drew) ?_))
      iterate 11 (
        refine mix_pure _ rfl _ (.inl ⟨rfl, fun W hS => (by obtain ⟨z4, ⟨x0, x1⟩, d1, d2, d3, d4, d5, d6, d7⟩ := unveil HCC W hS; go_simp; rfl)⟩) (fun B hB => ?_)
        simp only [Act.put, List.setIfInBounds_toArray, List.set_cons_zero, List.set_cons_succ] at hB
        subst hB)
      refine mix_pure _ rfl (.agg (ndC f.t m1 m2 (.slice none 0 0))) (.inl ⟨rfl, fun W hS => (by unfold ndC; go_simp)⟩) (fun B hB => ?_)
      simp only [List.getElem_toArray, List.getElem_cons_zero, List.getElem_cons_succ, Act.put, List.setIfInBounds_toArray, List.set_cons_zero, List.set_cons_succ] at hB
      subst hB
      refine mix_sole _ rfl (fun K hK => ?_)
      unfold ndC
      go_simp
      have hBa : Below Wf.heap.size Wf (Wf.alloc (.cells #[.int .i64 f.t.sh, .int .i64 f.t.k, .int .i64 f.t.n, .slice f.t.op f.t.of.length f.t.oc, .slice f.t.fp f.t.fs.length f.t.fc, .bool f.t.pk, .int .i64 f.t.al, .int .i64 m1, .int .i64 m2, .slice none 0 0] 117)).drew := ((Below.refl _ Wf).alloc (Nat.le_refl _) _).drew
      refine hK _ _ hBa ?_
      clear hK K
      refine mix_nil ?_
      obtain ⟨i0, hi, hq0, hq1, hq2⟩ := info_parts infoNd
      have hrowa : (Wf.alloc (.cells (ndL (f.t, m1, m2)).toArray 117)).drew.ownsRow w.heap.size 117 10 (.slice q k c) k (ndCs (PT.take k)) := by
        have h9 := ownsRow_belowS (unveil HSW).r hBa
        rw [unveil hpl] at h9
        exact h9
      have hbs : w.heap.size ≤ Wf.heap.size := (unveil HSW).be.size
      refine wpListIn_append_own_at _ rfl _ _ 115 rfl w.heap.size 117 i0 _ 10 128 Try.underlying115 hi hq0 hq1 hq2 rfl (by decide) _ _ _ rfl hrowa ⟨Wf.heap.size, 0, none⟩ 1 1 (ndL (f.t, m1, m2)) rfl rfl (nd_cells Wf (f.t, m1, m2) 117) (by intro u hu; simp [ndL, ndC] at hu; rcases hu with rfl | rfl | rfl | rfl | rfl | rfl | rfl | rfl | rfl | rfl <;> rfl) (by unfold maxLen; omega) (by omega) (by simp; omega) ?_
      intro v6 W6 hown6 hg6 _ _
      have hS6 := NmS.grow (f.t, m1, m2) (unveil HSW) hBa hg6 (by rw [unveil hpl]; exact hown6)
      rw [← unveil HPTK] at hS6
      have hpl6 : (PT.take (k + 1)).length = k + 1 := by rw [unveil HPTK, List.length_append, unveil hpl]; rfl
      have hr6 := hS6.r
      rw [hpl6] at hr6
      obtain ⟨q6, c6, rfl⟩ := row_slice hr6
      have HS6 := veil hS6
      have HPL6 := veil hpl6
      clear hS6 hpl6 hr6 hown6 hg6 hi hq0 hq1 hq2 hrowa hBa
      refine listIn_last rfl (fun K hK => ?_)
      go_simp
      refine hK _ _ ?_
      clear hK K
      go_wp2_with fail
      go_roundw
      case rel => exact ⟨k + 1, q6, c6, by go_num, rfl, by omega, HPL6, HS6⟩
      case measure => simp [intOf]; omega
    · have HF : Hid (PT.take k = PT) := by
        unfold Hid
        refine List.take_of_length_le ?_
        rw [unveil HPL, ← unveil HML]
        omega
      have HFIN := veil (show ∃ v, Ending.returned (.slice q k c) = .returned v ∧ wr.ownsRow w.heap.size 117 10 v PT.length (ndCs PT) ∧ Below w.heap.size w wr from ⟨_, rfl, by have := (unveil hSk).r; rw [unveil HF] at this; exact this, (unveil hSk).be⟩)
      go_wp2_with fail
      go_ret
      exact unveil HFIN
end Go.Proofs.Ytkiebejidpebdaa
