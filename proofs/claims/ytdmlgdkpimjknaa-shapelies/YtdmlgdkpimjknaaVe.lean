/-
  ShapeLies: the walk over the members.
-/
import Derived.Test.YtdmlgdkpimjknaaVd
namespace Go.Proofs.Ytdmlgdkpimjknaa
open Go Go.RowKit Go.Shelf
set_option linter.unusedVariables false
set_option linter.unusedSimpArgs false

theorem spCs_get : ∀ (l : List Mb) (i : Nat) (h : i < l.length), (spCs l)[i * 3]? = some (.int .i64 l[i].bit) ∧ (spCs l)[i * 3 + 1]? = some (.int .i64 l[i].bits) ∧ (spCs l)[i * 3 + 2]? = some (.int .i64 l[i].k)
  | [], i, h => by simp at h
  | m :: r, 0, _ => by simp [spCs, spC]
  | m :: r, i + 1, h => by
    have ih := spCs_get r i (by simpa using h)
    have e : spCs (m :: r) = spC m ++ spCs r := by simp [spCs]
    have hl : (spC m).length = 3 := rfl
    rw [e, show (i + 1) * 3 = 3 + i * 3 by omega]
    refine ⟨?_, ?_, ?_⟩
    · rw [List.getElem?_append_right (by omega), hl, show 3 + i * 3 - 3 = i * 3 by omega]; exact ih.1
    · rw [List.getElem?_append_right (by omega), hl, show 3 + i * 3 + 1 - 3 = i * 3 + 1 by omega]; exact ih.2.1
    · rw [List.getElem?_append_right (by omega), hl, show 3 + i * 3 + 2 - 3 = i * 3 + 2 by omega]; exact ih.2.2
theorem atM_succ (l : List (FdOf ShT × Mb)) (i : Nat) (h : i < l.length) : atM l (i + 1) = l[i].2.bit + l[i].2.bits := by
  unfold atM
  rw [dif_pos ⟨by omega, by simpa using h⟩]
  simp
set_option maxRecDepth 100000 in
set_option maxHeartbeats 20000000 in
theorem lies_main (t : ShT) (w : World) (hin : t.In w.heap.size w) (hrg : rigM 6 t = true) (hs : t.sh = 4 ∨ t.sh = 5) (n a : Int) (hc : chkM t = ((n, a), 0)) :
    Calls Try.prog 7 #[t.v] w fun e w' => e = .returned (.bool true) ∧ Below w.heap.size w w' := by
  have hme : memL t = ((t.ml (meaM 5)).map Prod.snd, 0) := by
    unfold memL
    rw [hc]
    have : (t.sh == 4 || t.sh == 5) = true := by simpa using hs
    rw [this]
    rfl
  obtain ⟨k1, k2, k3, k4, k5, k6, k7, k8, k9⟩ := lies_facts t hrg hs n a hc
  have HM : Hid (∀ W, Below w.heap.size w W → Calls Try.prog 14 #[t.v] W fun e w' => MbP W ((t.ml (meaM 5)).map Prod.snd) 0 e w') := fun W hW => by
    have := Members_any t W ((hin.below hW).mono hW.size)
    rw [hme] at this
    exact this
  have HZ : Hid (∀ W, Below w.heap.size w W → Calls Try.prog 11 #[t.v] W fun r w' => r = .returned (.tuple #[.int .i64 n, .int .i64 a, .int .i64 0]) ∧ Below W.heap.size W w') := fun W hW => by
    have := Size10_any t W ((hin.below hW).mono hW.size)
    rw [hc] at this
    exact this
  have HS := veil shown_any
  have HX := veil (tyB_new1 w t)
  have HIN := veil hin
  have HF := veil k9
  have HL8 := veil k8
  have HSH := veil hs
  have h40 : t.fs.length ≤ 40 := k7
  have hmod : ((n % a) != 0) = false := by simp [k1]
  have hlal : ¬ a < t.al := by omega
  have haz : ¬ a = 0 := by omega
  have hlen : ((t.fs.length : Int) != (t.fs.length : Int)) = false := by simp
  clear hin hrg hs hc hme k1 k2 k7 k8 k9
  generalize hML : t.ml (meaM 5) = ML at *
  clear hML
  unfold ShT.v ShT.cs at HM HZ HX ⊢
  go_enter Try.func7, Try.ntmps7
  go_upto_region 8 with (first
    | (go_at_call 10; refine (unveil HS _).mono ?_; rintro e w1 ⟨rfl, hb1⟩; obtain ⟨x1, x2⟩ := unveil HX w1 hb1; have XT := veil x1; have XB := veil x2; obtain ⟨y0, y1, y2, y3, y4, y5, y6⟩ := x1.seven; clear x1 x2 hb1)
    | (go_at_call 14; refine (unveil HM _ (unveil XB)).mono ?_; rintro e w2 ⟨v, rfl, hrow, hb2⟩; rw [List.length_map, unveil HL8] at hrow; obtain ⟨q, cp, rfl⟩ := row_slice hrow; have HRW := veil hrow; have XT2 := veil ((unveil XT).below hb2); have XB2 := veil ((unveil XB).trans (hb2.mono (unveil XB).size)); obtain ⟨z0, z1, z2, z3, z4, z5, z6⟩ := (unveil XT2).seven; clear hrow hb2)
    | (go_at_call 11; refine (unveil HZ _ (unveil XB2)).mono ?_; rintro e w3 ⟨rfl, hb3⟩; have XT3 := veil ((unveil XT2).below hb3); have XB3 := veil ((unveil XB2).trans (hb3.mono (unveil XB2).size)); have HB3 := veil hb3; obtain ⟨p0, p1, p2, p3, p4, p5, p6⟩ := (unveil XT3).seven; clear hb3))
  have HCE : Hid (∀ W, Below w2.heap.size w2 W → ∀ k, (h : k < t.fs.length) → ∃ g, q = some ⟨g, 0, none⟩ ∧ t.fs.length ≤ cp ∧ W.cell? ⟨g, k * 3, none⟩ = some (.int .i64 (ML[k]'(by rw [unveil HL8]; exact h)).2.bit) ∧ W.cell? ⟨g, k * 3 + 1, none⟩ = some (.int .i64 (ML[k]'(by rw [unveil HL8]; exact h)).2.bits) ∧ W.cell? ⟨g, k * 3 + 2, none⟩ = some (.int .i64 (ML[k]'(by rw [unveil HL8]; exact h)).2.k)) := by
    intro W hW k h
    have hr := unveil HRW
    obtain ⟨len, hlen'⟩ : ∃ len, t.fs.length = len + 1 := ⟨t.fs.length - 1, by omega⟩
    rw [hlen'] at hr
    obtain ⟨g, cap, hv, _, hg, hcap, hce⟩ := row_cells hr
    simp only [Value.slice.injEq] at hv
    obtain ⟨hq, _, hcp⟩ := hv
    have hk : k < (ML.map Prod.snd).length := by rw [List.length_map, unveil HL8]; exact h
    obtain ⟨e1, e2, e3⟩ := spCs_get (ML.map Prod.snd) k hk
    rw [List.getElem_map] at e1 e2 e3
    exact ⟨g, hq, by rw [hlen', hcp]; exact hcap, (hW.cell (p := ⟨g, k * 3, none⟩) hg).trans (hce _ _ e1), (hW.cell (p := ⟨g, k * 3 + 1, none⟩) hg).trans (hce _ _ e2), (hW.cell (p := ⟨g, k * 3 + 2, none⟩) hg).trans (hce _ _ e3)⟩
  have HBW : Hid (w2.heap.size ≤ w3.heap.size) := (unveil HB3).size
  clear HM HZ HS HX XT XB XT2 XB2 HRW y0 y1 y2 y3 y4 y5 y6 z0 z1 z2 z3 z4 z5 z6
  go_wp2_with fail
  go_loopw [9, 10] (fun s i wr => ∃ (k : Nat) (at0 : Int), i = .int .i64 k ∧ s = .int .i64 at0 ∧ k ≤ t.fs.length ∧ Hid (at0 = atM ML k) ∧ Hid (Below w3.heap.size w3 wr))
    (fun s i wr => t.fs.length - (intOf i).toNat)
  case atStart => exact ⟨0, 0, rfl, rfl, Nat.zero_le _, by unfold Hid atM; simp, Below.refl _ _⟩
  case round =>
    obtain ⟨k, at0, rfl, rfl, hk, hat, hbe⟩ := hrel
    have XBr := veil ((unveil XB3).trans ((unveil hbe).mono (unveil XB3).size))
    have XTr := veil ((unveil XT3).below (unveil hbe))
    obtain ⟨v0, v1, v2, v3, v4, v5, v6⟩ := (unveil XTr).seven
    by_cases hkl : k < t.fs.length
    · obtain ⟨g, rfl, hcp, r0, r1, r2⟩ := unveil HCE wr ((unveil HB3).trans ((unveil hbe).mono (unveil HBW))) k hkl
      have hk' : k < ML.length := by rw [unveil HL8]; exact hkl
      obtain ⟨hfst, hlif⟩ := unveil HF k hkl hk'
      obtain ⟨go, oo, hfp, hgo, hco, _, hfin⟩ := ((unveil HIN).below (unveil XBr)).fs k hkl
      obtain ⟨f0, f1, f2, f3, f4, f5, f6, f7, f8⟩ := nine hco
      have HST : Hid (∀ W, Below wr.heap.size wr W → Calls Try.prog 21 #[t.fs[k].v, .agg #[.int .i64 ML[k].2.bit, .int .i64 ML[k].2.bits, .int .i64 ML[k].2.k]] W fun e w' => StP W (Good t.fs[k] ML[k].2 (meaM 5 t.fs[k].t).1 (meaM 5 t.fs[k].t).2) e w') := fun W hW =>
        stands_any t.fs[k] ML[k].2 _ _ W ((hfin.below (hW.mono (unveil XBr).size)).mono (Nat.le_trans (unveil XBr).size hW.size)) hlif.chk hlif.e.1 hlif.e.2.1 hlif.e.2.2.1 hlif.e.2.2.2 hlif.b0 hlif.b1 hlif.s0 hlif.s1 hlif.bi
      have HGD : Hid (t.pk = false → Good t.fs[k] ML[k].2 (meaM 5 t.fs[k].t).1 (meaM 5 t.fs[k].t).2) := hlif.good
      have HAT : Hid (ML[k].2.bit + ML[k].2.bits = atM ML (k + 1)) := (atM_succ ML k hk').symm
      have b0 := hlif.b0
      have b1 := hlif.b1
      have s0 := hlif.s0
      have s1 := hlif.s1
      have hle := hlif.le
      have hst := hlif.st
      have hun := hlif.un
      rw [← unveil hat] at hst
      generalize Good t.fs[k] ML[k].2 (meaM 5 t.fs[k].t).1 (meaM 5 t.fs[k].t).2 = GG at *
      unfold FdOf.v FdOf.cs at HST
      rw [hfp]
      clear hco hfin hlif hfst
      generalize ML[k].2.bit = bt at *
      generalize ML[k].2.bits = bs at *
      generalize ML[k].2.k = km at *
      generalize t.fs[k] = f at *
      generalize f.t.sh = a1 at *
      generalize f.t.k = a2 at *
      generalize f.t.n = a3 at *
      generalize f.t.op = a4 at *
      generalize f.t.of.length = a4l at *
      generalize f.t.oc = a4c at *
      generalize f.t.fp = a5 at *
      generalize f.t.fs.length = a5l at *
      generalize f.t.fc = a5c at *
      generalize f.t.pk = a6 at *
      generalize f.t.al = a7 at *
      generalize f.bits = bi at *
      generalize f.nm = nm at *
      have hn1 : ¬ bt < 0 := by omega
      have hn2 : ¬ bt + bs > 8 * n := by omega
      have HRG : Hid ((t.sh == 4) = true ∧ (t.sh == 5) = false ∧ ¬ bt < at0 ∨ (t.sh == 4) = false ∧ (t.sh == 5) = true ∧ (bt != 0) = false) := by
        rcases unveil HSH with h | h
        · exact .inl ⟨by simp [h], by simp [h], by have := hst h; omega⟩
        · exact .inr ⟨by simp [h], by simp [h], by simp [hun h]⟩
      clear hst hun
      rw [hfp] at v4
      have hg1 : g < wr.heap.size := World.block_lt_of_cell? wr _ r0
      have hg2 : go < wr.heap.size := World.block_lt_of_cell? wr _ f0
      have hg3 : w.heap.size < wr.heap.size := World.block_lt_of_cell? wr _ v4
      have HFW : Hid (∀ W : World, Below wr.heap.size wr W → W.cell? ⟨g, k * 3, none⟩ = some (.int .i64 bt) ∧ W.cell? ⟨g, k * 3 + 1, none⟩ = some (.int .i64 bs) ∧ W.cell? ⟨g, k * 3 + 2, none⟩ = some (.int .i64 km) ∧ W.cell? ⟨w.heap.size, 4, none⟩ = some (.slice (some ⟨go, oo, none⟩) t.fs.length t.fc) ∧ W.cell? ⟨go, oo + k * 9, none⟩ = some (.string ⟨nm.toArray⟩) ∧ W.cell? ⟨go, oo + k * 9 + 1, none⟩ = some (.int .i64 a1) ∧ W.cell? ⟨go, oo + k * 9 + 2, none⟩ = some (.int .i64 a2) ∧ W.cell? ⟨go, oo + k * 9 + 3, none⟩ = some (.int .i64 a3) ∧ W.cell? ⟨go, oo + k * 9 + 4, none⟩ = some (.slice a4 a4l a4c) ∧ W.cell? ⟨go, oo + k * 9 + 5, none⟩ = some (.slice a5 a5l a5c) ∧ W.cell? ⟨go, oo + k * 9 + 6, none⟩ = some (.bool a6) ∧ W.cell? ⟨go, oo + k * 9 + 7, none⟩ = some (.int .i64 a7) ∧ W.cell? ⟨go, oo + k * 9 + 8, none⟩ = some (.int .i64 bi)) := fun W h => ⟨(h.cell (p := ⟨g, k * 3, none⟩) hg1).trans r0, (h.cell (p := ⟨g, k * 3 + 1, none⟩) hg1).trans r1, (h.cell (p := ⟨g, k * 3 + 2, none⟩) hg1).trans r2, (h.cell (p := ⟨w.heap.size, 4, none⟩) hg3).trans v4, (h.cell (p := ⟨go, oo + k * 9, none⟩) hg2).trans f0, (h.cell (p := ⟨go, oo + k * 9 + 1, none⟩) hg2).trans f1, (h.cell (p := ⟨go, oo + k * 9 + 2, none⟩) hg2).trans f2, (h.cell (p := ⟨go, oo + k * 9 + 3, none⟩) hg2).trans f3, (h.cell (p := ⟨go, oo + k * 9 + 4, none⟩) hg2).trans f4, (h.cell (p := ⟨go, oo + k * 9 + 5, none⟩) hg2).trans f5, (h.cell (p := ⟨go, oo + k * 9 + 6, none⟩) hg2).trans f6, (h.cell (p := ⟨go, oo + k * 9 + 7, none⟩) hg2).trans f7, (h.cell (p := ⟨go, oo + k * 9 + 8, none⟩) hg2).trans f8⟩
      go_upto_region 12 with fail
      go_cut [116] from 54 to 144 (fun c wx => c = .bool false ∧ ∃ m, wx = wr.drewN m)
      case first =>
        rcases unveil HRG with ⟨g1, g2, g3⟩ | ⟨g1, g2, g3⟩
        all_goals
          go_quiet (fail)
          go_wp2_with fail
          go_meet
          case rel => exact ⟨rfl, _, rfl⟩
      case rest =>
        obtain ⟨rfl, mm, rfl⟩ := hcut
        have HB1 : Hid (Below wr.heap.size wr (wr.drewN mm) ∧ (wr.drewN mm).heap.size = wr.heap.size) := ⟨below_drewS (Below.refl _ _) _, rfl⟩
        clear r0 r1 r2 v0 v1 v2 v3 v4 v5 v6 f0 f1 f2 f3 f4 f5 f6 f7 f8
        generalize wr.drewN mm = Wc at *
        obtain ⟨r0, r1, r2, v4, f0, f1, f2, f3, f4, f5, f6, f7, f8⟩ := unveil HFW Wc (unveil HB1).1
        go_upto_region 14 with fail
        go_cut [9] from 54 to 144 (fun c wx => c = .int .i64 (bt + bs) ∧ ∃ m, wx = Wc.drewN m)
        case first =>
          go_quiet (fail)
          go_wp2_with fail
          go_meet
          case rel => exact ⟨rfl, _, rfl⟩
        case rest =>
        obtain ⟨rfl, m2, rfl⟩ := hcut
        have HB2 : Hid (Below wr.heap.size wr (Wc.drewN m2).drew ∧ (Wc.drewN m2).drew.heap.size = wr.heap.size) := ⟨(below_drewS (unveil HB1).1 _).drew, (unveil HB1).2⟩
        clear r0 r1 r2 v4 f0 f1 f2 f3 f4 f5 f6 f7 f8
        go_upto_region 15 with fail
        generalize hWd : (Wc.drewN m2).drew = Wd at *
        refine wp_region_noPanic (wpIn_wide.1 (wpIn_region_mix (ro := none) (n := 0) (fun w' => Hid (Below wr.heap.size wr w'))
          [(0, true), (1, true), (2, true), (3, true), (4, true), (5, true), (6, true), (7, true), (8, true), (9, false)]
          10 hmixW (by kernel_rfl) (by kernel_rfl) (by kernel_rfl) (by kernel_rfl) (by kernel_rfl) (by kernel_rfl) (fun _ _ _ _ h => h) (by rw [hWd]; exact (unveil HB2).1) ?_))
        rw [hWd]
        refine mix_pure _ rfl _ (.inl ⟨rfl, fun W hS => (by obtain ⟨r0, r1, r2, v4, f0, f1, f2, f3, f4, f5, f6, f7, f8⟩ := unveil HFW W (unveil hS); go_simp; rfl)⟩) (fun B hB => ?_); simp only [Act.put, List.setIfInBounds_toArray, List.set_cons_zero, List.set_cons_succ] at hB; subst hB
        refine mix_pure _ rfl _ (.inl ⟨rfl, fun W hS => (by obtain ⟨r0, r1, r2, v4, f0, f1, f2, f3, f4, f5, f6, f7, f8⟩ := unveil HFW W (unveil hS); go_simp; rfl)⟩) (fun B hB => ?_); simp only [Act.put, List.setIfInBounds_toArray, List.set_cons_zero, List.set_cons_succ] at hB; subst hB
        refine mix_pure _ rfl _ (.inl ⟨rfl, fun W hS => (by obtain ⟨r0, r1, r2, v4, f0, f1, f2, f3, f4, f5, f6, f7, f8⟩ := unveil HFW W (unveil hS); go_simp; rfl)⟩) (fun B hB => ?_); simp only [Act.put, List.setIfInBounds_toArray, List.set_cons_zero, List.set_cons_succ] at hB; subst hB
        refine mix_pure _ rfl _ (.inl ⟨rfl, fun W hS => (by obtain ⟨r0, r1, r2, v4, f0, f1, f2, f3, f4, f5, f6, f7, f8⟩ := unveil HFW W (unveil hS); go_simp; rfl)⟩) (fun B hB => ?_); simp only [Act.put, List.setIfInBounds_toArray, List.set_cons_zero, List.set_cons_succ] at hB; subst hB
        refine mix_pure _ rfl _ (.inl ⟨rfl, fun W hS => (by obtain ⟨r0, r1, r2, v4, f0, f1, f2, f3, f4, f5, f6, f7, f8⟩ := unveil HFW W (unveil hS); go_simp; rfl)⟩) (fun B hB => ?_); simp only [Act.put, List.setIfInBounds_toArray, List.set_cons_zero, List.set_cons_succ] at hB; subst hB
        refine mix_pure _ rfl _ (.inl ⟨rfl, fun W hS => (by obtain ⟨r0, r1, r2, v4, f0, f1, f2, f3, f4, f5, f6, f7, f8⟩ := unveil HFW W (unveil hS); go_simp; rfl)⟩) (fun B hB => ?_); simp only [Act.put, List.setIfInBounds_toArray, List.set_cons_zero, List.set_cons_succ] at hB; subst hB
        refine mix_pure _ rfl _ (.inl ⟨rfl, fun W hS => (by obtain ⟨r0, r1, r2, v4, f0, f1, f2, f3, f4, f5, f6, f7, f8⟩ := unveil HFW W (unveil hS); go_simp; rfl)⟩) (fun B hB => ?_); simp only [Act.put, List.setIfInBounds_toArray, List.set_cons_zero, List.set_cons_succ] at hB; subst hB
        refine mix_pure _ rfl _ (.inl ⟨rfl, fun W hS => (by obtain ⟨r0, r1, r2, v4, f0, f1, f2, f3, f4, f5, f6, f7, f8⟩ := unveil HFW W (unveil hS); go_simp; rfl)⟩) (fun B hB => ?_); simp only [Act.put, List.setIfInBounds_toArray, List.set_cons_zero, List.set_cons_succ] at hB; subst hB
        refine mix_pure _ rfl _ (.inl ⟨rfl, fun W hS => (by obtain ⟨r0, r1, r2, v4, f0, f1, f2, f3, f4, f5, f6, f7, f8⟩ := unveil HFW W (unveil hS); go_simp; rfl)⟩) (fun B hB => ?_); simp only [Act.put, List.setIfInBounds_toArray, List.set_cons_zero, List.set_cons_succ] at hB; subst hB
        refine mix_sole _ rfl (fun K hK => ?_)
        go_simp
        refine ⟨trivial, rfl, (callsIn_wide.2 (unveil HST _ (unveil HB2).1)).mono ?_⟩
        rintro e W5 ⟨bb, rfl, hb5, hgd⟩
        have hB5 : Below wr.heap.size wr W5 := (unveil HB2).1.trans (hb5.mono (by rw [(unveil HB2).2]; exact Nat.le_refl _))
        have XT5 := veil ((unveil XTr).below hB5)
        have HB5 := veil hB5
        have HGB : Hid (t.pk = false → bb = true) := fun h => hgd (unveil HGD h)
        refine hK _ _ HB5 ?_
        clear hK K hb5 hB5 hgd
        refine mix_nil ?_
        refine listIn_last rfl (fun K hK => ?_)
        go_simp
        refine hK _ _ ?_
        clear hK K
        have v5 := (unveil XT5).seven.2.2.2.2.2.1
        clear hfp XT5 XTr HB1 HB2 HFW HST HGD HRG hWd hg1 hg2 hg3
        obtain ⟨PK, HPK⟩ : ∃ PK, Hid (t.pk = PK) := ⟨_, rfl⟩
        rw [unveil HPK] at v5 HGB
        cases PK
        · obtain rfl := unveil HGB rfl
          clear HGB
          go_wp2_with fail
          go_roundw
          case rel => exact ⟨k + 1, bt + bs, by go_num, rfl, by omega, unveil HAT, (unveil hbe).trans ((unveil HB5).mono (unveil hbe).size)⟩
          case measure => simp [intOf]; omega
        · go_wp2_with fail
          go_roundw
          case rel => exact ⟨k + 1, bt + bs, by go_num, rfl, by omega, unveil HAT, (unveil hbe).trans ((unveil HB5).mono (unveil hbe).size)⟩
          case measure => simp [intOf]; omega
    · obtain rfl : k = t.fs.length := by omega
      go_wp2_with fail
      go_ret
      exact ⟨by simp, unveil XBr⟩
end Go.Proofs.Ytdmlgdkpimjknaa
