/-
  burinlaw12.ClassMore walked.
-/
import Derived.Test.YtaffldhmgifdoaaIzd
namespace Go.Proofs.Ytaffldhmgifdoaa
open Go Go.RowKit Go.Shelf
attribute [local go_sem] Oper.semAt_some
set_option linter.unusedVariables false
set_option linter.unusedSimpArgs false

set_option maxRecDepth 100000 in
set_option maxHeartbeats 40000000 in
theorem classMore_walk (args0 : List ShT) (q : Option Addr) (cap : Nat) (ret more : ShT) (w : World) (hs0 : TyLs w.heap.size w q args0) (hlc : args0.length ≤ cap) (hcm : cap ≤ maxLen ∧ (q = none → cap = 0)) (hr : ret.In w.heap.size w) (hre : ret.Len) (hmo : more.In w.heap.size w) :
    Calls Try.prog 20 #[.slice q args0.length cap, ret.v, more.v] w fun e w' => e = .returned (.bool true) ∧ Below w.heap.size w w' := by
  have HSH := veil shown12_any
  have hs' := hs0.take 15
  have HNIL := veil hcm.2
  replace hcm := hcm.1
  have hl20 : (args0.take 15).length ≤ 15 := by rw [List.length_take]; omega
  have hl' : (args0.take 15).length ≤ cap := by rw [List.length_take]; omega
  have hmin : min (args0.length : Int) 15 = ((args0.take 15).length : Int) := by rw [List.length_take]; omega
  have hmin2 : (if (args0.length : Int) ≤ 15 then (args0.length : Int) else 15) = ((args0.take 15).length : Int) := by rw [List.length_take]; split <;> omega
  have hmin3 : (if (15 : Int) < (args0.length : Int) then (15 : Int) else (args0.length : Int)) = ((args0.take 15).length : Int) := by rw [List.length_take]; split <;> omega
  have hll : ((args0.take 15).length : Int) ≤ (args0.length : Int) := by rw [List.length_take]; omega
  generalize args0.take 15 = args at *
  have hTY : ∀ W, Below w.heap.size w W → TyLs W.heap.size W q args := fun W h i hi => by obtain ⟨g, o, e, hg, hc, hin⟩ := (hs'.below h) i hi; exact ⟨g, o, e, Nat.lt_of_lt_of_le hg h.size, hc, hin.mono h.size⟩
  have HPA : Hid (∀ W, Below w.heap.size w W → Calls Try.prog 48 #[.slice q args.length cap, ret.v] W (PasP W (pasM (samM (SizeOf.sizeOf ret + 1) ret emT) args ret))) := fun W h =>
    Pass_any args q cap ret W (by unfold maxLen; omega) (hTY W h) ((hr.below h).mono h.size) hre
  have HPB : Hid (∀ q6 c6 W, Below w.heap.size w W → TyLs W.heap.size W q6 (args ++ [more]) → Calls Try.prog 48 #[.slice q6 (args ++ [more]).length c6, ret.v] W (PasP W (pasM (samM (SizeOf.sizeOf ret + 1) ret emT) (args ++ [more]) ret))) := fun q6 c6 W h ht =>
    Pass_any (args ++ [more]) q6 c6 ret W (by rw [List.length_append]; unfold maxLen; simp; omega) ht ((hr.below h).mono h.size) hre
  have HIN0 : Hid (∀ W, Below w.heap.size w W → ∀ t ∈ args ++ [more], t.In W.heap.size W) := fun W h t ht => by
    rcases List.mem_append.1 ht with ht | ht
    · obtain ⟨i, hi, rfl⟩ := List.mem_iff_getElem.1 ht
      obtain ⟨g, o, _, _, _, hin⟩ := hs' i hi
      exact (hin.below h).mono h.size
    · obtain rfl := List.mem_singleton.1 ht
      exact (hmo.below h).mono h.size
  have HSRC0 : Hid (∀ W ad, q = some ad → Below w.heap.size w W → ∀ (j : Nat) (u : Value), (tyCs args)[j]? = some u → W.cell? (ad.add j) = some u) := fun W ad e h j u hu => by
    have hj : 0 < args.length := by
      have := (List.getElem?_eq_some_iff.1 hu).1
      rw [tyCs_len] at this
      omega
    obtain ⟨g, o, e2, _⟩ := hs' 0 hj
    rw [e] at e2
    cases e2
    subst e
    exact tyCs_src (hs'.below h) j u hu
  have hLL := pas_len (samM (SizeOf.sizeOf ret + 1) ret emT) args ret
  have hLL2 := pas_len (samM (SizeOf.sizeOf ret + 1) ret emT) (args ++ [more]) ret
  have HMO := veil (pas_more (samM (SizeOf.sizeOf ret + 1) ret emT) args ret more)
  have HT0 : Hid (TyB ((w.alloc (.cells ret.cs 25)).alloc (.cells more.cs 25)) w.heap.size ret ∧ TyB ((w.alloc (.cells ret.cs 25)).alloc (.cells more.cs 25)) (w.heap.size + 1) more ∧ Below w.heap.size w ((w.alloc (.cells ret.cs 25)).alloc (.cells more.cs 25))) := by
    have h1 := TyB.new (w.alloc (.cells ret.cs 25)) more
    rw [World.size_alloc] at h1
    exact ⟨(TyB.new w ret).alloc _, h1, below_new2 w _ _⟩
  clear hs0 hs' hr hre hTY hmo
  generalize pasM (samM (SizeOf.sizeOf ret + 1) ret emT) args ret = PM at *
  generalize pasM (samM (SizeOf.sizeOf ret + 1) ret emT) (args ++ [more]) ret = PN at *
  obtain ⟨⟨L, n⟩, er⟩ := PM
  obtain ⟨⟨M, n2⟩, er2⟩ := PN
  unfold PasP at HPA HPB
  simp only at HPA HPB hLL hLL2 HMO
  have hlen1 : (args ++ [more]).length = args.length + 1 := by simp
  rw [hlen1] at HPB
  clear hlen1
  unfold ShT.v ShT.cs at HPA HPB ⊢
  unfold ShT.cs at HT0
  go_enter Try.func20, Try.ntmps20
  go_upto_region 1 with fail
  generalize ((w.alloc (.cells #[.int .i64 ret.sh, .int .i64 ret.k, .int .i64 ret.n, .slice ret.op ret.of.length ret.oc, .slice ret.fp ret.fs.length ret.fc, .bool ret.pk, .int .i64 ret.al] 25)).alloc (.cells #[.int .i64 more.sh, .int .i64 more.k, .int .i64 more.n, .slice more.op more.of.length more.oc, .slice more.fp more.fs.length more.fc, .bool more.pk, .int .i64 more.al] 25)) = W0 at HT0 ⊢
  go_upto_region 2 with (go_at_call 44; refine (unveil HSH _).mono ?_; rintro e W1 ⟨rfl, hb1⟩; have HT1 := veil (And.intro ((unveil HT0).1.below hb1) (And.intro ((unveil HT0).2.1.below hb1) ((unveil HT0).2.2.trans (hb1.mono (unveil HT0).2.2.size)))); clear hb1)
  go_upto_region 3 with fail
  obtain ⟨y0, y1, y2, y3, y4, y5, y6⟩ := (unveil HT1).1.seven
  clear hmin hmin2 hmin3 hll HSH
  go_upto_region 4 with (go_at_call 48; refine (unveil HPA _ (unveil HT1).2.2).mono ?_; rintro e W2 ⟨v, rfl, hown, hb2⟩; obtain ⟨qv, cv, rfl⟩ := row_slice hown; have HO2 := veil (LcG.of_own hown); have HT2 := veil (And.intro ((unveil HT1).1.below hb2) (And.intro ((unveil HT1).2.1.below hb2) ((unveil HT1).2.2.trans (hb2.mono (unveil HT1).2.2.size)))); clear hown hb2)
  clear y0 y1 y2 y3 y4 y5 y6 HT0 HT1 HPA
  have hwW : w.heap.size ≤ W2.heap.size := (unveil HT2).2.2.size
  go_cut [11, 12, 13] from 27 to 70 (fun mv nv ev wx => ∃ qm cm, mv = .slice qm M.length cm ∧ nv = .int .i64 n2 ∧ ev = .int .i64 er2 ∧ M.length ≤ cm ∧ Hid (LcG wx.heap.size wx qm M) ∧ Below W2.heap.size W2 wx)
  case first =>
    have HCC : Hid (∀ W, Hid (Below W2.heap.size W2 W) → (W.cell? ⟨w.heap.size, 0, none⟩ = some (.int .i64 ret.sh) ∧ W.cell? ⟨w.heap.size, 1, none⟩ = some (.int .i64 ret.k) ∧ W.cell? ⟨w.heap.size, 2, none⟩ = some (.int .i64 ret.n) ∧ W.cell? ⟨w.heap.size, 3, none⟩ = some (.slice ret.op ret.of.length ret.oc) ∧ W.cell? ⟨w.heap.size, 4, none⟩ = some (.slice ret.fp ret.fs.length ret.fc) ∧ W.cell? ⟨w.heap.size, 5, none⟩ = some (.bool ret.pk) ∧ W.cell? ⟨w.heap.size, 6, none⟩ = some (.int .i64 ret.al)) ∧
      (W.cell? ⟨w.heap.size + 1, 0, none⟩ = some (.int .i64 more.sh) ∧ W.cell? ⟨w.heap.size + 1, 1, none⟩ = some (.int .i64 more.k) ∧ W.cell? ⟨w.heap.size + 1, 2, none⟩ = some (.int .i64 more.n) ∧ W.cell? ⟨w.heap.size + 1, 3, none⟩ = some (.slice more.op more.of.length more.oc) ∧ W.cell? ⟨w.heap.size + 1, 4, none⟩ = some (.slice more.fp more.fs.length more.fc) ∧ W.cell? ⟨w.heap.size + 1, 5, none⟩ = some (.bool more.pk) ∧ W.cell? ⟨w.heap.size + 1, 6, none⟩ = some (.int .i64 more.al))) := fun W h =>
      ⟨((unveil HT2).1.below (unveil h)).seven, ((unveil HT2).2.1.below (unveil h)).seven⟩
    have HPA2 : Hid (∀ q6 c6 W, Below W2.heap.size W2 W → TyLs W.heap.size W q6 (args ++ [more]) → _) := fun q6 c6 W h ht => unveil HPB q6 c6 W ((unveil HT2).2.2.trans (h.mono hwW)) ht
    have HINW : Hid (∀ W, Below W2.heap.size W2 W → ∀ t ∈ args ++ [more], t.In W.heap.size W) := fun W h => unveil HIN0 W ((unveil HT2).2.2.trans (h.mono hwW))
    have HSRC : Hid (∀ W ad, q = some ad → Below W2.heap.size W2 W → ∀ (j : Nat) (u : Value), (tyCs args)[j]? = some u → W.cell? (ad.add j) = some u) := fun W ad e h => unveil HSRC0 W ad e ((unveil HT2).2.2.trans (h.mono hwW))
    obtain ⟨i0, hi, hq0, hq1, hq2⟩ := info_parts infoTy
    have hwr : IntKind.i64.wrap ((args.length : Int) + 1) = (args.length : Int) + 1 := by rw [IntKind.wrap_i64]; omega
    refine wp_region_noPanic (wpIn_wide.1 (wpIn_region_sch (ro := none) (n := 0) (fun w' => Hid (Below W2.heap.size W2 w'))
      (.pure 0 (.pure 1 (.pure 2 (.pure 4 (.pure 6 (.pure 9 (.both 3 7
        (.both 5 7 (.sole 7 (.sole 8 (.sole 10 (.pure 11 (.pure 12 (.pure 13 (.pure 14 (.pure 15 (.pure 16 .done))))))))) (.sole 5 (.sole 8 (.sole 10 (.pure 11 (.pure 12 (.pure 13 (.pure 14 (.pure 15 (.pure 16 .done))))))))))
        (.sole 3 (.sole 5 (.sole 8 (.sole 10 (.pure 11 (.pure 12 (.pure 13 (.pure 14 (.pure 15 (.pure 16 .done)))))))))))))))))
      17 hmixP (by kernel_rfl) (by kernel_rfl) (by kernel_rfl) (by kernel_rfl) (by kernel_rfl) (by kernel_rfl) (fun _ _ _ _ h => h) (veil (Below.refl _ W2).drew) ?_))
    iterate 2 (
      refine sch_pure _ rfl _ (.inl ⟨rfl, fun W hS => (by obtain ⟨⟨x0, x1, x2, x3, x4, x5, x6⟩, ⟨z0, z1, z2, z3, z4, z5, z6⟩⟩ := unveil HCC W hS; go_simp; rfl)⟩) (fun B hB => ?_)
      simp only [Act.put, List.setIfInBounds_toArray, List.set_cons_zero, List.set_cons_succ] at hB
      subst hB)
    refine sch_pure _ rfl (.int .i64 ((args.length : Int) + 1)) (.inl ⟨rfl, fun W hS => (by go_simp; first | done | rw [hwr])⟩) (fun B hB => ?_)
    simp only [Act.put, List.setIfInBounds_toArray, List.set_cons_zero, List.set_cons_succ] at hB
    subst hB
    iterate 3 (
      refine sch_pure _ rfl _ (.inl ⟨rfl, fun W hS => (by obtain ⟨⟨x0, x1, x2, x3, x4, x5, x6⟩, ⟨z0, z1, z2, z3, z4, z5, z6⟩⟩ := unveil HCC W hS; go_simp; rfl)⟩) (fun B hB => ?_)
      simp only [Act.put, List.setIfInBounds_toArray, List.set_cons_zero, List.set_cons_succ] at hB
      subst hB)
    have HBE0 : Below W2.heap.size W2 W2.drew := (Below.refl _ W2).drew
    refine sch_both ?_ ?_
    · refine sch_sole _ rfl (fun K hK => ?_)
      refine stepIn_make (by rfl) _ _ 22 (by rfl) W2.heap.size 25 i0 _ 7 Try.underlying22 hi hq0 hq1 .i64 .i64 ((args.length : Int) + 1) (args.length + 1) (by rfl) (by rfl) (by push_cast; rfl) (by rw [hq2]; omega) (by unfold maxLen; omega) HBE0.size ?_
      intro W4 hown4 hg4
      have HBE4 : Below W2.heap.size W2 W4 := HBE0.grown hg4 HBE0.size (fun r e => by cases e)
      refine hK _ _ (veil HBE4) ?_
      clear hK K
      have hAX4 : W2.drew.heap.size < W4.heap.size := by obtain ⟨_, ⟨hx, _⟩ | ⟨g, cp, cur, he, _, hg, _⟩⟩ := hown4; exact absurd hx (by simp); cases he; exact (Array.getElem?_eq_some_iff.1 hg).1
      have HOM4 := hown4
      generalize hAX : W2.drew.heap.size = AX at *
      refine sch_both ?_ ?_
      · have HOM := HOM4
        have HBC := HBE4
        refine sch_sole _ rfl (fun K hK => ?_)
        refine stepIn_append_src (by rfl) _ _ 22 (by rfl) W2.heap.size 25 i0 _ 7 88 Try.underlying22 hi hq0 hq1 hq2 rfl (by decide) (.slice (some ⟨AX, 0, none⟩) 0 (args.length + 1)) 0 [] (by rfl) HOM q args.length cap (tyCs args) (by rfl) (tyCs_len args) (fun h => (by have := unveil HNIL h; omega)) (fun ad h => unveil HSRC W4 ad h HBC) (tyCs_one args) (by unfold maxLen; omega) (by omega) HBC.size ?_
        intro v5 W5 hown5 hg5
        rw [Nat.zero_add, List.nil_append] at hown5
        obtain ⟨qa, ca, rfl⟩ := row_slice hown5
        have HB5 : Below W2.heap.size W2 W5 := HBC.grown hg5 HBC.size (fun r e => (row_turnS HOM r e).1)
        refine hK _ _ (veil HB5) ?_
        clear hK K
        refine sch_sole _ rfl (fun K hK => ?_)
        go_simp
        refine hK _ _ (veil (HB5.alloc HB5.size (.cells #[.int .i64 more.sh, .int .i64 more.k, .int .i64 more.n, .slice more.op more.of.length more.oc, .slice more.fp more.fs.length more.fc, .bool more.pk, .int .i64 more.al] 25))) ?_
        clear hK K
        have HOA := hown5.alloc (.cells #[.int .i64 more.sh, .int .i64 more.k, .int .i64 more.n, .slice more.op more.of.length more.oc, .slice more.fp more.fs.length more.fc, .bool more.pk, .int .i64 more.al] 25)
        have HBK : Bk (W5.alloc (.cells #[.int .i64 more.sh, .int .i64 more.k, .int .i64 more.n, .slice more.op more.of.length more.oc, .slice more.fp more.fs.length more.fc, .bool more.pk, .int .i64 more.al] 25)) W5.heap.size 25 (tyC more).toArray := Bk.new W5 _ _
        have HBE := HB5.alloc HB5.size (.cells #[.int .i64 more.sh, .int .i64 more.k, .int .i64 more.n, .slice more.op more.of.length more.oc, .slice more.fp more.fs.length more.fc, .bool more.pk, .int .i64 more.al] 25)
        generalize hBX : W5.heap.size = BX at *
        generalize (W5.alloc (.cells #[.int .i64 more.sh, .int .i64 more.k, .int .i64 more.n, .slice more.op more.of.length more.oc, .slice more.fp more.fs.length more.fc, .bool more.pk, .int .i64 more.al] 25)) = WD at *
        refine sch_sole _ rfl (fun K hK => ?_)
        refine stepIn_append (by rfl) _ _ 22 (by rfl) W2.heap.size 25 i0 _ 7 88 Try.underlying22 hi hq0 hq1 hq2 rfl (by decide) (.slice qa args.length ca) args.length (tyCs args) (by rfl) HOA ⟨BX, 0, none⟩ 1 1 (tyC more) (by rfl) rfl (tyC_src HBK) (tyC_one more) (by unfold maxLen; omega) (by omega) (by have := HBE.size; omega) ?_
        intro v6 W6 hown6 hg6
        have HB6 : Below W2.heap.size W2 W6 := HBE.grown hg6 HBE.size (fun r e => (row_turnS HOA r e).1)
        have hown7 : W6.ownsRow W2.heap.size 25 7 v6 (args.length + 1) (tyCs (args ++ [more])) := by
          have e : tyCs (args ++ [more]) = tyCs args ++ tyC more := tyCs_snoc args more
          rw [e]
          exact hown6
        obtain ⟨q6, c6, hv6, hty6⟩ := ty_row hown7 (by rw [List.length_append]; rfl) (unveil HINW W6 HB6)
        have hv7 : v6 = .slice q6 (args.length + 1) c6 := by rw [hv6, List.length_append]; rfl
        subst hv7
        clear hv6
        refine hK _ _ (veil HB6) ?_
        clear hK K
        refine sch_sole _ rfl (fun K hK => ?_)
        go_simp
        refine ⟨trivial, rfl, (callsIn_wide.2 (unveil HPA2 q6 c6 W6 HB6 hty6)).mono ?_⟩
        rintro e W7 ⟨v7, rfl, hown8, h7⟩
        obtain ⟨qm, cm, rfl⟩ := row_slice hown8
        have HB7 : Below W2.heap.size W2 W7 := HB6.trans (h7.mono HB6.size)
        have HLM := veil (LcG.of_own hown8)
        have hcm2 := row_cap hown8
        refine hK _ _ (veil HB7) ?_
        clear hK K h7 hown8
        iterate 6 (
          refine sch_pure _ rfl _ (.inl ⟨rfl, fun W hS => (by go_simp; rfl)⟩) (fun B hB => ?_)
          simp only [List.getElem_toArray, List.getElem_cons_zero, List.getElem_cons_succ, Act.put, List.setIfInBounds_toArray, List.set_cons_zero, List.set_cons_succ] at hB
          subst hB)
        refine sch_done ?_
        refine listIn_last rfl (fun K hK => ?_)
        go_simp
        refine hK _ _ ?_
        clear hK K
        go_wp2_with fail
        go_meet
        case rel => exact ⟨qm, cm, rfl, rfl, rfl, hcm2, HLM, HB7⟩
      · refine sch_sole _ rfl (fun K hK => ?_)
        go_simp
        refine hK _ _ (veil (HBE4.alloc HBE4.size (.cells #[.int .i64 more.sh, .int .i64 more.k, .int .i64 more.n, .slice more.op more.of.length more.oc, .slice more.fp more.fs.length more.fc, .bool more.pk, .int .i64 more.al] 25))) ?_
        clear hK K
        have HOM := HOM4.alloc (.cells #[.int .i64 more.sh, .int .i64 more.k, .int .i64 more.n, .slice more.op more.of.length more.oc, .slice more.fp more.fs.length more.fc, .bool more.pk, .int .i64 more.al] 25)
        have HBK0 : Bk (W4.alloc (.cells #[.int .i64 more.sh, .int .i64 more.k, .int .i64 more.n, .slice more.op more.of.length more.oc, .slice more.fp more.fs.length more.fc, .bool more.pk, .int .i64 more.al] 25)) W4.heap.size 25 (tyC more).toArray := Bk.new W4 _ _
        have HBC := HBE4.alloc HBE4.size (.cells #[.int .i64 more.sh, .int .i64 more.k, .int .i64 more.n, .slice more.op more.of.length more.oc, .slice more.fp more.fs.length more.fc, .bool more.pk, .int .i64 more.al] 25)
        generalize hBX : W4.heap.size = BX at *
        generalize (W4.alloc (.cells #[.int .i64 more.sh, .int .i64 more.k, .int .i64 more.n, .slice more.op more.of.length more.oc, .slice more.fp more.fs.length more.fc, .bool more.pk, .int .i64 more.al] 25)) = WC at *
        refine sch_sole _ rfl (fun K hK => ?_)
        refine stepIn_append_src (by rfl) _ _ 22 (by rfl) W2.heap.size 25 i0 _ 7 88 Try.underlying22 hi hq0 hq1 hq2 rfl (by decide) (.slice (some ⟨AX, 0, none⟩) 0 (args.length + 1)) 0 [] (by rfl) HOM q args.length cap (tyCs args) (by rfl) (tyCs_len args) (fun h => (by have := unveil HNIL h; omega)) (fun ad h => unveil HSRC WC ad h HBC) (tyCs_one args) (by unfold maxLen; omega) (by omega) HBC.size ?_
        intro v5 W5 hown5 hg5
        rw [Nat.zero_add, List.nil_append] at hown5
        obtain ⟨qa, ca, rfl⟩ := row_slice hown5
        have HB5 : Below W2.heap.size W2 W5 := HBC.grown hg5 HBC.size (fun r e => (row_turnS HOM r e).1)
        refine hK _ _ (veil HB5) ?_
        clear hK K
        have HOA := hown5
        have HBE := HB5
        have HBK : Bk W5 BX 25 (tyC more).toArray := (hg5.block BX HBK0.lt (fun e => by have : BX = AX := (by simpa [Value.ownBlock] using e); omega)).trans HBK0
        refine sch_sole _ rfl (fun K hK => ?_)
        refine stepIn_append (by rfl) _ _ 22 (by rfl) W2.heap.size 25 i0 _ 7 88 Try.underlying22 hi hq0 hq1 hq2 rfl (by decide) (.slice qa args.length ca) args.length (tyCs args) (by rfl) HOA ⟨BX, 0, none⟩ 1 1 (tyC more) (by rfl) rfl (tyC_src HBK) (tyC_one more) (by unfold maxLen; omega) (by omega) (by have := HBE.size; omega) ?_
        intro v6 W6 hown6 hg6
        have HB6 : Below W2.heap.size W2 W6 := HBE.grown hg6 HBE.size (fun r e => (row_turnS HOA r e).1)
        have hown7 : W6.ownsRow W2.heap.size 25 7 v6 (args.length + 1) (tyCs (args ++ [more])) := by
          have e : tyCs (args ++ [more]) = tyCs args ++ tyC more := tyCs_snoc args more
          rw [e]
          exact hown6
        obtain ⟨q6, c6, hv6, hty6⟩ := ty_row hown7 (by rw [List.length_append]; rfl) (unveil HINW W6 HB6)
        have hv7 : v6 = .slice q6 (args.length + 1) c6 := by rw [hv6, List.length_append]; rfl
        subst hv7
        clear hv6
        refine hK _ _ (veil HB6) ?_
        clear hK K
        refine sch_sole _ rfl (fun K hK => ?_)
        go_simp
        refine ⟨trivial, rfl, (callsIn_wide.2 (unveil HPA2 q6 c6 W6 HB6 hty6)).mono ?_⟩
        rintro e W7 ⟨v7, rfl, hown8, h7⟩
        obtain ⟨qm, cm, rfl⟩ := row_slice hown8
        have HB7 : Below W2.heap.size W2 W7 := HB6.trans (h7.mono HB6.size)
        have HLM := veil (LcG.of_own hown8)
        have hcm2 := row_cap hown8
        refine hK _ _ (veil HB7) ?_
        clear hK K h7 hown8
        iterate 6 (
          refine sch_pure _ rfl _ (.inl ⟨rfl, fun W hS => (by go_simp; rfl)⟩) (fun B hB => ?_)
          simp only [List.getElem_toArray, List.getElem_cons_zero, List.getElem_cons_succ, Act.put, List.setIfInBounds_toArray, List.set_cons_zero, List.set_cons_succ] at hB
          subst hB)
        refine sch_done ?_
        refine listIn_last rfl (fun K hK => ?_)
        go_simp
        refine hK _ _ ?_
        clear hK K
        go_wp2_with fail
        go_meet
        case rel => exact ⟨qm, cm, rfl, rfl, rfl, hcm2, HLM, HB7⟩
    · refine sch_sole _ rfl (fun K hK => ?_)
      go_simp
      refine hK _ _ (veil (((Below.refl _ W2).alloc (Nat.le_refl _) (.cells #[.int .i64 more.sh, .int .i64 more.k, .int .i64 more.n, .slice more.op more.of.length more.oc, .slice more.fp more.fs.length more.fc, .bool more.pk, .int .i64 more.al] 25)).drew)) ?_
      clear hK K
      have HBK0 : Bk (W2.alloc (.cells #[.int .i64 more.sh, .int .i64 more.k, .int .i64 more.n, .slice more.op more.of.length more.oc, .slice more.fp more.fs.length more.fc, .bool more.pk, .int .i64 more.al] 25)).drew W2.heap.size 25 (tyC more).toArray := Bk.new W2 _ _
      have HBE1 : Below W2.heap.size W2 (W2.alloc (.cells #[.int .i64 more.sh, .int .i64 more.k, .int .i64 more.n, .slice more.op more.of.length more.oc, .slice more.fp more.fs.length more.fc, .bool more.pk, .int .i64 more.al] 25)).drew := ((Below.refl _ W2).alloc (Nat.le_refl _) _).drew
      generalize (W2.alloc (.cells #[.int .i64 more.sh, .int .i64 more.k, .int .i64 more.n, .slice more.op more.of.length more.oc, .slice more.fp more.fs.length more.fc, .bool more.pk, .int .i64 more.al] 25)).drew = WB at *
      refine sch_sole _ rfl (fun K hK => ?_)
      refine stepIn_make (by rfl) _ _ 22 (by rfl) W2.heap.size 25 i0 _ 7 Try.underlying22 hi hq0 hq1 .i64 .i64 ((args.length : Int) + 1) (args.length + 1) (by rfl) (by rfl) (by push_cast; rfl) (by rw [hq2]; omega) (by unfold maxLen; omega) HBE1.size ?_
      intro W4 hown4 hg4
      have HBE4 : Below W2.heap.size W2 W4 := HBE1.grown hg4 HBE1.size (fun r e => by cases e)
      refine hK _ _ (veil HBE4) ?_
      clear hK K
      have HOM := hown4
      have HBC := HBE4
      have HBK4 : Bk W4 W2.heap.size 25 (tyC more).toArray := (hg4.block W2.heap.size HBK0.lt (fun e => by cases e)).trans HBK0
      have hBA := HBK0.lt
      generalize hAX : WB.heap.size = AX at *
      refine sch_sole _ rfl (fun K hK => ?_)
      refine stepIn_append_src (by rfl) _ _ 22 (by rfl) W2.heap.size 25 i0 _ 7 88 Try.underlying22 hi hq0 hq1 hq2 rfl (by decide) (.slice (some ⟨AX, 0, none⟩) 0 (args.length + 1)) 0 [] (by rfl) HOM q args.length cap (tyCs args) (by rfl) (tyCs_len args) (fun h => (by have := unveil HNIL h; omega)) (fun ad h => unveil HSRC W4 ad h HBC) (tyCs_one args) (by unfold maxLen; omega) (by omega) HBC.size ?_
      intro v5 W5 hown5 hg5
      rw [Nat.zero_add, List.nil_append] at hown5
      obtain ⟨qa, ca, rfl⟩ := row_slice hown5
      have HB5 : Below W2.heap.size W2 W5 := HBC.grown hg5 HBC.size (fun r e => (row_turnS HOM r e).1)
      refine hK _ _ (veil HB5) ?_
      clear hK K
      have HOA := hown5
      have HBE := HB5
      have HBK : Bk W5 W2.heap.size 25 (tyC more).toArray := (hg5.block W2.heap.size HBK4.lt (fun e => by have : W2.heap.size = AX := (by simpa [Value.ownBlock] using e); omega)).trans HBK4
      refine sch_sole _ rfl (fun K hK => ?_)
      refine stepIn_append (by rfl) _ _ 22 (by rfl) W2.heap.size 25 i0 _ 7 88 Try.underlying22 hi hq0 hq1 hq2 rfl (by decide) (.slice qa args.length ca) args.length (tyCs args) (by rfl) HOA ⟨W2.heap.size, 0, none⟩ 1 1 (tyC more) (by rfl) rfl (tyC_src HBK) (tyC_one more) (by unfold maxLen; omega) (by omega) (by have := HBE.size; omega) ?_
      intro v6 W6 hown6 hg6
      have HB6 : Below W2.heap.size W2 W6 := HBE.grown hg6 HBE.size (fun r e => (row_turnS HOA r e).1)
      have hown7 : W6.ownsRow W2.heap.size 25 7 v6 (args.length + 1) (tyCs (args ++ [more])) := by
        have e : tyCs (args ++ [more]) = tyCs args ++ tyC more := tyCs_snoc args more
        rw [e]
        exact hown6
      obtain ⟨q6, c6, hv6, hty6⟩ := ty_row hown7 (by rw [List.length_append]; rfl) (unveil HINW W6 HB6)
      have hv7 : v6 = .slice q6 (args.length + 1) c6 := by rw [hv6, List.length_append]; rfl
      subst hv7
      clear hv6
      refine hK _ _ (veil HB6) ?_
      clear hK K
      refine sch_sole _ rfl (fun K hK => ?_)
      go_simp
      refine ⟨trivial, rfl, (callsIn_wide.2 (unveil HPA2 q6 c6 W6 HB6 hty6)).mono ?_⟩
      rintro e W7 ⟨v7, rfl, hown8, h7⟩
      obtain ⟨qm, cm, rfl⟩ := row_slice hown8
      have HB7 : Below W2.heap.size W2 W7 := HB6.trans (h7.mono HB6.size)
      have HLM := veil (LcG.of_own hown8)
      have hcm2 := row_cap hown8
      refine hK _ _ (veil HB7) ?_
      clear hK K h7 hown8
      iterate 6 (
        refine sch_pure _ rfl _ (.inl ⟨rfl, fun W hS => (by go_simp; rfl)⟩) (fun B hB => ?_)
        simp only [List.getElem_toArray, List.getElem_cons_zero, List.getElem_cons_succ, Act.put, List.setIfInBounds_toArray, List.set_cons_zero, List.set_cons_succ] at hB
        subst hB)
      refine sch_done ?_
      refine listIn_last rfl (fun K hK => ?_)
      go_simp
      refine hK _ _ ?_
      clear hK K
      go_wp2_with fail
      go_meet
      case rel => exact ⟨qm, cm, rfl, rfl, rfl, hcm2, HLM, HB7⟩
  case rest =>
  obtain ⟨qm, cm, rfl, rfl, rfl, hmc, HLM, hbx⟩ := hcut
  have HBW := veil ((unveil HT2).2.2.trans (hbx.mono (unveil HT2).2.2.size))
  have HOX := veil (((unveil HO2).below hbx).mono hbx.size)
  clear HPB HIN0 HSRC0 HT2 HO2 hbx HNIL
  by_cases he1 : er = 0
  · by_cases he2 : er2 = 0
    · obtain ⟨⟨p1, p2⟩, p3⟩ := unveil HMO he1 he2
      subst he1 he2
      have HLT : Hid (LcG wc.heap.size wc qm L) := by
        have := (unveil HLM).take L.length
        rw [p2] at this
        exact this
      have HSL := veil (sameLocs_any L qm qv cm cv wc (by omega) (unveil HLT) (unveil HOX))
      clear HMO HLM HLT HOX p2
      have g0 : (M.length : Int) ≥ (L.length : Int) := by omega
      have g1 : (L.length : Int) ≤ (cm : Int) := by omega
      go_wp2_with (go_at_call 50; refine (unveil HSL).mono ?_; rintro e W4 ⟨rfl, hb4⟩; have HB4 := veil ((unveil HBW).trans (hb4.mono (unveil HBW).size)); clear hb4)
      go_ret
      exact ⟨by simp [p3], unveil HB4⟩
    · have i2 : (er2 == 0) = false := by simp [he2]
      have i3 : (er2 != 0) = true := by simp [he2]
      go_wp2_with fail
      go_ret
      exact ⟨rfl, unveil HBW⟩
  · have i2 : (er == 0) = false := by simp [he1]
    have i3 : (er != 0) = true := by simp [he1]
    go_wp2_with fail
    go_ret
    exact ⟨rfl, unveil HBW⟩
end Go.Proofs.Ytaffldhmgifdoaa
