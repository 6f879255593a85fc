/-
  The document's own leaves: structs and unions.
-/
import Derived.Test.YtaffldhmgifdoaaMj
import Derived.Test.YtaffldhmgifdoaaZ6
import Derived.Maps.OwnIn
namespace Go.Proofs.Ytaffldhmgifdoaa
open Go Go.RowKit Go.Shelf
set_option linter.unusedVariables false
set_option linter.unusedSimpArgs false

/-- Within a round: the member's box besides. -/
structure RmF (w : World) (S1 : Nat) (t : ShT) (Bb : Nat) (z a : Int) (bv : Value) (L : List Mb) (row : Option Nat) (FB : Nat) (f : FdOf ShT) (W : World) : Prop where
  s : RlS w S1 t Bb z a bv L row W
  f : Bk W FB 45 f.cs
theorem RmF.below {w : World} {S1 : Nat} {t : ShT} {Bb : Nat} {z a : Int} {bv : Value} {L : List Mb} {row : Option Nat} {FB : Nat} {f : FdOf ShT} {W W' : World} (h : RmF w S1 t Bb z a bv L row FB f W) (hb : Below W.heap.size W W') : RmF w S1 t Bb z a bv L row FB f W' :=
  ⟨h.s.turn (below_grown hb) (fun r e => by cases e), h.f.below hb⟩
set_option maxRecDepth 100000 in
set_option maxHeartbeats 40000000 in
theorem rl_mem (t : ShT) (fr z a : Int) (C F : Nat → List Mb) (L : List Mb) (base : Nat) (P : List Mb) (v : Value) (w : World) (hv : w.ownsRow base 42 3 v P.length (spCs P)) (hl : P.length ≤ 2000) (hN : base ≤ w.heap.size) (h1 : (t.sh == 1) = false) (h2 : (t.sh == 2) = false) (h3 : (t.sh == 3) = false)
    (hfl : t.fs.length ≤ 40) (hLl : L.length = t.fs.length) (h0 : 0 ≤ fr) (hf : fr ≤ 268435456) (hin : t.In base w) (hLb : ∀ (k : Nat) (h' : k < L.length), 0 ≤ L[k].bit ∧ L[k].bit ≤ 20992320)
    (hC0 : C 0 = P) (hCl : ∀ k, (C k).length ≤ 2001) (hCs : ∀ k, cut (C k ++ F k) = C (k + 1)) (hCn : ∀ k, k ≤ t.fs.length → ¬ (C k).length ≤ 2000 → C t.fs.length = C k)
    (hF : ∀ (k : Nat) (h : k < t.fs.length) (h' : k < L.length), (t.fs[k].bits = 0 → F k = []) ∧ (0 < t.fs[k].bits → F k = [⟨fr + L[k].bit, t.fs[k].bits, t.fs[k].t.k, 0⟩]))
    (hbt : ∀ o, Calls Try.prog 55 #[t.v] (w.alloc o) (BxP (w.alloc o) z a false L))
    (hrl : ∀ (k : Nat) (h : k < t.fs.length) (h' : k < L.length), t.fs[k].bits < 0 → ∀ (Q : List Mb) (u : Value) (W : World), W.ownsRow base 42 3 u Q.length (spCs Q) → Q.length ≤ 2001 → t.fs[k].t.In base W → base ≤ W.heap.size → Calls Try.prog 58 #[u, t.fs[k].t.v, .int .i64 (fr + L[k].bit)] W (RlP base W u (cut (Q ++ F k)))) :
    Calls Try.prog 58 #[v, t.v, .int .i64 fr] w (RlP base w v (C t.fs.length)) := by
  obtain ⟨row, hrow⟩ : ∃ row, v.ownBlock = row := ⟨_, rfl⟩
  have hrb : ∀ r, row = some r → base ≤ r := fun r e => (own_lt hv r (hrow ▸ e)).1
  have HIN := veil hin
  have HBT := veil hbt
  have HRL := veil hrl
  have HNW := veil (fun W1 h bv hl => RlS.new (w := w) (W1 := W1) t z a (bv := bv) (L := L) hv h hl)
  rw [hrow] at HNW
  obtain ⟨q, c, rfl⟩ := row_slice hv
  have hgt : ¬ ((P.length : Nat) : Int) > 2000 := by omega
  have HV := veil hv
  have HN := veil hN
  have HRB := veil hrb
  have HRW := veil hrow
  have HC0 := veil hC0
  have HCl := veil hCl
  have HCs := veil hCs
  have HCn := veil hCn
  have HFF := veil hF
  have HLB := veil hLb
  have HLL := veil hLl
  have HFL := veil hfl
  clear hv hN hbt hrl hrb hC0 hCl hCs hCn hin hrow hl hF hLb hLl hfl
  unfold ShT.v ShT.cs at *
  unfold bxC at HNW
  go_enter Try.func58, Try.ntmps58
  go_upto_region 4 with (go_at_call 55; refine (unveil HBT _).mono ?_; rintro e W1 ⟨s, al, uq, un, uc, he, hb1, hpost⟩; obtain ⟨rfl, rfl, hrow⟩ := hpost rfl; unfold bxC at he; subst he; have HS := veil (unveil HNW W1 hb1 _ hrow); have HVW := veil (row_far ((unveil HV).alloc (.cells #[.int .i64 t.sh, .int .i64 t.k, .int .i64 t.n, .slice t.op t.of.length t.oc, .slice t.fp t.fs.length t.fc, .bool t.pk, .int .i64 t.al] 25)) (below_grown hb1) (fun r e => by cases e)); clear hb1 hrow hpost)
  have HV2 := veil ((unveil HVW).alloc (.cells #[.int .i64 s, .int .i64 al, .bool false, .slice uq un uc] 32))
  generalize (W1.alloc (.cells #[.int .i64 s, .int .i64 al, .bool false, .slice uq un uc] 32)) = W2 at HS HV2 ⊢
  generalize hS1 : W1.heap.size + 1 = S1 at *
  generalize W1.heap.size = Bb at HS ⊢
  clear hS1 HNW HBT HVW
  obtain ⟨⟨y0, y1, y2, y3, y4, y5, y6⟩, ⟨b0, b1, b2, b3⟩, lt0, lt1⟩ := (unveil HS).cells
  go_wp2_with fail
  clear y0 y1 y2 y3 y4 y5 y6 b0 b1 b2 b3 lt0 lt1
  go_loopw [0, 10] (fun vv i wr => ∃ (k : Nat) (q : Option Addr) (c : Nat), i = .int .i64 k ∧ vv = .slice q (C k).length c ∧ k ≤ t.fs.length ∧ Hid (wr.ownsRow base 42 3 (.slice q (C k).length c) (C k).length (spCs (C k))) ∧ Hid (RlS w S1 t Bb s al (.slice uq un uc) L row wr) ∧ Hid (∀ r, (Value.slice q (C k).length c).ownBlock = some r → row = some r ∨ S1 ≤ r)) (fun vv i wr => t.fs.length - (intOf i).toNat)
  case atStart =>
    refine ⟨0, q, c, rfl, by rw [unveil HC0], Nat.zero_le _, by rw [unveil HC0]; exact HV2, HS, ?_⟩
    rw [unveil HC0, unveil HRW]
    exact fun r e => .inl e
  case round =>
    obtain ⟨k, q', c', rfl, rfl, hk, hVk, hSk, hOk⟩ := hrel
    have hk40 : k ≤ 1000 := by have := unveil HFL; omega
    have HFIN : Hid (C t.fs.length = C k → RlP base w (.slice q P.length c) (C t.fs.length) (.returned (.slice q' (C k).length c')) wr) := fun he => ⟨_, rfl, by rw [he]; exact unveil hVk, by rw [unveil HRW]; exact (unveil hSk).gr, fun r e => by rw [unveil HRW]; exact (unveil hOk r e).imp id (fun h => by have := (unveil hSk).lt; omega)⟩
    obtain ⟨⟨y0, y1, y2, y3, y4, y5, y6⟩, ⟨b0, b1, b2, b3⟩, lt0, lt1⟩ := (unveil hSk).cells
    by_cases hlt : k < t.fs.length
    · by_cases hll : (C k).length ≤ 2000
      · have i1 : (((C k).length : Nat) : Int) ≤ 2000 := by omega
        have hkL : k < L.length := by rw [unveil HLL]; exact hlt
        have hbw := (unveil hSk).below (unveil HN) (unveil HRB)
        obtain ⟨g, o, hfp, hg, hc, hnl, hfin⟩ := ((unveil HIN).below hbw).fs k hlt
        obtain ⟨d0, d1, d2, d3, d4, d5, d6, d7, d8⟩ := nine hc
        have hglt : g < wr.heap.size := World.block_lt_of_cell? wr _ d0
        obtain ⟨lb0, lb1⟩ := unveil HLB k hkL
        obtain ⟨hF0, hF1⟩ := unveil HFF k hlt hkL
        have hRK := unveil HRL k hlt hkL
        have hCk := unveil HCs k
        have hnew : Hid (RmF w S1 t Bb s al (.slice uq un uc) L row wr.heap.size t.fs[k] (wr.alloc (.cells t.fs[k].cs 45))) := ⟨(unveil hSk).turn (World.grownBy_alloc _ _ none) (fun r e => by cases e), Bk.new wr _ _⟩
        have hVn : Hid ((wr.alloc (.cells t.fs[k].cs 45)).ownsRow base 42 3 (.slice q' (C k).length c') (C k).length (spCs (C k))) := (unveil hVk).alloc _
        have hbn : Hid (∀ W, RmF w S1 t Bb s al (.slice uq un uc) L row wr.heap.size t.fs[k] W → t.fs[k].t.In base W ∧ base ≤ W.heap.size) := fun W h => by
          have hb2 := h.s.below (unveil HN) (unveil HRB)
          exact ⟨parts_in ((unveil HIN).below hb2) (fs_part (List.getElem_mem _)), Nat.le_trans (unveil HN) hb2.size⟩
        have hrowL : Hid (∀ W, RmF w S1 t Bb s al (.slice uq un uc) L row wr.heap.size t.fs[k] W → un = L.length ∧ un ≤ uc ∧ ∃ g2, uq = some ⟨g2, 0, none⟩ ∧ g2 < W.heap.size ∧ W.cell? ⟨g2, k * 3, none⟩ = some (.int .i64 L[k].bit)) := fun W h => by
          obtain ⟨r1, r2, g2, r3, _, r4, r5, _⟩ := row_at h.s.l hkL
          exact ⟨r1, r2, g2, r3, r4, r5⟩
        obtain ⟨hun, hunc, g2, rfl, _, _⟩ := unveil hrowL _ (unveil hnew)
        generalize hLk : L[k] = Lk at *
        generalize hfk : t.fs[k] = f at *
        obtain ⟨Lbit, Lbits, Lk3, Lal⟩ := Lk
        simp only at lb0 lb1 hF1 hRK hrowL
        have HF0 := veil hF0
        have HF1 := veil hF1
        have HRK := veil hRK
        have HCK := veil hCk
        have HUN := veil (And.intro hun hunc)
        have hku : (k : Int) < (un : Int) := by omega
        rw [hfp] at y4 ⊢
        clear hF0 hF1 hRK hCk hc hnl hfin hLk hfk hbw hun hunc HFIN HRL HFF HLB HIN
        unfold FdOf.cs at *
        go_upto_region 20 with fail
        generalize (wr.alloc (.cells #[.string ⟨f.nm.toArray⟩, .int .i64 f.t.sh, .int .i64 f.t.k, .int .i64 f.t.n, .slice f.t.op f.t.of.length f.t.oc, .slice f.t.fp f.t.fs.length f.t.fc, .bool f.t.pk, .int .i64 f.t.al, .int .i64 f.bits] 45)) = Wf at hnew hVn ⊢
        generalize wr.heap.size = FB at hnew hbn hrowL ⊢
        clear y0 y1 y2 y3 y4 y5 y6 b0 b1 b2 b3 lt0 lt1 d0 d1 d2 d3 d4 d5 d6 d7 d8 hglt hVk hSk
        have HCELL : Hid (∀ W, Hid (RmF w S1 t Bb s al (.slice (some ⟨g2, 0, none⟩) un uc) L row FB f W) → (W.cell? ⟨FB, 0, none⟩ = some (.string ⟨f.nm.toArray⟩) ∧ W.cell? ⟨FB, 1, none⟩ = some (.int .i64 f.t.sh) ∧ W.cell? ⟨FB, 2, none⟩ = some (.int .i64 f.t.k) ∧ W.cell? ⟨FB, 3, none⟩ = some (.int .i64 f.t.n) ∧ W.cell? ⟨FB, 4, none⟩ = some (.slice f.t.op f.t.of.length f.t.oc) ∧ W.cell? ⟨FB, 5, none⟩ = some (.slice f.t.fp f.t.fs.length f.t.fc) ∧ W.cell? ⟨FB, 6, none⟩ = some (.bool f.t.pk) ∧ W.cell? ⟨FB, 7, none⟩ = some (.int .i64 f.t.al) ∧ W.cell? ⟨FB, 8, none⟩ = some (.int .i64 f.bits)) ∧ W.cell? ⟨Bb, 3, none⟩ = some (.slice (some ⟨g2, 0, none⟩) un uc) ∧ W.cell? ⟨g2, k * 3, none⟩ = some (.int .i64 Lbit)) := fun W h => by
          obtain ⟨⟨y0, y1, y2, y3, y4, y5, y6⟩, ⟨b0, b1, b2, b3⟩, lt0, lt1⟩ := (unveil h).s.cells
          obtain ⟨_, _, g3, he, _, r5⟩ := unveil hrowL _ (unveil h)
          cases he
          exact ⟨Bk.nine (unveil h).f, b3, r5⟩
        obtain ⟨⟨e0, e1, e2, e3, e4, e5, e6, e7, e8⟩, bb3, rr5⟩ := unveil HCELL _ hnew
        have HS6 : Hid (RlS w S1 t Bb s al (.slice (some ⟨g2, 0, none⟩) un uc) L row Wf) := (unveil hnew).s
        have HLT := veil hlt
        rcases Int.lt_trichotomy f.bits 0 with hb | hb | hb
        · have c1 : ¬ f.bits > 0 := by omega
          have hnd : Hid (RmF w S1 t Bb s al (.slice (some ⟨g2, 0, none⟩) un uc) L row FB f Wf.drew) := (unveil hnew).below (Below.refl _ Wf).drew
          obtain ⟨hi1, hi2⟩ := unveil hbn _ (unveil hnd)
          have HW2 := veil (unveil HRK hb (C k) (.slice q' (C k).length c') Wf.drew (row_far (unveil hVn) (grown_drew Wf none) (fun r e => by cases e)) (unveil HCl k) hi1 hi2)
          rw [unveil HCK] at HW2
          clear hi1 hi2
          go_upto_region 23 with fail
          refine wp_region_noPanic (wpIn_wide.1 (wpIn_region_mix (ro := none) (n := 0) (fun w' => Hid (RmF w S1 t Bb s al (.slice (some ⟨g2, 0, none⟩) un uc) L row FB f w'))
            [(0, true), (1, true), (2, true), (3, true), (4, true), (5, true), (6, true), (7, true), (8, true), (9, true), (10, true), (11, false)]
            12 hmixL (by kernel_rfl) (by kernel_rfl) (by kernel_rfl) (by kernel_rfl) (by kernel_rfl) (by kernel_rfl) (fun _ _ _ _ h => h) hnd ?_))
          iterate 10 (
            refine mix_pure _ rfl _ (.inl ⟨rfl, fun W hS => (by obtain ⟨⟨e0, e1, e2, e3, e4, e5, e6, e7, e8⟩, bb3, rr5⟩ := unveil HCELL W hS; go_simp; rfl)⟩) (fun B hB => ?_)
            simp only [Act.put, List.setIfInBounds_toArray, List.set_cons_zero, List.set_cons_succ] at hB
            subst hB)
          refine mix_pure _ rfl (.int .i64 (fr + Lbit)) (.inl ⟨rfl, fun W hS => (by go_simp; rw [IntKind.wrap_i64]; omega)⟩) (fun B hB => ?_)
          simp only [List.getElem_toArray, List.getElem_cons_zero, List.getElem_cons_succ, Act.put, List.setIfInBounds_toArray, List.set_cons_zero, List.set_cons_succ] at hB
          subst hB
          refine mix_sole _ rfl (fun K hK => ?_)
          go_simp
          refine ⟨trivial, rfl, (callsIn_wide.2 (unveil HW2)).mono ?_⟩
          rintro e W6 ⟨v6, rfl, hr6, hg6, ho6⟩
          obtain ⟨q6, c6, rfl⟩ := row_slice hr6
          have HSX : Hid (RlS w S1 t Bb s al (.slice (some ⟨g2, 0, none⟩) un uc) L row W6) := (unveil hnd).s.turn hg6 (unveil hOk)
          have HO6 : Hid (∀ r, (Value.slice q6 (C (k + 1)).length c6).ownBlock = some r → row = some r ∨ S1 ≤ r) := fun r e => by
            rcases ho6 r e with h | h
            · exact unveil hOk r h
            · exact .inr (Nat.le_trans (unveil hnd).s.s1 h)
          refine hK _ _ ?hs ?_
          case hs => exact ⟨unveil HSX, (unveil hnd).f.rowG (row_far (unveil hVn) (grown_drew Wf none) (fun r e => by cases e)) hg6 (by decide)⟩
          clear hK K e0 e1 e2 e3 e4 e5 e6 e7 e8 bb3 rr5
          refine mix_nil ?_
          refine listIn_last rfl (fun K hK => ?_)
          go_simp
          refine hK _ _ ?_
          clear hK K
          go_wp2_with fail
          go_roundw
          case rel => exact ⟨k + 1, q6, c6, by go_num, rfl, by have := unveil HLT; omega, hr6, HSX, HO6⟩
          case measure => have := unveil HLT; simp [intOf]; omega
        · have c1 : ¬ f.bits > 0 := by omega
          have c2 : ¬ f.bits < 0 := by omega
          have hF := unveil HF0 hb
          have hCk := unveil HCK
          rw [hF, List.append_nil, cut_small (unveil HCl k)] at hCk
          have HE2 := veil hCk
          clear hF hCk hb
          go_wp2_with fail
          go_roundw
          case rel => exact ⟨k + 1, q', c', by go_num, by rw [← unveil HE2], by have := unveil HLT; omega, by rw [← unveil HE2]; exact hVn, HS6, by rw [← unveil HE2]; exact hOk⟩
          case measure => have := unveil HLT; simp [intOf]; omega
        · have c1 : f.bits > 0 := by omega
          have c2 : ¬ f.bits < 0 := by omega
          have hF := unveil HF1 hb
          have hCk := unveil HCK
          rw [hF, cut_small (by rw [List.length_append]; simp only [List.length_cons, List.length_nil]; omega)] at hCk
          have HE2 := veil hCk
          have hnd : Hid (RmF w S1 t Bb s al (.slice (some ⟨g2, 0, none⟩) un uc) L row FB f Wf.drew) := (unveil hnew).below (Below.refl _ Wf).drew
          have hVd : Hid (Wf.drew.ownsRow base 42 3 (.slice q' (C k).length c') (C k).length (spCs (C k))) := row_far (unveil hVn) (grown_drew Wf none) (fun r e => by cases e)
          have HBS := veil (unveil hbn _ (unveil hnd)).2
          clear hF hCk hb
          go_upto_region 21 with fail
          refine wp_region_noPanic (wpIn_wide.1 (wpIn_region_mix (ro := none) (n := 0) (fun w' => Hid (RmF w S1 t Bb s al (.slice (some ⟨g2, 0, none⟩) un uc) L row FB f w'))
            [(0, true), (1, true), (2, true), (3, true), (4, true), (5, true), (6, true), (7, true), (8, true), (9, true), (10, true), (11, true), (12, true), (13, true), (14, true), (15, false)]
            16 hmixL (by kernel_rfl) (by kernel_rfl) (by kernel_rfl) (by kernel_rfl) (by kernel_rfl) (by kernel_rfl) (fun _ _ _ _ h => h) hnd ?_))
          iterate 8 (
            refine mix_pure _ rfl _ (.inl ⟨rfl, fun W hS => (by obtain ⟨⟨e0, e1, e2, e3, e4, e5, e6, e7, e8⟩, bb3, rr5⟩ := unveil HCELL W hS; go_simp; rfl)⟩) (fun B hB => ?_)
            simp only [Act.put, List.setIfInBounds_toArray, List.set_cons_zero, List.set_cons_succ] at hB
            subst hB)
          refine mix_pure _ rfl (.int .i64 (fr + Lbit)) (.inl ⟨rfl, fun W hS => (by go_simp; rw [IntKind.wrap_i64]; omega)⟩) (fun B hB => ?_)
          simp only [List.getElem_toArray, List.getElem_cons_zero, List.getElem_cons_succ, Act.put, List.setIfInBounds_toArray, List.set_cons_zero, List.set_cons_succ] at hB
          subst hB
          iterate 5 (
            refine mix_pure _ rfl _ (.inl ⟨rfl, fun W hS => (by obtain ⟨⟨e0, e1, e2, e3, e4, e5, e6, e7, e8⟩, bb3, rr5⟩ := unveil HCELL W hS; go_simp; rfl)⟩) (fun B hB => ?_)
            simp only [Act.put, List.setIfInBounds_toArray, List.set_cons_zero, List.set_cons_succ] at hB
            subst hB)
          refine mix_pure _ rfl (.agg #[.int .i64 (fr + Lbit), .int .i64 f.bits, .int .i64 f.t.k]) (.inl ⟨rfl, fun W hS => (by go_simp)⟩) (fun B hB => ?_)
          simp only [List.getElem_toArray, List.getElem_cons_zero, List.getElem_cons_succ, Act.put, List.setIfInBounds_toArray, List.set_cons_zero, List.set_cons_succ] at hB
          subst hB
          refine mix_sole _ rfl (fun K hK => ?_)
          go_simp
          have hBa : Below Wf.heap.size Wf (Wf.alloc (.cells #[.int .i64 (fr + Lbit), .int .i64 f.bits, .int .i64 f.t.k] 42)).drew := ((Below.refl _ Wf).alloc (Nat.le_refl _) _).drew
          have hna : Hid (RmF w S1 t Bb s al (.slice (some ⟨g2, 0, none⟩) un uc) L row FB f (Wf.alloc (.cells #[.int .i64 (fr + Lbit), .int .i64 f.bits, .int .i64 f.t.k] 42)).drew) := (unveil hnew).below hBa
          refine hK _ _ hna ?_
          clear hK K
          refine mix_nil ?_
          obtain ⟨i0, hi, hq0, hq1, hq2⟩ := info_parts infoSp
          have hrowa : (Wf.alloc (.cells (spC ⟨fr + Lbit, f.bits, f.t.k, 0⟩).toArray 42)).drew.ownsRow base 42 3 (.slice q' (C k).length c') (C k).length (spCs (C k)) := row_far (unveil hVn) (below_grown hBa) (fun r e => by cases e)
          have hcl := unveil HCl k
          have hbs : base ≤ Wf.heap.size := unveil HBS
          refine wpListIn_append_own_at _ rfl _ _ 30 rfl base 42 i0 _ 3 24 Try.underlying30 hi hq0 hq1 hq2 rfl (by decide) _ _ _ rfl hrowa ⟨Wf.heap.size, 0, none⟩ 1 1 (spC ⟨fr + Lbit, f.bits, f.t.k, 0⟩) rfl rfl (sp_cells Wf ⟨fr + Lbit, f.bits, f.t.k, 0⟩ 42) (by intro u hu; simp [spC] at hu; rcases hu with rfl | rfl | rfl <;> rfl) (by unfold maxLen; omega) (by omega) (by simp; omega) ?_
          intro v6 W6 hown6 hg6 _ hob
          obtain ⟨r1, r2, r3⟩ := RlP.append (unveil hnew).s (below_grown hBa) hg6 (unveil hOk) hown6 hob
          rw [unveil HE2] at r1
          obtain ⟨q6, c6, rfl⟩ := row_slice r1
          have HR6 := veil r1
          have HSX := veil r2
          have HO6 := veil r3
          have hf6 : Bk W6 FB 45 f.cs := (unveil hna).f.rowG hrowa hg6 (by decide)
          have ff8 := (Bk.nine hf6).2.2.2.2.2.2.2.2
          have ff9 := hf6.lt
          clear hf6 r1 r2 r3 hown6 hg6 hob hi hq0 hq1 hq2 hrowa hna hBa e0 e1 e2 e3 e4 e5 e6 e7 e8 bb3 rr5
          refine listIn_last rfl (fun K hK => ?_)
          go_simp
          refine hK _ _ ?_
          clear hK K
          go_wp2_with fail
          go_roundw
          case rel => exact ⟨k + 1, q6, c6, by go_num, rfl, by have := unveil HLT; omega, HR6, HSX, HO6⟩
          case measure => have := unveil HLT; simp [intOf]; omega
      · have i1 : ¬ (((C k).length : Nat) : Int) ≤ 2000 := by omega
        have he := unveil HCn k (by omega) hll
        have HE := veil (unveil HFIN he)
        clear he HFIN hll
        go_wp2_with fail
        go_ret
        exact unveil HE
    · have hkn : k = t.fs.length := by omega
      have HE := veil (unveil HFIN (by rw [hkn]))
      have hlt2 : ¬ (k : Int) < (t.fs.length : Int) := by omega
      clear hkn HFIN
      go_wp2_with fail
      go_ret
      exact unveil HE
end Go.Proofs.Ytaffldhmgifdoaa
