/-
  The document's own leaves: pointers, arrays.
-/
import Derived.Test.YtaffldhmgifdoaaMi
namespace Go.Proofs.Ytaffldhmgifdoaa
open Go Go.RowKit Go.Shelf
set_option linter.unusedVariables false
set_option linter.unusedSimpArgs false

set_option maxRecDepth 100000 in
set_option maxHeartbeats 20000000 in
theorem rl_ptr (t : ShT) (fr z a : Int) (base : Nat) (P : List Mb) (v : Value) (w : World) (hv : w.ownsRow base 42 3 v P.length (spCs P)) (hl : P.length ≤ 2000) (hN : base ≤ w.heap.size) (h1 : (t.sh == 1) = false) (h2 : (t.sh == 2) = true) (hz0 : 0 ≤ z) (hz1 : z ≤ 65536)
    (hbx : ∀ W, Calls Try.prog 55 #[t.v] (w.alloc W) (BxP (w.alloc W) z a false [])) :
    Calls Try.prog 58 #[v, t.v, .int .i64 fr] w (RlP base w v (P ++ [⟨fr, 64, 8, 0⟩])) := by
  obtain ⟨q, c, rfl⟩ := row_slice hv
  have hg : ¬ ((P.length : Nat) : Int) > 2000 := by omega
  have HV := veil hv
  have HN := veil hN
  have HBX := veil hbx
  have HNW := veil (fun W1 h bv hl => RlS.new (w := w) (W1 := W1) t z a (bv := bv) (L := []) hv h hl)
  clear hv hbx hN
  unfold ShT.v ShT.cs at *
  unfold bxC at HNW
  go_enter Try.func58, Try.ntmps58
  go_upto_region 4 with (go_at_call 55; refine (unveil HBX _).mono ?_; rintro e W1 ⟨s, al, uq, un, uc, he, hb1, hpost⟩; obtain ⟨rfl, rfl, hrow⟩ := hpost rfl; unfold bxC at he; subst he; have HS := veil (unveil HNW W1 hb1 _ hrow); have HVW := veil (row_far ((unveil HV).alloc (.cells #[.int .i64 t.sh, .int .i64 t.k, .int .i64 t.n, .slice t.op t.of.length t.oc, .slice t.fp t.fs.length t.fc, .bool t.pk, .int .i64 t.al] 25)) (below_grown hb1) (fun r e => by cases e)); clear hb1 hrow hpost)
  have HV2 := veil ((unveil HVW).alloc (.cells #[.int .i64 s, .int .i64 al, .bool false, .slice uq un uc] 32))
  generalize (W1.alloc (.cells #[.int .i64 s, .int .i64 al, .bool false, .slice uq un uc] 32)) = W2 at HS HV2 ⊢
  generalize W1.heap.size = Bb at HS ⊢
  clear HNW HBX HVW
  obtain ⟨⟨y0, y1, y2, y3, y4, y5, y6⟩, ⟨b0, b1, b2, b3⟩, lt0, lt1⟩ := (unveil HS).cells
  obtain ⟨i0, hi, hq0, hq1, hq2⟩ := info_parts infoSp
  have hrowa : (W2.alloc (.cells (spC ⟨fr, 64, 8, 0⟩).toArray 42)).ownsRow base 42 3 (.slice q P.length c) P.length (spCs P) := (unveil HV2).alloc _
  have hbs : base ≤ W2.heap.size := by have := unveil HN; have := (unveil HS).gr.size; omega
  go_wp2_with (at_builtin; refine wpList_append_own_at _ rfl _ _ 30 rfl base 42 i0 _ 3 24 Try.underlying30 hi hq0 hq1 hq2 rfl (by decide) _ _ _ rfl hrowa ⟨W2.heap.size, 0, none⟩ 1 1 (spC ⟨fr, 64, 8, 0⟩) rfl rfl (sp_cells W2 ⟨fr, 64, 8, 0⟩ 42) (by intro u hu; simp [spC] at hu; rcases hu with rfl | rfl | rfl <;> rfl) (by unfold maxLen; omega) (by omega) (by simp; omega) ?_; intro v' W8 hown' hgrow _ hob)
  go_ret
  obtain ⟨g1, g2, g3⟩ := RlP.append (unveil HS) (World.grownBy_alloc _ _ _) hgrow (fun r e => .inl e) hown' hob
  exact ⟨_, rfl, g1, g2.gr, fun r e => (g3 r e).imp id (fun h => by have := (unveil HS).lt; omega)⟩
theorem RlS.again {w W2 W3 : World} {S1 : Nat} {t : ShT} {Bb : Nat} {z a z' a' : Int} {bv bv' : Value} {L L' : List Mb} {row : Option Nat} (h : RlS w S1 t Bb z a bv L row W2) (hb : Below W2.heap.size W2 W3) (hl : W3.ownsRow W2.heap.size 42 3 bv' L'.length (spCs L')) :
    RlS w (W3.heap.size + 1) t W3.heap.size z' a' bv' L' row (W3.alloc (.cells (bxC z' a' false bv') 32)) := by
  have hs := hb.size
  have h1 := h.s1
  have h2 := h.lt
  refine ⟨(h.t.below hb).alloc _, Bk.new W3 _ _, ownsRow_baseS (hl.alloc _) (by omega), h.gr.andThen (below_grown (hb.alloc hs _)) (fun r e => by cases e), by simp, ⟨by omega, by omega, by omega⟩, fun r e => ?_, h.vl⟩
  have := own_lt hl r e
  omega
theorem RlS.below {w : World} {S1 : Nat} {t : ShT} {Bb : Nat} {z a : Int} {bv : Value} {L : List Mb} {row : Option Nat} {W : World} (h : RlS w S1 t Bb z a bv L row W) {base : Nat} (hN : base ≤ w.heap.size) (hr : ∀ r, row = some r → base ≤ r) : Below base w W :=
  (Below.refl _ w).grown h.gr hN hr
set_option maxRecDepth 100000 in
set_option maxHeartbeats 20000000 in
theorem rl_arr (t x : ShT) (fr z a zt at' : Int) (C F : Nat → List Mb) (base : Nat) (P : List Mb) (v : Value) (w : World) (hv : w.ownsRow base 42 3 v P.length (spCs P)) (hl : P.length ≤ 2000) (hN : base ≤ w.heap.size) (h1 : (t.sh == 1) = false) (h2 : (t.sh == 2) = false) (h3 : (t.sh == 3) = true)
    (hof : t.of = [x]) (hn : 1 ≤ t.n) (hn2 : t.n ≤ 65536) (hz0 : 0 ≤ z) (hz1 : z ≤ 65536) (hnz : ∀ i : Int, 0 ≤ i → i < t.n → i * (8 * z) ≤ 524288) (h0 : 0 ≤ fr) (hf : fr ≤ 268435456) (hin : t.In base w)
    (hC0 : C 0 = P) (hCl : ∀ k, (C k).length ≤ 2001) (hCs : ∀ k, cut (C k ++ F k) = C (k + 1)) (hCn : ∀ k, k ≤ t.n.toNat → ¬ (C k).length ≤ 2000 → C t.n.toNat = C k)
    (hbt : ∀ o, Calls Try.prog 55 #[t.v] (w.alloc o) (BxP (w.alloc o) zt at' false []))
    (hbx : ∀ W, x.In W.heap.size W → ∃ L, Calls Try.prog 55 #[x.v] W (BxP W z a false L))
    (hrl : ∀ (i : Nat) (Q : List Mb) (u : Value) (W : World), (i : Int) < t.n → W.ownsRow base 42 3 u Q.length (spCs Q) → Q.length ≤ 2001 → x.In base W → base ≤ W.heap.size → Calls Try.prog 58 #[u, x.v, .int .i64 (fr + (i : Int) * (8 * z))] W (RlP base W u (cut (Q ++ F i)))) :
    Calls Try.prog 58 #[v, t.v, .int .i64 fr] w (RlP base w v (C t.n.toNat)) := by
  obtain ⟨g, o, hop, hg, hc, hxin⟩ := hin.of 0 (by rw [hof]; simp)
  have hx0 : t.of[0]'(by rw [hof]; simp) = x := by simp [hof]
  rw [hx0] at hc hxin
  have hol : t.of.length = 1 := by rw [hof]; rfl
  simp only [Nat.zero_mul, Nat.add_zero] at hc
  obtain ⟨row, hrow⟩ : ∃ row, v.ownBlock = row := ⟨_, rfl⟩
  have hrb : ∀ r, row = some r → base ≤ r := fun r e => (own_lt hv r (hrow ▸ e)).1
  have HC : Hid (∀ W, Below base w W → (∀ j, j < 7 → W.cell? ⟨g, o + j, none⟩ = x.cs[j]?) ∧ g < W.heap.size ∧ x.In base W ∧ x.In W.heap.size W) := fun W h => ⟨fun j hj => (h.cell (p := ⟨g, o + j, none⟩) hg).trans (hc j hj), by have := h.size; omega, hxin.below h, (hxin.below h).mono (Nat.le_trans hN h.size)⟩
  have HBX := veil hbx
  have HBT := veil hbt
  have HRL := veil hrl
  have HNW := veil (fun W1 h bv hl => RlS.new (w := w) (W1 := W1) t zt at' (bv := bv) (L := []) hv h hl)
  rw [hrow] at HNW
  obtain ⟨q, c, rfl⟩ := row_slice hv
  have hgt : ¬ ((P.length : Nat) : Int) > 2000 := by omega
  have HV := veil hv
  have HN := veil hN
  have HRB := veil hrb
  have HRW := veil hrow
  have HNZ := veil hnz
  have HC0 := veil hC0
  have HCl := veil hCl
  have HCs := veil hCs
  have HCn := veil hCn
  clear hv hbx hN hbt hrl hrb hnz hC0 hCl hCs hCn hin hc hxin hof hx0 hrow hl
  unfold ShT.v ShT.cs at *
  unfold bxC at HNW
  rw [hop, hol] at HBT HNW ⊢
  go_enter Try.func58, Try.ntmps58
  go_upto_region 4 with (go_at_call 55; refine (unveil HBT _).mono ?_; rintro e W1 ⟨s, al, uq, un, uc, he, hb1, hpost⟩; obtain ⟨rfl, rfl, hrow⟩ := hpost rfl; unfold bxC at he; subst he; have HS := veil (unveil HNW W1 hb1 _ hrow); have HVW := veil (row_far ((unveil HV).alloc (.cells #[.int .i64 t.sh, .int .i64 t.k, .int .i64 t.n, .slice (some ⟨g, o, none⟩) 1 t.oc, .slice t.fp t.fs.length t.fc, .bool t.pk, .int .i64 t.al] 25)) (below_grown hb1) (fun r e => by cases e)); clear hb1 hrow hpost)
  have HV2 := veil ((unveil HVW).alloc (.cells #[.int .i64 s, .int .i64 al, .bool false, .slice uq un uc] 32))
  generalize (W1.alloc (.cells #[.int .i64 s, .int .i64 al, .bool false, .slice uq un uc] 32)) = W2 at HS HV2 ⊢
  generalize W1.heap.size = Bb at HS ⊢
  clear HNW HBT HVW
  obtain ⟨⟨y0, y1, y2, y3, y4, y5, y6⟩, ⟨b0, b1, b2, b3⟩, lt0, lt1⟩ := (unveil HS).cells
  rw [hop, hol] at y3
  obtain ⟨hcc, hgl, hxb, hxw⟩ := unveil HC W2 ((unveil HS).below (unveil HN) (unveil HRB))
  obtain ⟨L2, hL2⟩ := unveil HBX W2 hxw
  have HL2 := veil hL2
  have q0 := hcc 0 (by decide)
  have q1 := hcc 1 (by decide)
  have q2 := hcc 2 (by decide)
  have q3 := hcc 3 (by decide)
  have q4 := hcc 4 (by decide)
  have q5 := hcc 5 (by decide)
  have q6 := hcc 6 (by decide)
  simp only [List.getElem?_toArray, List.getElem?_cons_succ, List.getElem?_cons_zero, Nat.add_zero] at q0 q1 q2 q3 q4 q5 q6
  clear hcc hxb hxw hL2 HBX
  have HAG := veil (fun W3 h bv' hl => RlS.again (W3 := W3) (z' := z) (a' := a) (bv' := bv') (L' := L2) (unveil HS) h hl)
  unfold bxC at HAG
  go_upto_region 11 with (go_at_call 55; refine (unveil HL2).mono ?_; rintro e W3 ⟨s2, al2, uq2, un2, uc2, he, hb3, hpost⟩; obtain ⟨rfl, rfl, hrow3⟩ := hpost rfl; unfold bxC at he; subst he; have HS3 := veil (unveil HAG W3 hb3 _ hrow3); have HV3 := veil (row_far (unveil HV2) (below_grown hb3) (fun r e => by cases e)); clear hb3 hrow3 hpost)
  have HV4 := veil ((unveil HV3).alloc (.cells #[.int .i64 s2, .int .i64 al2, .bool false, .slice uq2 un2 uc2] 32))
  generalize (W3.alloc (.cells #[.int .i64 s2, .int .i64 al2, .bool false, .slice uq2 un2 uc2] 32)) = W4 at HS3 HV4 ⊢
  generalize hS1 : W3.heap.size + 1 = S1 at *
  generalize W3.heap.size = B3 at HS3 ⊢
  clear hS1 y0 y1 y2 y3 y4 y5 y6 b0 b1 b2 b3 lt0 lt1 q0 q1 q2 q3 q4 q5 q6 hgl HAG HL2 HV2 HS HV3
  go_wp2_with fail
  go_loopw [0, 9] (fun vv i wr => ∃ (k : Nat) (q : Option Addr) (c : Nat), i = .int .i64 k ∧ vv = .slice q (C k).length c ∧ (k : Int) ≤ t.n ∧ Hid (wr.ownsRow base 42 3 (.slice q (C k).length c) (C k).length (spCs (C k))) ∧ Hid (RlS w S1 t B3 s2 al2 (.slice uq2 un2 uc2) L2 row wr) ∧ Hid (∀ r, (Value.slice q (C k).length c).ownBlock = some r → row = some r ∨ S1 ≤ r)) (fun vv i wr => t.n.toNat - (intOf i).toNat)
  case atStart =>
    refine ⟨0, q, c, rfl, by rw [unveil HC0], by omega, by rw [unveil HC0]; exact HV4, HS3, ?_⟩
    rw [unveil HC0, unveil HRW]
    exact fun r e => .inl e
  case round =>
    obtain ⟨k, q', c', rfl, rfl, hk, hVk, hSk, hOk⟩ := hrel
    have HFIN : Hid (C t.n.toNat = C k → RlP base w (.slice q P.length c) (C t.n.toNat) (.returned (.slice q' (C k).length c')) wr) := fun he => ⟨_, rfl, by rw [he]; exact unveil hVk, by rw [unveil HRW]; exact (unveil hSk).gr, fun r e => by rw [unveil HRW]; exact (unveil hOk r e).imp id (fun h => by have := (unveil hSk).lt; omega)⟩
    obtain ⟨⟨y0, y1, y2, y3, y4, y5, y6⟩, ⟨b0, b1, b2, b3⟩, lt0, lt1⟩ := (unveil hSk).cells
    by_cases hlt : (k : Int) < t.n
    · by_cases hll : (C k).length ≤ 2000
      · have i1 : (((C k).length : Nat) : Int) ≤ 2000 := by omega
        have hki := unveil HNZ k (by omega) hlt
        have hk0 : 0 ≤ (k : Int) * (8 * s2) := Int.mul_nonneg (by omega) (by omega)
        have HCK : Hid (∀ W, Hid (RlS w S1 t B3 s2 al2 (.slice uq2 un2 uc2) L2 row W) → (W.cell? ⟨w.heap.size, 3, none⟩ = some (.slice (some ⟨g, o, none⟩) 1 t.oc) ∧ W.cell? ⟨B3, 0, none⟩ = some (.int .i64 s2)) ∧ (W.cell? ⟨g, o, none⟩ = some (.int .i64 x.sh) ∧ W.cell? ⟨g, o + 1, none⟩ = some (.int .i64 x.k) ∧ W.cell? ⟨g, o + 2, none⟩ = some (.int .i64 x.n) ∧ W.cell? ⟨g, o + 3, none⟩ = some (.slice x.op x.of.length x.oc) ∧ W.cell? ⟨g, o + 4, none⟩ = some (.slice x.fp x.fs.length x.fc) ∧ W.cell? ⟨g, o + 5, none⟩ = some (.bool x.pk) ∧ W.cell? ⟨g, o + 6, none⟩ = some (.int .i64 x.al))) := fun W h => by
          obtain ⟨hcc, _, _, _⟩ := unveil HC _ ((unveil h).below (unveil HN) (unveil HRB))
          obtain ⟨⟨y0, y1, y2, y3, y4, y5, y6⟩, ⟨b0, b1, b2, b3⟩, lt0, lt1⟩ := (unveil h).cells
          rw [hop, hol] at y3
          exact ⟨⟨y3, b0⟩, hcc 0 (by decide), hcc 1 (by decide), hcc 2 (by decide), hcc 3 (by decide), hcc 4 (by decide), hcc 5 (by decide), hcc 6 (by decide)⟩
        have hSd : Hid (RlS w S1 t B3 s2 al2 (.slice uq2 un2 uc2) L2 row wr.drew) := (unveil hSk).turn (grown_drew wr none) (fun r e => by cases e)
        obtain ⟨_, _, hxb, _⟩ := unveil HC _ ((unveil hSd).below (unveil HN) (unveil HRB))
        have HW2 := veil (unveil HRL k (C k) (.slice q' (C k).length c') wr.drew hlt (row_far (unveil hVk) (grown_drew wr none) (fun r e => by cases e)) (unveil HCl k) hxb (Nat.le_trans (unveil HN) (unveil hSd).gr.size))
        rw [unveil HCs] at HW2
        have hcomm : 8 * s2 * (k : Int) = (k : Int) * (8 * s2) := Int.mul_comm _ _
        obtain ⟨KZ, hKZ⟩ : ∃ KZ, (k : Int) * (8 * s2) = KZ := ⟨_, rfl⟩
        rw [hKZ] at hki hk0 HW2 hcomm
        have HCM := veil hcomm
        clear hxb hcomm
        go_upto_region 14 with fail
        refine wp_region_noPanic (wpIn_wide.1 (wpIn_region_mix (ro := none) (n := 0) (fun w' => Hid (RlS w S1 t B3 s2 al2 (.slice uq2 un2 uc2) L2 row w'))
          [(0, true), (1, true), (2, true), (3, true), (4, true), (5, true), (6, true), (7, true), (8, true), (9, true), (10, true), (11, true), (12, false)]
          13 hmixL (by kernel_rfl) (by kernel_rfl) (by kernel_rfl) (by kernel_rfl) (by kernel_rfl) (by kernel_rfl) (fun _ _ _ _ h => h) hSd ?_))
        iterate 8 (
          refine mix_pure _ rfl _ (.inl ⟨rfl, fun W hS => (by obtain ⟨⟨y3, b0⟩, q0, q1, q2, q3, q4, q5, q6⟩ := unveil HCK W hS; go_simp; rfl)⟩) (fun B hB => ?_)
          simp only [Act.put, List.setIfInBounds_toArray, List.set_cons_zero, List.set_cons_succ] at hB
          subst hB)
        refine mix_pure _ rfl (.int .i64 (8 * s2)) (.inl ⟨rfl, fun W hS => (by go_simp; rw [IntKind.wrap_i64]; omega)⟩) (fun B hB => ?_)
        simp only [List.getElem_toArray, List.getElem_cons_zero, List.getElem_cons_succ, Act.put, List.setIfInBounds_toArray, List.set_cons_zero, List.set_cons_succ] at hB
        subst hB
        refine mix_pure _ rfl (.int .i64 k) (.inl ⟨rfl, fun W hS => (by go_simp)⟩) (fun B hB => ?_)
        simp only [List.getElem_toArray, List.getElem_cons_zero, List.getElem_cons_succ, Act.put, List.setIfInBounds_toArray, List.set_cons_zero, List.set_cons_succ] at hB
        subst hB
        refine mix_pure _ rfl (.int .i64 KZ) (.inl ⟨rfl, fun W hS => (by go_simp; rw [unveil HCM, IntKind.wrap_i64]; omega)⟩) (fun B hB => ?_)
        simp only [List.getElem_toArray, List.getElem_cons_zero, List.getElem_cons_succ, Act.put, List.setIfInBounds_toArray, List.set_cons_zero, List.set_cons_succ] at hB
        subst hB
        refine mix_pure _ rfl (.int .i64 (fr + KZ)) (.inl ⟨rfl, fun W hS => (by go_simp; rw [IntKind.wrap_i64]; omega)⟩) (fun B hB => ?_)
        simp only [List.getElem_toArray, List.getElem_cons_zero, List.getElem_cons_succ, Act.put, List.setIfInBounds_toArray, List.set_cons_zero, List.set_cons_succ] at hB
        subst hB
        refine mix_sole _ rfl (fun K hK => ?_)
        go_simp
        refine ⟨trivial, rfl, (callsIn_wide.2 (unveil HW2)).mono ?_⟩
        rintro e W6 ⟨v6, rfl, hr6, hg6, ho6⟩
        obtain ⟨q6, c6, rfl⟩ := row_slice hr6
        have HS6 : Hid (RlS w S1 t B3 s2 al2 (.slice uq2 un2 uc2) L2 row W6) := (unveil hSd).turn hg6 (unveil hOk)
        have HO6 : Hid (∀ r, (Value.slice q6 (C (k + 1)).length c6).ownBlock = some r → row = some r ∨ S1 ≤ r) := fun r e => by
          rcases ho6 r e with h | h
          · exact unveil hOk r h
          · exact .inr (Nat.le_trans (unveil hSd).s1 h)
        refine hK _ _ HS6 ?_
        clear hK K y0 y1 y2 y3 y4 y5 y6 b0 b1 b2 b3 lt0 lt1
        refine mix_nil ?_
        refine listIn_last rfl (fun K hK => ?_)
        go_simp
        refine hK _ _ ?_
        clear hK K
        go_wp2_with fail
        go_roundw
        case rel => exact ⟨k + 1, q6, c6, by go_num, rfl, by omega, hr6, HS6, HO6⟩
        case measure => simp [intOf]; omega
      · have i1 : ¬ (((C k).length : Nat) : Int) ≤ 2000 := by omega
        have he := unveil HCn k (by omega) hll
        have HE := veil (unveil HFIN he)
        clear he HFIN hll
        go_wp2_with fail
        go_ret
        exact unveil HE
    · have hkn : k = t.n.toNat := by omega
      have HE := veil (unveil HFIN (by rw [hkn]))
      clear hkn HFIN
      go_wp2_with fail
      go_ret
      exact unveil HE
end Go.Proofs.Ytaffldhmgifdoaa
