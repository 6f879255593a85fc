/-
  Package image: turn walked.
-/
import Derived.Test.YtkiebejidpebdaaZ11
namespace Go.Proofs.Ytkiebejidpebdaa
open Go Go.RowKit Go.Shelf
set_option linter.unusedVariables false
set_option linter.unusedSimpArgs false

theorem MpA.mono {W : World} {b n n' : Nat} {L : List Int → Option Int} (h : MpA W b n L) (hn : n ≤ n') : MpA W b n' L := by
  obtain ⟨D, h1, h2⟩ := h
  exact ⟨D, h1.mono hn, h2⟩
/-- A stop, and the node that it is of, as they lie in whatever turn leaves. -/
theorem stop_at {N0 : Nat} {M : Nat → Option (List (ShT × Int × Int))} {w wr : World} {g b nn base c k : Nat} {q : Option Addr} {bs : List Int} {Lm : List Int → Option Int} {L : List (Nat × Nat × Int × Int)} {S : List ((ShT × Int × Int) × Int × Int)} (hn : NI N0 M w) (hr : w.ownsRow base 121 3 (.slice q L.length c) L.length (stCs L)) (hrel : StL M L S)
    (hi : Bk w g 5 (byC bs)) (hm : MpA w b nn Lm) (ht : TG g b w wr) (hk : k < S.length) :
    ∃ G gn i, q = some ⟨G, 0, none⟩ ∧ G < wr.heap.size ∧ gn < wr.heap.size ∧ wr.cell? ⟨G, k * 3, none⟩ = some (.pointer (some ⟨gn, i * 10, none⟩)) ∧ wr.cell? ⟨G, k * 3 + 1, none⟩ = some (.int .i64 S[k].2.1) ∧ wr.cell? ⟨G, k * 3 + 2, none⟩ = some (.int .i64 S[k].2.2) ∧
      wr.cell? ⟨gn, i * 10, none⟩ = some (.int .i64 S[k].1.1.sh) ∧ wr.cell? ⟨gn, i * 10 + 8, none⟩ = some (.int .i64 S[k].1.2.2) := by
  have hkL : k < L.length := by rw [hrel.1]; exact hk
  obtain ⟨G, cs, rfl, _, hG, h0, h1, h2⟩ := row_st hr hkL
  obtain ⟨e, l, hl, hx⟩ := hrel.2 k L[k] S[k] (List.getElem?_eq_getElem hkL) (List.getElem?_eq_getElem hk)
  obtain ⟨_, cs', hb', hnd⟩ := hn.nd _ _ hl
  obtain ⟨pv, hc, _⟩ := hnd _ _ hx
  have hGg : G ≠ g := fun e => by
    subst e
    unfold Bk at hG hi
    rw [hG] at hi
    simp at hi
  have hng : L[k].1 ≠ g := fun e => by
    rw [e] at hb'
    unfold Bk at hb' hi
    rw [hb'] at hi
    simp at hi
  have hGw := ht.bk hG hGg (hm.not hG)
  have hNw := ht.bk hb' hng (hm.not hb')
  refine ⟨G, L[k].1, L[k].2.1, rfl, hGw.lt, hNw.lt, (hGw.cell _).trans h0, ?_, ?_, ?_, ?_⟩
  · rw [hGw.cell, h1, e]
  · rw [hGw.cell, h2, e]
  · rw [hNw.cell]; exact hc 0 _ rfl
  · rw [hNw.cell]; exact hc 8 _ rfl
theorem turM_cons (bs : List Int) (L : List Int → Option Int) (pre : List Int) (st : (ShT × Int × Int) × Int × Int) (r : List ((ShT × Int × Int) × Int × Int)) : turM bs L pre (st :: r) =
    if st.1.1.sh == 5 then turM (turS bs (L pre) st.2.2 (st.2.1 / 8).toNat (st.1.2.2 / 8).toNat) (setM L pre st.2.2) (pre ++ [st.2.2]) r
    else turM bs L (pre ++ [st.2.2]) r := by
  obtain ⟨x, fr, s⟩ := st
  simp only [turM]
theorem elem62 : Try.prog.underlying 62 = some (.slice (Try.prog.elem 62)) := by kernel_rfl
theorem size62 (W : World) : (Go.sizeOf (Try.prog.elem 62)).run Try.prog W = .ok 1 W := by kernel_rfl
theorem zero8 (W : World) : (zeroValue 5).run Try.prog W = .ok (.int .u8 0) W := by kernel_rfl
theorem sl_from (W : World) (g N F : Nat) (f : Int) (hf : f = F) (h : F < N) : (Instr.slice 62 (.slice (some ⟨g, 0, none⟩) N N) (some (.int .i64 f)) none none).run Try.prog W = .ok (.slice (some ⟨g, F, none⟩) (N - F) (N - F)) W := by
  subst hf
  rw [run_slice_l W 62 (some ⟨g, 0, none⟩) N N elem62 .i64 (F : Int) (by omega) (by omega), size62]
  simp only [Result.andThen, Int.toNat_natCast, sliced, if_neg (Nat.ne_of_gt h), Option.map_some, Addr.add, Nat.mul_one, Nat.zero_add]
  by_cases h0 : F = 0
  · simp [h0]
  · simp [h0]
theorem sl_upto (W : World) (g F n Z : Nat) (z : Int) (hz : z = Z) (h : Z ≤ n) (hn : 0 < n) : (Instr.slice 62 (.slice (some ⟨g, F, none⟩) n n) none (some (.int .i64 z)) none).run Try.prog W = .ok (.slice (some ⟨g, F, none⟩) Z n) W := by
  subst hz
  rw [run_slice_h W 62 (some ⟨g, F, none⟩) n n elem62 .i64 (Z : Int) (by omega) (by omega), size62]
  simp only [Result.andThen, Int.toNat_natCast, sliced, if_neg (Nat.ne_of_gt hn), Option.map_some, Addr.add, Nat.zero_mul, Nat.add_zero, Nat.sub_zero]
  simp
theorem cl_run (W : World) (g F Z c : Nat) (l : List Int) (ty : TypeId) (hb : Bk W g 5 (byC l)) (hz : 0 < Z) (h : F + Z ≤ l.length) : (Builtin.clear_ #[62] ty #[.slice (some ⟨g, F, none⟩) Z c]).run Try.prog W = .ok (.tuple #[]) (W.setCells g F (List.replicate Z (.int .u8 0))) :=
  Lib.run_clear_slice W 62 5 ty (.int .u8 0) Try.underlying62 zero8 rfl rfl g F Z c hz (fun j hj => by
    rw [hb.cell, byC_get, List.getElem?_eq_getElem (by omega)]
    rfl) (fun j hj => hb.frozen _)
set_option maxRecDepth 100000 in
set_option maxHeartbeats 20000000 in
theorem turn_any (N0 : Nat) (M : Nat → Option (List (ShT × Int × Int))) (w : World) (g b nn base c : Nat) (q : Option Addr) (bs : List Int) (Lm : List Int → Option Int) (L : List (Nat × Nat × Int × Int)) (S : List ((ShT × Int × Int) × Int × Int)) (hn : NI N0 M w) (hr : w.ownsRow base 121 3 (.slice q L.length c) L.length (stCs L)) (hrel : StL M L S)
    (hi : Bk w g 5 (byC bs)) (hm : MpA w b nn Lm) (hs : StOk bs.length S) (hbs : bs.length ≤ 65536) (hnn : nn ≤ 1000000) :
    Calls Try.prog 56 #[.slice (some ⟨g, 0, none⟩) bs.length bs.length, .map (some b), .slice q L.length c] w fun e w' => (∃ r, e = .returned r) ∧ Bk w' g 5 (byC (turM bs Lm [] S).1) ∧ MpA w' b (nn + S.length) (turM bs Lm [] S).2 ∧ TG g b w w' := by
  have HST : Hid (∀ wr k, TG g b w wr → (hk : k < S.length) → ∃ G gn i, q = some ⟨G, 0, none⟩ ∧ G < wr.heap.size ∧ gn < wr.heap.size ∧ wr.cell? ⟨G, k * 3, none⟩ = some (.pointer (some ⟨gn, i * 10, none⟩)) ∧ wr.cell? ⟨G, k * 3 + 1, none⟩ = some (.int .i64 S[k].2.1) ∧ wr.cell? ⟨G, k * 3 + 2, none⟩ = some (.int .i64 S[k].2.2) ∧
      wr.cell? ⟨gn, i * 10, none⟩ = some (.int .i64 S[k].1.1.sh) ∧ wr.cell? ⟨gn, i * 10 + 8, none⟩ = some (.int .i64 S[k].1.2.2)) := fun wr k ht hk => stop_at (k := k) hn hr hrel hi hm ht hk
  have HS0 : Hid (∀ W, W = w.alloc (.cells (plC []) 126) → TuS w W g b nn bs Lm []) := fun W e => by
    subst e
    exact ⟨Bk.new w _ _, hi.alloc _, hm.kept (World.grownBy_alloc w _ none) (by simp), (TG.refl g b w).row (World.grownBy_alloc w _ none) (fun r e => by cases e), hi.lt, hm.lt⟩
  have HOK := veil hs
  have HLL := hrel.1
  have hSl : S.length ≤ 6 := hs.1
  rw [HLL] at *
  clear hn hr hrel hi hm hs
  obtain ⟨PO, hPO⟩ : ∃ PO : Ending → World → Prop, (fun (e : Ending) (w' : World) => (∃ r, e = .returned r) ∧ Bk w' g 5 (byC (turM bs Lm [] S).1) ∧ MpA w' b (nn + S.length) (turM bs Lm [] S).2 ∧ TG g b w w') = PO := ⟨_, rfl⟩
  rw [hPO]
  have HPO : Hid (∀ v w' bs' L', turM bs Lm [] S = (bs', L') → Bk w' g 5 (byC bs') → MpA w' b (nn + S.length) L' → TG g b w w' → PO (.returned v) w') := fun v w' bs' L' e h1 h2 h3 => by
    rw [← hPO]
    refine ⟨⟨_, rfl⟩, ?_, ?_, h3⟩
    · rw [e]; exact h1
    · rw [e]; exact h2
  clear hPO
  obtain ⟨N, hN⟩ : ∃ N, bs.length = N := ⟨_, rfl⟩
  rw [hN] at hbs HOK ⊢
  have HN := veil hN
  clear hN
  go_enter Try.func56, Try.ntmps56
  go_upto_region 1 with fail
  have HS1 : Hid (TuS w (w.alloc (.cells #[.int .i64 0, .int .i64 0, .int .i64 0, .int .i64 0, .int .i64 0, .int .i64 0, .int .i64 0] 126)) g b nn bs Lm []) := unveil HS0 _ rfl
  generalize (w.alloc (.cells #[.int .i64 0, .int .i64 0, .int .i64 0, .int .i64 0, .int .i64 0, .int .i64 0, .int .i64 0] 126)) = W0 at HS1 ⊢
  go_wp2_with fail
  go_loopw [14] (fun i wr => ∃ (k : Nat) (bk : List Int) (Lk : List Int → Option Int) (pre : List Int), i = .int .i64 k ∧ k ≤ S.length ∧ Hid (TuS w wr g b (nn + k) bk Lk pre) ∧ Hid (bk.length = N) ∧ Hid (pre.length = k) ∧ Hid (OkS pre) ∧ Hid (turM bs Lm [] S = turM bk Lk pre (S.drop k)))
    (fun i wr => S.length - (intOf i).toNat)
  case atStart => exact ⟨0, bs, Lm, [], rfl, Nat.zero_le _, HS1, HN, rfl, ⟨by simp, fun x hx => by cases hx⟩, by rw [Hid, List.drop_zero]⟩
  case round =>
    obtain ⟨k, bk, Lk, pre, rfl, hk, hT, hbl, hpl, hok, hturn⟩ := hrel
    by_cases hkl : k < S.length
    · obtain ⟨G, gn, i, rfl, hGl, hgn, s0, s1, s2, n0, n8⟩ := unveil HST wr k (unveil hT).tg hkl
      have hdr : S.drop k = S[k] :: S.drop (k + 1) := List.drop_eq_getElem_cons hkl
      have hturn' := unveil hturn
      rw [hdr, turM_cons] at hturn'
      obtain ⟨ho1, ho2, ho3, ho4, ho5, ho6⟩ := (unveil HOK).2 S[k] (List.getElem_mem hkl)
      clear hdr
      generalize S[k] = st at *
      obtain ⟨⟨x, xb, bits⟩, fr, s⟩ := st
      simp only at s0 s1 s2 n0 n8 hturn' ho1 ho2 ho3 ho4 ho5 ho6
      have hki : (k : Int) < (S.length : Int) := by omega
      have hk6 : k < 6 := by omega
      have HO6 := veil ho6
      have HTU := veil hturn'
      clear hturn' ho6
      go_upto_region 4 with fail
      have HT1 : Hid (TuS w (wr.alloc (.cells #[.pointer (some ⟨gn, i * 10, none⟩), .int .i64 fr, .int .i64 s] 121)) g b (nn + k) bk Lk pre) := (unveil hT).below ((Below.refl _ wr).alloc (Nat.le_refl _) _)
      have hsb := Bk.new wr 121 #[.pointer (some ⟨gn, i * 10, none⟩), .int .i64 fr, .int .i64 s]
      have hbw : Below wr.heap.size wr (wr.alloc (.cells #[.pointer (some ⟨gn, i * 10, none⟩), .int .i64 fr, .int .i64 s] 121)) := (Below.refl _ wr).alloc (Nat.le_refl _) _
      have m0 := (hbw.cell (p := ⟨gn, i * 10, none⟩) hgn).trans n0
      have m8 := (hbw.cell (p := ⟨gn, i * 10 + 8, none⟩) hgn).trans n8
      have mgn : gn < (wr.alloc (.cells #[.pointer (some ⟨gn, i * 10, none⟩), .int .i64 fr, .int .i64 s] 121)).heap.size := Nat.lt_of_lt_of_le hgn hbw.size
      have HSBS : Hid (wr.heap.size ≠ w.heap.size ∧ wr.heap.size ≠ g ∧ wr.heap.size ≠ b) := ⟨by have := (unveil hT).p.lt; omega, by have := (unveil hT).i.lt; omega, by have := (unveil hT).m.lt; omega⟩
      clear hbw n0 n8 hgn s0 s1 s2 hGl
      generalize (wr.alloc (.cells #[.pointer (some ⟨gn, i * 10, none⟩), .int .i64 fr, .int .i64 s] 121)) = W1 at *
      generalize wr.heap.size = SB at *
      have d0 := hsb.cell 0
      have d1 := hsb.cell 1
      have d2 := hsb.cell 2
      have dl := hsb.lt
      simp only [List.getElem?_toArray, List.getElem?_cons_zero, List.getElem?_cons_succ] at d0 d1 d2
      cases h5 : x.sh == 5
      · have HX : Hid (TuS w W1 g b (nn + (k + 1)) bk Lk pre) := ⟨(unveil HT1).p, (unveil HT1).i, (unveil HT1).m.mono (by omega), (unveil HT1).tg, (unveil HT1).gl, (unveil HT1).bl⟩
        have HTX : Hid (turM bs Lm [] S = turM bk Lk (pre ++ [s]) (S.drop (k + 1))) := by
          rw [Hid, unveil HTU]
          simp only [h5, Bool.false_eq_true, if_false]
        have hbX := hbl
        clear HTU
        go_upto_region 9 with fail
        clear d0 d1 d2 m0 m8
        have hpx := (unveil HX).p
        have p6 := hpx.cell 6
        have p6' : (plC pre)[6]? = some (.int .i64 (k : Int)) := by rw [← unveil hpl]; rfl
        rw [p6'] at p6
        have pk := hpx.cell k
        have pk' : (plC pre)[k]? = some (.int .i64 (pre.getD k 0)) := by
          have hh : k = 0 ∨ k = 1 ∨ k = 2 ∨ k = 3 ∨ k = 4 ∨ k = 5 := by omega
          rcases hh with h | h | h | h | h | h <;> rw [h] <;> rfl
        rw [pk'] at pk
        have fk := hpx.frozen k
        have hpl0 := hpx.lt
        have e2 := hsb.cell 2
        have esl := hsb.lt
        simp only [List.getElem?_toArray, List.getElem?_cons_zero, List.getElem?_cons_succ] at e2
        have HY1 : Hid (∀ W, W = W1.setCell ⟨w.heap.size, k, none⟩ (.int .i64 s) → W.cell? ⟨w.heap.size, 6, none⟩ = some (.int .i64 (k : Int)) ∧ W.frozen? ⟨w.heap.size, 6, none⟩ = false ∧ w.heap.size < W.heap.size ∧ ∀ W2, W2 = W.setCell ⟨w.heap.size, 6, none⟩ (.int .i64 ((k : Int) + 1)) → Hid (TuS w W2 g b (nn + (k + 1)) bk Lk (pre ++ [s]))) := fun W e => by
          have h2 := (hpx.set k (.int .i64 s))
          rw [← e] at h2
          refine ⟨?_, h2.frozen 6, h2.lt, fun W2 e2 => ?_⟩
          · rw [h2.cell, Array.getElem?_setIfInBounds_ne (by omega)]
            exact p6'
          · have h3 := (unveil HX).snoc (by rw [unveil hpl]; omega) s
            rw [unveil hpl, ← e, ← e2] at h3
            exact h3
        clear hpx p6' pk' hsb
        go_upto_region 10 with fail
        obtain ⟨r1, r2, r3, r4⟩ := unveil HY1 _ rfl
        have HR4 := veil r4
        clear r4
        generalize (W1.setCell ⟨w.heap.size, k, none⟩ (.int .i64 s)) = Wy at *
        clear p6 pk fk e2
        go_wp2_with fail
        go_roundw
        case rel => exact ⟨k + 1, bk, Lk, pre ++ [s], by go_num, by omega, unveil HR4 _ (by go_num), hbX, by rw [Hid, List.length_append, unveil hpl]; rfl, ⟨by rw [List.length_append, unveil hpl]; simp; omega, fun y hy => by
          rcases List.mem_append.1 hy with hy | hy
          · exact (unveil hok).2 y hy
          · obtain rfl : y = s := by simpa using hy
            exact ⟨ho1, ho2⟩⟩, HTX⟩
        case measure => simp [intOf]; omega
      · have HKY := veil (key_place (unveil hok))
        unfold plC at HKY
        have HPE : Hid (plainElem (H := Unit) Try.prog 3 (.int .i64 s) = some (.lit (.int .i64 s), [])) := plainElem_int undI (WalkArith.wf_i64 (by omega))
        have hpp := (unveil HT1).p
        unfold plC at hpp
        have p0 := hpp.cell 0
        have p1 := hpp.cell 1
        have p2 := hpp.cell 2
        have p3 := hpp.cell 3
        have p4 := hpp.cell 4
        have p5 := hpp.cell 5
        have p6 := hpp.cell 6
        have ppl := hpp.lt
        simp only [List.getElem?_toArray, List.getElem?_cons_zero, List.getElem?_cons_succ] at p0 p1 p2 p3 p4 p5 p6
        clear hpp
        have HTU2 : Hid (turM bs Lm [] S = turM (turS bk (Lk pre) s (fr / 8).toNat (bits / 8).toNat) (setM Lk pre s) (pre ++ [s]) (S.drop (k + 1))) := by
          rw [Hid, unveil HTU]
          simp only [h5, if_true]
        clear HTU
        obtain ⟨D, hown, hD⟩ := (unveil HT1).m
        obtain ⟨hhas, hat⟩ := hD.2 pre (unveil hok)
        have HOWN := veil hown
        clear hown hD
        cases hL : Lk pre with
        | none =>
          rw [hL] at hhas HTU2
          have HHAS := veil hhas
          clear hhas hat hL
          have HTX : Hid (turM bs Lm [] S = turM bk (setM Lk pre s) (pre ++ [s]) (S.drop (k + 1))) := HTU2
          clear HTU2
          go_upto_region 6 with (at_lookup; refine wpList_lookup_own_ok_int (H := Unit) _ rfl _ _ 95 rfl 126 3 .i64 keyedP undM95 undI (zI _) b (nn + k) D rfl (unveil HOWN) _ (.string (klP pre)) rfl (unveil HKY) ?_; intro c' hc' hwc'; rw [unveil HHAS]; clear hc' hwc')
          go_upto_region 8 with fail
          clear p0 p1 p2 p3 p4 p5 p6 ppl d0 d1 d2 m0 m8
          have HU := HT1
          have hsu := hsb
          clear hsb
          have hbX := hbl
          have hpp := (unveil HU).p
          unfold plC at hpp
          have p0 := hpp.cell 0
          have p1 := hpp.cell 1
          have p2 := hpp.cell 2
          have p3 := hpp.cell 3
          have p4 := hpp.cell 4
          have p5 := hpp.cell 5
          have p6 := hpp.cell 6
          have ppl := hpp.lt
          simp only [List.getElem?_toArray, List.getElem?_cons_zero, List.getElem?_cons_succ] at p0 p1 p2 p3 p4 p5 p6
          clear hpp
          have u2 := hsu.cell 2
          have ul := hsu.lt
          simp only [List.getElem?_toArray, List.getElem?_cons_zero, List.getElem?_cons_succ] at u2
          obtain ⟨D8, hown8, hD8⟩ := (unveil HU).m
          have HOWN8 := veil hown8
          have HD8 := veil hD8
          clear hown8 hD8
          go_upto_region 9 with (at_mapUpdate; refine wpList_mapUpdate_own (H := Unit) _ rfl _ _ _ 95 rfl 126 3 keyedP undM95 (plainElem Try.prog 3) b (nn + k) D8 rfl (unveil HOWN8) (by unfold maxLen; omega) _ _ (.string (klP pre)) rfl rfl (unveil HKY) _ [] (unveil HPE) ?_; intro w8 hown9 hg9)
          have HX : Hid (TuS w w8 g b (nn + (k + 1)) bk (setM Lk pre s) pre) := (unveil HU).map hg9 ⟨_, hown9, (unveil HD8).put (unveil hok) s⟩
          have hsb : Bk w8 SB 121 #[.pointer (some ⟨gn, i * 10, none⟩), .int .i64 fr, .int .i64 s] := (hg9.block _ hsu.lt (fun e => by cases e; exact (unveil HSBS).2.2 rfl)).trans hsu
          clear u2 ul p0 p1 p2 p3 p4 p5 p6 ppl hown9 hg9 hsu
          have hpx := (unveil HX).p
          have p6 := hpx.cell 6
          have p6' : (plC pre)[6]? = some (.int .i64 (k : Int)) := by rw [← unveil hpl]; rfl
          rw [p6'] at p6
          have pk := hpx.cell k
          have pk' : (plC pre)[k]? = some (.int .i64 (pre.getD k 0)) := by
            have hh : k = 0 ∨ k = 1 ∨ k = 2 ∨ k = 3 ∨ k = 4 ∨ k = 5 := by omega
            rcases hh with h | h | h | h | h | h <;> rw [h] <;> rfl
          rw [pk'] at pk
          have fk := hpx.frozen k
          have hpl0 := hpx.lt
          have e2 := hsb.cell 2
          have esl := hsb.lt
          simp only [List.getElem?_toArray, List.getElem?_cons_zero, List.getElem?_cons_succ] at e2
          have HY1 : Hid (∀ W, W = w8.setCell ⟨w.heap.size, k, none⟩ (.int .i64 s) → W.cell? ⟨w.heap.size, 6, none⟩ = some (.int .i64 (k : Int)) ∧ W.frozen? ⟨w.heap.size, 6, none⟩ = false ∧ w.heap.size < W.heap.size ∧ ∀ W2, W2 = W.setCell ⟨w.heap.size, 6, none⟩ (.int .i64 ((k : Int) + 1)) → Hid (TuS w W2 g b (nn + (k + 1)) bk (setM Lk pre s) (pre ++ [s]))) := fun W e => by
            have h2 := (hpx.set k (.int .i64 s))
            rw [← e] at h2
            refine ⟨?_, h2.frozen 6, h2.lt, fun W2 e2 => ?_⟩
            · rw [h2.cell, Array.getElem?_setIfInBounds_ne (by omega)]
              exact p6'
            · have h3 := (unveil HX).snoc (by rw [unveil hpl]; omega) s
              rw [unveil hpl, ← e, ← e2] at h3
              exact h3
          clear hpx p6' pk' hsb
          go_upto_region 10 with fail
          obtain ⟨r1, r2, r3, r4⟩ := unveil HY1 _ rfl
          have HR4 := veil r4
          clear r4
          generalize (w8.setCell ⟨w.heap.size, k, none⟩ (.int .i64 s)) = Wy at *
          clear p6 pk fk e2
          go_wp2_with fail
          go_roundw
          case rel => exact ⟨k + 1, bk, (setM Lk pre s), pre ++ [s], by go_num, by omega, unveil HR4 _ (by go_num), hbX, by rw [Hid, List.length_append, unveil hpl]; rfl, ⟨by rw [List.length_append, unveil hpl]; simp; omega, fun y hy => by
            rcases List.mem_append.1 hy with hy | hy
            · exact (unveil hok).2 y hy
            · obtain rfl : y = s := by simpa using hy
              exact ⟨ho1, ho2⟩⟩, HTX⟩
          case measure => simp [intOf]; omega
        | some m =>
          rw [hL] at hhas hat HTU2
          have HHAS := veil hhas
          have HAT : Hid (∀ c' : Int, D.atKey (.string (klP pre)) (.lit (.int .i64 0)) = .lit (.int .i64 c') → m = c') := fun c' hc' => by
            have := hat.symm.trans hc'
            simpa using this
          clear hhas hat hL
          cases hms : m != s
          · have HTX : Hid (turM bs Lm [] S = turM bk (setM Lk pre s) (pre ++ [s]) (S.drop (k + 1))) := by
              have := unveil HTU2
              unfold turS at this
              simp only [hms, Bool.false_eq_true, if_false] at this
              exact this
            clear HTU2
            go_upto_region 6 with (at_lookup; refine wpList_lookup_own_ok_int (H := Unit) _ rfl _ _ 95 rfl 126 3 .i64 keyedP undM95 undI (zI _) b (nn + k) D rfl (unveil HOWN) _ (.string (klP pre)) rfl (unveil HKY) ?_; intro c' hc' hwc'; obtain rfl := unveil HAT c' hc'; rw [unveil HHAS]; clear hc' hwc')
            go_upto_region 8 with fail
            clear p0 p1 p2 p3 p4 p5 p6 ppl d0 d1 d2 m0 m8 hms
            have HU := HT1
            have hsu := hsb
            clear hsb
            have hbX := hbl
            have hpp := (unveil HU).p
            unfold plC at hpp
            have p0 := hpp.cell 0
            have p1 := hpp.cell 1
            have p2 := hpp.cell 2
            have p3 := hpp.cell 3
            have p4 := hpp.cell 4
            have p5 := hpp.cell 5
            have p6 := hpp.cell 6
            have ppl := hpp.lt
            simp only [List.getElem?_toArray, List.getElem?_cons_zero, List.getElem?_cons_succ] at p0 p1 p2 p3 p4 p5 p6
            clear hpp
            have u2 := hsu.cell 2
            have ul := hsu.lt
            simp only [List.getElem?_toArray, List.getElem?_cons_zero, List.getElem?_cons_succ] at u2
            obtain ⟨D8, hown8, hD8⟩ := (unveil HU).m
            have HOWN8 := veil hown8
            have HD8 := veil hD8
            clear hown8 hD8
            go_upto_region 9 with (at_mapUpdate; refine wpList_mapUpdate_own (H := Unit) _ rfl _ _ _ 95 rfl 126 3 keyedP undM95 (plainElem Try.prog 3) b (nn + k) D8 rfl (unveil HOWN8) (by unfold maxLen; omega) _ _ (.string (klP pre)) rfl rfl (unveil HKY) _ [] (unveil HPE) ?_; intro w8 hown9 hg9)
            have HX : Hid (TuS w w8 g b (nn + (k + 1)) bk (setM Lk pre s) pre) := (unveil HU).map hg9 ⟨_, hown9, (unveil HD8).put (unveil hok) s⟩
            have hsb : Bk w8 SB 121 #[.pointer (some ⟨gn, i * 10, none⟩), .int .i64 fr, .int .i64 s] := (hg9.block _ hsu.lt (fun e => by cases e; exact (unveil HSBS).2.2 rfl)).trans hsu
            clear u2 ul p0 p1 p2 p3 p4 p5 p6 ppl hown9 hg9 hsu
            have hpx := (unveil HX).p
            have p6 := hpx.cell 6
            have p6' : (plC pre)[6]? = some (.int .i64 (k : Int)) := by rw [← unveil hpl]; rfl
            rw [p6'] at p6
            have pk := hpx.cell k
            have pk' : (plC pre)[k]? = some (.int .i64 (pre.getD k 0)) := by
              have hh : k = 0 ∨ k = 1 ∨ k = 2 ∨ k = 3 ∨ k = 4 ∨ k = 5 := by omega
              rcases hh with h | h | h | h | h | h <;> rw [h] <;> rfl
            rw [pk'] at pk
            have fk := hpx.frozen k
            have hpl0 := hpx.lt
            have e2 := hsb.cell 2
            have esl := hsb.lt
            simp only [List.getElem?_toArray, List.getElem?_cons_zero, List.getElem?_cons_succ] at e2
            have HY1 : Hid (∀ W, W = w8.setCell ⟨w.heap.size, k, none⟩ (.int .i64 s) → W.cell? ⟨w.heap.size, 6, none⟩ = some (.int .i64 (k : Int)) ∧ W.frozen? ⟨w.heap.size, 6, none⟩ = false ∧ w.heap.size < W.heap.size ∧ ∀ W2, W2 = W.setCell ⟨w.heap.size, 6, none⟩ (.int .i64 ((k : Int) + 1)) → Hid (TuS w W2 g b (nn + (k + 1)) bk (setM Lk pre s) (pre ++ [s]))) := fun W e => by
              have h2 := (hpx.set k (.int .i64 s))
              rw [← e] at h2
              refine ⟨?_, h2.frozen 6, h2.lt, fun W2 e2 => ?_⟩
              · rw [h2.cell, Array.getElem?_setIfInBounds_ne (by omega)]
                exact p6'
              · have h3 := (unveil HX).snoc (by rw [unveil hpl]; omega) s
                rw [unveil hpl, ← e, ← e2] at h3
                exact h3
            clear hpx p6' pk' hsb
            go_upto_region 10 with fail
            obtain ⟨r1, r2, r3, r4⟩ := unveil HY1 _ rfl
            have HR4 := veil r4
            clear r4
            generalize (w8.setCell ⟨w.heap.size, k, none⟩ (.int .i64 s)) = Wy at *
            clear p6 pk fk e2
            go_wp2_with fail
            go_roundw
            case rel => exact ⟨k + 1, bk, (setM Lk pre s), pre ++ [s], by go_num, by omega, unveil HR4 _ (by go_num), hbX, by rw [Hid, List.length_append, unveil hpl]; rfl, ⟨by rw [List.length_append, unveil hpl]; simp; omega, fun y hy => by
              rcases List.mem_append.1 hy with hy | hy
              · exact (unveil hok).2 y hy
              · obtain rfl : y = s := by simpa using hy
                exact ⟨ho1, ho2⟩⟩, HTX⟩
            case measure => simp [intOf]; omega
          · obtain ⟨F, hF⟩ : ∃ F : Nat, (fr / 8).toNat = F := ⟨_, rfl⟩
            obtain ⟨Z, hZ⟩ : ∃ Z : Nat, (bits / 8).toNat = Z := ⟨_, rfl⟩
            have h8 := unveil HO6 h5
            have hZ0 : 0 < Z := by omega
            have hFZ : F + Z ≤ N := by omega
            have hFi : fr / 8 = (F : Int) := by omega
            have hZi : bits / 8 = (Z : Int) := by omega
            have HTX : Hid (turM bs Lm [] S = turM (clrM bk F Z) (setM Lk pre s) (pre ++ [s]) (S.drop (k + 1))) := by
              have := unveil HTU2
              unfold turS at this
              simp only [hms, if_true, hF, hZ] at this
              exact this
            have hbX : Hid ((clrM bk F Z).length = N) := by rw [Hid, clr_len, unveil hbl]
            have hbits : bits ≤ 524288 := by omega
            clear HTU2 hF hZ h8
            go_upto_region 6 with (at_lookup; refine wpList_lookup_own_ok_int (H := Unit) _ rfl _ _ 95 rfl 126 3 .i64 keyedP undM95 undI (zI _) b (nn + k) D rfl (unveil HOWN) _ (.string (klP pre)) rfl (unveil HKY) ?_; intro c' hc' hwc'; obtain rfl := unveil HAT c' hc'; rw [unveil HHAS]; clear hc' hwc')
            go_upto_region 7 with fail
            have hsl1 := fun W => sl_from W g N F (F : Int) rfl (by omega)
            have hqF : IntKind.i64.wrap (fr.tdiv 8) = (F : Int) := by rw [IntKind.wrap_i64, Int.tdiv_eq_ediv_of_nonneg ho3, hFi]; omega
            have hsl2 := fun W => sl_upto W g F (N - F) Z (Z : Int) rfl (by omega) (by omega)
            have HSZ : Hid (∀ W, W.cell? ⟨gn, i * 10 + 8, none⟩ = some (.int .i64 bits) → Calls Try.prog 54 #[.pointer (some ⟨gn, i * 10, none⟩)] W fun e w' => e = .returned (.int .i64 (Z : Int)) ∧ w' = W) := fun W h => by rw [← hZi]; exact size_c gn (i * 10) bits W h (by omega) hbits
            have HUC : Hid (TuS w (W1.drew.setCells g F (List.replicate Z (.int .u8 0))) g b (nn + k) (clrM bk F Z) Lk pre) := ((unveil HT1).below (Below.refl _ W1).drew).clear F Z
            have hsu0 : Bk (W1.drew.setCells g F (List.replicate Z (.int .u8 0))) SB 121 #[.pointer (some ⟨gn, i * 10, none⟩), .int .i64 fr, .int .i64 s] := by
              obtain ⟨_, h2⟩ := bk_clear g 5 Z F bk W1.drew ((unveil HT1).below (Below.refl _ W1).drew).i
              exact (h2.block _ hsb.lt (fun e => by cases e; exact (unveil HSBS).2.1 rfl)).trans hsb
            have hcl := fun ty => cl_run W1.drew g F Z (N - F) bk ty ((unveil HT1).below (Below.refl _ W1).drew).i hZ0 (by rw [unveil hbl]; exact hFZ)
            have HSU := veil hsu0
            clear hsu0 hFi hZi hZ0 hFZ p0 p1 p2 p3 p4 p5 p6 ppl d2 m0
            have hm8 : W1.drew.cell? ⟨gn, i * 10 + 8, none⟩ = some (.int .i64 bits) := m8
            refine wp_region_noPanic (wpIn_wide.1 (wpIn_region_mix (ro := none) (n := 0) (fun w' => w' = W1.drew)
              [(0, true), (1, true), (2, true), (3, true), (4, true), (5, true), (6, true), (7, false), (8, true)]
              9 hmixN (by kernel_rfl) (by kernel_rfl) (by kernel_rfl) (by kernel_rfl) (by kernel_rfl) (by kernel_rfl) (fun _ _ _ _ h => h) rfl ?_))
            iterate 3 (
              refine mix_pure _ rfl _ (.inl ⟨rfl, fun W hS => (by subst hS; go_simp; rfl)⟩) (fun B hB => ?_); simp only [Act.put, List.setIfInBounds_toArray, List.set_cons_zero, List.set_cons_succ] at hB; subst hB)
            refine mix_pure _ rfl (.int .i64 (F : Int)) (.inl ⟨rfl, fun W hS => (by subst hS; go_simp)⟩) (fun B hB => ?_); simp only [Act.put, List.setIfInBounds_toArray, List.set_cons_zero, List.set_cons_succ] at hB; subst hB
            refine mix_pure _ rfl (.slice (some ⟨g, F, none⟩) (N - F) (N - F)) (.inl ⟨rfl, fun W hS => (by subst hS; go_simp)⟩) (fun B hB => ?_); simp only [Act.put, List.setIfInBounds_toArray, List.set_cons_zero, List.set_cons_succ] at hB; subst hB
            iterate 2 (
              refine mix_pure _ rfl _ (.inl ⟨rfl, fun W hS => (by subst hS; go_simp; rfl)⟩) (fun B hB => ?_); simp only [Act.put, List.setIfInBounds_toArray, List.set_cons_zero, List.set_cons_succ] at hB; subst hB)
            refine mix_sole _ rfl (fun K hK => ?_)
            go_simp
            refine ⟨trivial, rfl, (callsIn_wide.2 (unveil HSZ _ hm8)).mono ?_⟩
            rintro e W9 ⟨rfl, rfl⟩
            refine hK _ _ rfl ?_
            clear hK K
            refine mix_pure _ rfl (.slice (some ⟨g, F, none⟩) Z (N - F)) (.inl ⟨rfl, fun W hS => (by subst hS; go_simp)⟩) (fun B hB => ?_); simp only [Act.put, List.setIfInBounds_toArray, List.set_cons_zero, List.set_cons_succ] at hB; subst hB
            refine mix_nil ?_
            refine listIn_last rfl (fun K hK => ?_)
            go_simp
            refine hK _ _ ?_
            clear hK K hsl1 hsl2 hqF hcl d0 d1 m8 hm8 hsb
            have HU := HUC
            have hsu := unveil HSU
            generalize (W1.drew.setCells g F (List.replicate Z (.int .u8 0))) = W8 at *
            go_upto_region 8 with fail
            have hpp := (unveil HU).p
            unfold plC at hpp
            have p0 := hpp.cell 0
            have p1 := hpp.cell 1
            have p2 := hpp.cell 2
            have p3 := hpp.cell 3
            have p4 := hpp.cell 4
            have p5 := hpp.cell 5
            have p6 := hpp.cell 6
            have ppl := hpp.lt
            simp only [List.getElem?_toArray, List.getElem?_cons_zero, List.getElem?_cons_succ] at p0 p1 p2 p3 p4 p5 p6
            clear hpp
            have u2 := hsu.cell 2
            have ul := hsu.lt
            simp only [List.getElem?_toArray, List.getElem?_cons_zero, List.getElem?_cons_succ] at u2
            obtain ⟨D8, hown8, hD8⟩ := (unveil HU).m
            have HOWN8 := veil hown8
            have HD8 := veil hD8
            clear hown8 hD8
            go_upto_region 9 with (at_mapUpdate; refine wpList_mapUpdate_own (H := Unit) _ rfl _ _ _ 95 rfl 126 3 keyedP undM95 (plainElem Try.prog 3) b (nn + k) D8 rfl (unveil HOWN8) (by unfold maxLen; omega) _ _ (.string (klP pre)) rfl rfl (unveil HKY) _ [] (unveil HPE) ?_; intro w8 hown9 hg9)
            have HX : Hid (TuS w w8 g b (nn + (k + 1)) (clrM bk F Z) (setM Lk pre s) pre) := (unveil HU).map hg9 ⟨_, hown9, (unveil HD8).put (unveil hok) s⟩
            have hsb : Bk w8 SB 121 #[.pointer (some ⟨gn, i * 10, none⟩), .int .i64 fr, .int .i64 s] := (hg9.block _ hsu.lt (fun e => by cases e; exact (unveil HSBS).2.2 rfl)).trans hsu
            clear u2 ul p0 p1 p2 p3 p4 p5 p6 ppl hown9 hg9 hsu
            have hpx := (unveil HX).p
            have p6 := hpx.cell 6
            have p6' : (plC pre)[6]? = some (.int .i64 (k : Int)) := by rw [← unveil hpl]; rfl
            rw [p6'] at p6
            have pk := hpx.cell k
            have pk' : (plC pre)[k]? = some (.int .i64 (pre.getD k 0)) := by
              have hh : k = 0 ∨ k = 1 ∨ k = 2 ∨ k = 3 ∨ k = 4 ∨ k = 5 := by omega
              rcases hh with h | h | h | h | h | h <;> rw [h] <;> rfl
            rw [pk'] at pk
            have fk := hpx.frozen k
            have hpl0 := hpx.lt
            have e2 := hsb.cell 2
            have esl := hsb.lt
            simp only [List.getElem?_toArray, List.getElem?_cons_zero, List.getElem?_cons_succ] at e2
            have HY1 : Hid (∀ W, W = w8.setCell ⟨w.heap.size, k, none⟩ (.int .i64 s) → W.cell? ⟨w.heap.size, 6, none⟩ = some (.int .i64 (k : Int)) ∧ W.frozen? ⟨w.heap.size, 6, none⟩ = false ∧ w.heap.size < W.heap.size ∧ ∀ W2, W2 = W.setCell ⟨w.heap.size, 6, none⟩ (.int .i64 ((k : Int) + 1)) → Hid (TuS w W2 g b (nn + (k + 1)) (clrM bk F Z) (setM Lk pre s) (pre ++ [s]))) := fun W e => by
              have h2 := (hpx.set k (.int .i64 s))
              rw [← e] at h2
              refine ⟨?_, h2.frozen 6, h2.lt, fun W2 e2 => ?_⟩
              · rw [h2.cell, Array.getElem?_setIfInBounds_ne (by omega)]
                exact p6'
              · have h3 := (unveil HX).snoc (by rw [unveil hpl]; omega) s
                rw [unveil hpl, ← e, ← e2] at h3
                exact h3
            clear hpx p6' pk' hsb
            go_upto_region 10 with fail
            obtain ⟨r1, r2, r3, r4⟩ := unveil HY1 _ rfl
            have HR4 := veil r4
            clear r4
            generalize (w8.setCell ⟨w.heap.size, k, none⟩ (.int .i64 s)) = Wy at *
            clear p6 pk fk e2
            go_wp2_with fail
            go_roundw
            case rel => exact ⟨k + 1, (clrM bk F Z), (setM Lk pre s), pre ++ [s], by go_num, by omega, unveil HR4 _ (by go_num), hbX, by rw [Hid, List.length_append, unveil hpl]; rfl, ⟨by rw [List.length_append, unveil hpl]; simp; omega, fun y hy => by
              rcases List.mem_append.1 hy with hy | hy
              · exact (unveil hok).2 y hy
              · obtain rfl : y = s := by simpa using hy
                exact ⟨ho1, ho2⟩⟩, HTX⟩
            case measure => simp [intOf]; omega
    · have hnk : ¬ (k : Int) < (S.length : Int) := by omega
      have hks : k = S.length := by omega
      have HFIN : Hid (∀ v, PO (.returned v) wr) := fun v => by
        have h := unveil hturn
        rw [hks, List.drop_length, turM] at h
        have h2 := unveil hT
        rw [hks] at h2
        exact unveil HPO v wr _ _ h h2.i h2.m h2.tg
      go_wp2_with fail
      exact bodyPost_end (results_none (fn := Try.f56) rfl _ _ _) rfl (unveil HFIN _)
end Go.Proofs.Ytkiebejidpebdaa
