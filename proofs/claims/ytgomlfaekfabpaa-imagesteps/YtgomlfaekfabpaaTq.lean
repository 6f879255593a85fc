/-
  burinlaw11.ImageSteps walked.
-/
import Derived.Test.YtgomlfaekfabpaaTo
import Derived.Test.YtgomlfaekfabpaaTm
namespace Go.Proofs.Ytgomlfaekfabpaa
open Go Go.RowKit Go.Shelf
set_option linter.unusedVariables false
set_option linter.unusedSimpArgs false

theorem SeG.take {B : Nat} {W : World} {q : Option Addr} {l : List SetT} (h : SeG B W q l) (n : Nat) : SeG B W q (l.take n) := fun i hi => by
  have hi' : i < l.length := by rw [List.length_take] at hi; omega
  rw [List.getElem_take]
  exact h i hi'
/-- Sets as cells. -/
def seC (s : SetT) : List Value := [.slice s.p s.path.length s.cap, .int .i64 s.v]
def seCs (l : List SetT) : List Value := l.flatMap seC
theorem seCs_len : ∀ l : List SetT, (seCs l).length = l.length * 2
  | [] => rfl
  | s :: r => by
    have := seCs_len r
    show (seC s ++ seCs r).length = _
    rw [List.length_append, this, List.length_cons]
    show 2 + _ = _
    omega
theorem seCs_get : ∀ (l : List SetT) (i : Nat) (h : i < l.length), (seCs l)[i * 2]? = some (.slice l[i].p l[i].path.length l[i].cap) ∧ (seCs l)[i * 2 + 1]? = some (.int .i64 l[i].v)
  | s :: r, 0, _ => ⟨rfl, rfl⟩
  | s :: r, i + 1, h => by
    have := seCs_get r i (by simpa using h)
    refine ⟨?_, ?_⟩
    · show (seC s ++ seCs r)[(i + 1) * 2]? = _
      rw [List.getElem?_append_right (by show 2 ≤ _; omega)]
      show (seCs r)[(i + 1) * 2 - 2]? = _
      rw [show (i + 1) * 2 - 2 = i * 2 by omega]
      exact this.1
    · show (seC s ++ seCs r)[(i + 1) * 2 + 1]? = _
      rw [List.getElem?_append_right (by show 2 ≤ _; omega)]
      show (seCs r)[(i + 1) * 2 + 1 - 2]? = _
      rw [show (i + 1) * 2 + 1 - 2 = i * 2 + 1 by omega]
      exact this.2
theorem seCs_src {B : Nat} {W : World} {g o : Nat} {l : List SetT} (h : SeG B W (some ⟨g, o, none⟩) l) : ∀ (j : Nat) (u : Value), (seCs l)[j]? = some u → W.cell? ((⟨g, o, none⟩ : Addr).add j) = some u := fun j u e => by
  have hj : j < l.length * 2 := by
    have := (List.getElem?_eq_some_iff.1 e).1
    rw [seCs_len] at this
    exact this
  have hi : j / 2 < l.length := by omega
  obtain ⟨g', o', eq, _, c0, c1, _, _⟩ := h (j / 2) hi
  obtain ⟨rfl, rfl⟩ : g = g' ∧ o = o' := by cases eq; exact ⟨rfl, rfl⟩
  obtain ⟨x0, x1⟩ := seCs_get l (j / 2) hi
  rw [add_plainS]
  rcases Nat.mod_two_eq_zero_or_one j with hm | hm
  · rw [show j / 2 * 2 = j by omega] at x0 c0
    rw [c0, ← x0, e]
  · rw [show j / 2 * 2 + 1 = j by omega] at x1
    rw [show o + j / 2 * 2 + 1 = o + j by omega] at c1
    rw [c1, ← x1, e]
theorem seCs_one : ∀ (l : List SetT) (u : Value), u ∈ seCs l → u.oneCell' = true := fun l u h => by
  obtain ⟨s, _, hs⟩ := List.mem_flatMap.1 h
  unfold seC at hs
  simp only [List.mem_cons, List.mem_nil_iff, or_false] at hs
  rcases hs with rfl | rfl <;> rfl
theorem se_new (W : World) (s : SetT) : (W.alloc (.cells #[.slice s.p s.path.length s.cap, .int .i64 s.v] 64)).ownsRow W.heap.size 64 2 (.slice (some ⟨W.heap.size, 0, none⟩) 1 1) 1 (seC s) :=
  ⟨rfl, .inr ⟨W.heap.size, 1, _, rfl, Nat.le_refl _, World.alloc_heap_new _ _, Nat.le_refl _, by unfold maxLen; decide, rfl, rfl⟩⟩
/-- What is owned and holds sets' cells is a list of sets. -/
theorem se_row {W : World} {base n : Nat} {v : Value} {l : List SetT} (h : W.ownsRow base 64 2 v n (seCs l)) (hn : n = l.length) (h0 : 0 < n) (hp : ∀ s ∈ l, PaG W.heap.size W s.p s.path ∧ s.path.length ≤ maxLen) : ∃ g cap, v = .slice (some ⟨g, 0, none⟩) l.length cap ∧ SeG W.heap.size W (some ⟨g, 0, none⟩) l := by
  obtain ⟨_, ⟨_, h1⟩ | ⟨g, cap, cur, rfl, hb, hg, hc, hm, hs, ht⟩⟩ := h
  · omega
  · subst hn
    refine ⟨g, cap, rfl, fun i hi => ?_⟩
    have hk : Bk W g 64 cur := hg
    obtain ⟨x0, x1⟩ := seCs_get l i hi
    have hcell : ∀ j, j < l.length * 2 → W.cell? ⟨g, j, none⟩ = (seCs l)[j]? := fun j hj => by
      rw [hk.cell, ← ht, List.getElem?_take, if_pos hj, Array.getElem?_toList]
    obtain ⟨p1, p2⟩ := hp l[i] (List.getElem_mem hi)
    refine ⟨g, 0, rfl, hk.lt, ?_, ?_, p1, p2⟩
    · rw [Nat.zero_add, hcell _ (by omega), x0]
    · rw [Nat.zero_add, hcell _ (by omega), x1]
theorem infoSet : (Try.prog.info? 64).map (fun i => (i.zero, i.size, i.bytes)) = some (some (.agg #[.slice none 0 0, .int .i64 0]), 2, 32) := by kernel_rfl
theorem hmixQ : Try.prog.follows .mixedOrders = true := by kernel_rfl
set_option maxRecDepth 100000 in
set_option maxHeartbeats 40000000 in
theorem imageSteps_walk (t : ShT) (q : Option Addr) (cap : Nat) (l : List SetT) (w : World) (hin : t.In w.heap.size w) (hs : SeG w.heap.size w q l) (hlc : l.length ≤ cap) (hcm : cap ≤ maxLen) :
    Calls Try.prog 14 #[t.v, .slice q l.length cap] w fun e w' => e = .returned (.bool true) ∧ Below w.heap.size w w' := by
  have HSH := veil shown11_any
  have hs' := hs.take 100
  have hl100 : (l.take 100).length ≤ 100 := by rw [List.length_take]; omega
  have hl' : (l.take 100).length ≤ cap := by rw [List.length_take]; omega
  have hmin : min (l.length : Int) 100 = ((l.take 100).length : Int) := by rw [List.length_take]; omega
  have hmin2 : (if (l.length : Int) ≤ 100 then (l.length : Int) else 100) = ((l.take 100).length : Int) := by rw [List.length_take]; split <;> omega
  have hmin3 : (if (100 : Int) < (l.length : Int) then (100 : Int) else (l.length : Int)) = ((l.take 100).length : Int) := by rw [List.length_take]; split <;> omega
  clear hs
  have hll : ((l.take 100).length : Int) ≤ (l.length : Int) := by rw [List.length_take]; omega
  generalize l.take 100 = LL at *
  have HMK : Hid (∀ W, Below w.heap.size w W → Calls Try.prog 32 #[t.v, .slice q LL.length cap] W fun e w' => e = .returned (.tuple #[.string (mkM t LL).1, .int .i64 (mkM t LL).2.1, .int .i64 (mkM t LL).2.2]) ∧ Below W.heap.size W w') := fun W h => Make_any t q cap LL W ((hin.below h).mono h.size) ((hs'.below h).mono h.size) (by omega)
  have HZ : Hid (∀ W, Below w.heap.size w W → Calls Try.prog 18 #[t.v] W fun r w' => r = .returned (.tuple #[.int .i64 (chkM t).1.1, .int .i64 (chkM t).1.2, .int .i64 (chkM t).2]) ∧ Below W.heap.size W w') := fun W h => Size10_any t W ((hin.below h).mono h.size)
  have HHU : Hid (rigM 6 t = true → ∀ W, Below w.heap.size w W → Calls Try.prog 38 #[t.v] W fun e w' => e = .returned (.bool (huM 6 t)) ∧ Below W.heap.size W w') := fun hr W h => hasUnion_any 6 t W hr ((hin.below h).mono h.size)
  have HT0 := veil (And.intro (TyB.new w t) ((Below.refl _ w).alloc (Nat.le_refl _) (.cells t.cs 25)))
  have HIN := veil hin
  have HSE := veil hs'
  clear hin hs'
  have hze := chk_size t
  unfold ShT.v ShT.cs at *
  go_enter Try.func14, Try.ntmps14
  go_upto_region 1 with fail
  generalize (w.alloc (.cells #[.int .i64 t.sh, .int .i64 t.k, .int .i64 t.n, .slice t.op t.of.length t.oc, .slice t.fp t.fs.length t.fc, .bool t.pk, .int .i64 t.al] 25)) = W0 at HT0 ⊢
  go_upto_region 2 with (go_at_call 29; refine (unveil HSH _).mono ?_; rintro e W1 ⟨rfl, hb1⟩; have HT1 := veil (And.intro ((unveil HT0).1.below hb1) ((unveil HT0).2.trans (hb1.mono (unveil HT0).2.size))); clear hb1)
  go_upto_region 3 with fail
  obtain ⟨y0, y1, y2, y3, y4, y5, y6⟩ := (unveil HT1).1.seven
  clear hmin hmin2 hmin3 hll HSH
  have HQ : Hid (((mkM t LL).2.1 == 0) = true → ((chkM t).2 == 0) = true ∧ rigM 6 t = true ∧ (huM 6 t = false → ∀ s ∈ LL, okP t s.path = true)) := fun h => by
    obtain ⟨h1, h2⟩ := mk_ok h
    exact ⟨h1, chk_ok h1, fun _ => h2⟩
  go_upto_region 4 with (go_at_call 32; refine (unveil HMK _ (unveil HT1).2).mono ?_; rintro e W2 ⟨rfl, hb2⟩; have HT2 := veil (And.intro ((unveil HT1).1.below hb2) ((unveil HT1).2.trans (hb2.mono (unveil HT1).2.size))); clear hb2)
  clear y0 y1 y2 y3 y4 y5 y6
  obtain ⟨y0, y1, y2, y3, y4, y5, y6⟩ := (unveil HT2).1.seven
  go_upto_region 5 with (go_at_call 18; refine (unveil HZ _ (unveil HT2).2).mono ?_; rintro e W3 ⟨rfl, hb3⟩; have HT3 := veil (And.intro ((unveil HT2).1.below hb3) ((unveil HT2).2.trans (hb3.mono (unveil HT2).2.size))); clear hb3)
  clear y0 y1 y2 y3 y4 y5 y6
  obtain ⟨y0, y1, y2, y3, y4, y5, y6⟩ := (unveil HT3).1.seven
  have HB3 : Hid (Below w.heap.size w W3) := (unveil HT3).2
  cases hm : (mkM t LL).2.1 == 0
  · have hm' : ((mkM t LL).2.1 != 0) = true := by simp only [bne, hm]; rfl
    clear HQ
    generalize mkM t LL = MK at *
    generalize chkM t = CK at *
    go_wp2_with fail
    go_ret
    exact ⟨rfl, unveil HB3⟩
  obtain ⟨hc, hr, hok⟩ := unveil HQ hm
  have HU := veil (unveil HHU hr)
  have hm' : ((mkM t LL).2.1 != 0) = false := by simp only [bne, hm]; rfl
  have hc' : ((chkM t).2 != 0) = false := by simp only [bne, hc]; rfl
  cases hu : huM 6 t
  case true =>
    rw [hu] at HU
    clear HQ HHU hok hu hr
    generalize mkM t LL = MK at *
    generalize chkM t = CK at *
    go_wp2_with (go_at_call 38; refine (unveil HU _ (unveil HT3).2).mono ?_; rintro e W4 ⟨rfl, hb4⟩; have HB4 := veil ((unveil HT3).2.trans (hb4.mono (unveil HT3).2.size)); clear hb4)
    go_ret
    exact ⟨rfl, unveil HB4⟩
  have hok2 := hok hu
  have hmk := mk_is hc hu hok2
  obtain ⟨n, hn⟩ : ∃ n : Nat, (chkM t).1.1 = n := ⟨(chkM t).1.1.toNat, by omega⟩
  have hn2 : n ≤ 65536 := by omega
  rw [hn, Int.toNat_natCast] at hmk
  have hzl : (List.replicate n (0 : Int)).length = n := List.length_replicate ..
  have HX : Hid (∀ k (h : k < LL.length) W, Below w.heap.size w W → Calls Try.prog 36 #[t.v, .string (toB (wrL t (List.replicate n 0) (LL.take k))), .slice LL[k].p LL[k].path.length LL[k].cap, .int .i64 LL[k].v] W fun e w' => e = .returned (.tuple #[.string (toB (wrL t (List.replicate n 0) (LL.take (k + 1)))), .int .i64 0]) ∧ Below W.heap.size W w') := fun k h W hb => by
    obtain ⟨g, o, _, _, _, _, hpa, hpl⟩ := unveil HSE k h
    have := Put_any t (toB (wrL t (List.replicate n 0) (LL.take k))) LL[k].p LL[k].cap LL[k].path LL[k].v W (((unveil HIN).below hb).mono hb.size) ((hpa.below hb).mono hb.size) hpl
    rw [pt_on hc (hok2 _ (List.getElem_mem h)) (wrL_ok t _ (rep_ok n)) (by rw [wrL_len, hzl, hn])] at this
    rw [wrL_take t _ _ _ h]
    exact this
  have HAG : Hid (∀ m, m + 1 = LL.length → ∀ (h : m < LL.length) (v : Int), mkM t (⟨LL[m].p, LL[m].cap, LL[m].path, v⟩ :: LL) = (toB (wrL t (List.replicate n 0) LL), 0, 0)) := fun m hm h v => by
    rw [mk_is hc hu (fun s hs => by
      rcases List.mem_cons.1 hs with rfl | hs
      · show okP t LL[m].path = true
        exact hok2 _ (List.getElem_mem h)
      · exact hok2 s hs), hn, Int.toNat_natCast, wrL_again hc LL m hm hok2 v _ _ _ (rep_ok n) (by rw [hzl, hn])]
  have HX0 : Hid (toB (wrL t (List.replicate n 0) (LL.take 0)) = toB (List.replicate n 0)) := rfl
  have HXN : Hid (toB (wrL t (List.replicate n 0) (LL.take LL.length)) = toB (wrL t (List.replicate n 0) LL)) := by rw [Hid, List.take_length]
  rw [hu] at HU
  have hlen0 : LL.length ≤ 100 := hl100
  rw [hmk] at hm hm' ⊢
  rw [hn]
  clear HQ HHU hok hok2 hu hr hmk HMK HZ
  generalize (chkM t).2 = CE at *
  generalize (chkM t).1.2 = CA at *
  generalize hXF : (fun k => toB (wrL t (List.replicate n 0) (LL.take k))) = XF at *
  have hXk : ∀ k, toB (wrL t (List.replicate n 0) (LL.take k)) = XF k := fun k => by rw [← hXF]
  simp only [hXk] at HX HX0 HXN
  generalize toB (wrL t (List.replicate n 0) LL) = S at *
  clear hXk hXF hn hze hc hm
  go_upto_region 7 with (go_at_call 38; refine (unveil HU _ (unveil HT3).2).mono ?_; rintro e W4 ⟨rfl, hb4⟩; have HT4 := veil (And.intro ((unveil HT3).1.below hb4) ((unveil HT3).2.trans (hb4.mono (unveil HT3).2.size))); clear hb4)
  clear y0 y1 y2 y3 y4 y5 y6 HT3 HT2 HT1 HT0 HB3 HU
  go_upto_region 8 with (at_make; obtain ⟨i0, hi, hz0, hz1, hz2⟩ := info_parts infoU8; refine wpList_make_full _ rfl _ _ 62 rfl W4.heap.size 5 i0 _ 1 Try.underlying62 hi hz0 hz1 .i64 .i64 _ _ n rfl rfl rfl rfl (by rw [hz2]; omega) (by unfold maxLen; omega) (Nat.le_refl _) ?_; intro W5 hown5 hgrow5; have hk5 := bk_made hown5; have hB5 := (Below.refl _ W4).grown hgrow5 (Nat.le_refl _) (fun r e => by cases e); have HT5 := veil (And.intro ((unveil HT4).1.below hB5) ((unveil HT4).2.trans (hB5.mono (unveil HT4).2.size))); have hcv := conv_back W5 W4.heap.size (List.replicate n 0) (rep_ok n) hk5; rw [hzl] at hcv; clear hi hz0 hz1 hz2 i0 hown5 hgrow5 hk5 hB5)
  clear hcv
  rw [← unveil HX0]
  go_wp2_with fail
  go_loopw [12, 13] (fun x i wr => ∃ (k : Nat), x = .string (XF k) ∧ i = .int .i64 k ∧ k ≤ LL.length ∧ Hid (TyB wr w.heap.size t ∧ Below w.heap.size w wr))
    (fun x i wr => LL.length - (intOf i).toNat)
  case atStart => exact ⟨0, rfl, rfl, Nat.zero_le _, HT5⟩
  case round =>
    obtain ⟨k, rfl, rfl, hk, hT⟩ := hrel
    by_cases hkl : k < LL.length
    · obtain ⟨g, o, rfl, hg, s0, s1, hpa, hpl⟩ := ((unveil HSE).below (unveil hT).2) k hkl
      have hgq : g < wr.heap.size := Nat.lt_of_lt_of_le hg (unveil hT).2.size
      have HXK := veil (unveil HX k hkl)
      have hki : (k : Int) < (LL.length : Int) := by omega
      clear hpa hpl
      obtain ⟨y0, y1, y2, y3, y4, y5, y6⟩ := (unveil hT).1.seven
      have hbl := (unveil hT).1.lt
      generalize LL[k] = st at *
      obtain ⟨p, cp, path, v⟩ := st
      simp only at s0 s1 HXK
      unfold ShT.v at HXK
      have HCE : Hid (∀ W, Below wr.heap.size wr W → (W.cell? ⟨w.heap.size, 0, none⟩ = some (.int .i64 t.sh) ∧ W.cell? ⟨w.heap.size, 1, none⟩ = some (.int .i64 t.k) ∧ W.cell? ⟨w.heap.size, 2, none⟩ = some (.int .i64 t.n) ∧ W.cell? ⟨w.heap.size, 3, none⟩ = some (.slice t.op t.of.length t.oc) ∧ W.cell? ⟨w.heap.size, 4, none⟩ = some (.slice t.fp t.fs.length t.fc) ∧ W.cell? ⟨w.heap.size, 5, none⟩ = some (.bool t.pk) ∧ W.cell? ⟨w.heap.size, 6, none⟩ = some (.int .i64 t.al)) ∧
          W.cell? ⟨g, o + k * 2, none⟩ = some (.slice p path.length cp) ∧ W.cell? ⟨g, o + k * 2 + 1, none⟩ = some (.int .i64 v)) := fun W h =>
        ⟨((unveil hT).1.below h).seven, (h.cell (p := ⟨g, o + k * 2, none⟩) hgq).trans s0, (h.cell (p := ⟨g, o + k * 2 + 1, none⟩) hgq).trans s1⟩
      clear y0 y1 y2 y3 y4 y5 y6 s0 s1
      go_upto_region 11 with fail
      refine wp_region_noPanic (wpIn_wide.1 (wpIn_region_mix (ro := none) (n := 0) (fun w' => Hid (Below wr.heap.size wr w'))
        [(0, true), (1, true), (2, true), (3, true), (4, true), (5, true), (6, true), (7, true), (8, true), (9, true), (10, true), (11, true), (12, false), (13, true), (14, true), (15, true), (16, true)]
        17 hmixQ (by kernel_rfl) (by kernel_rfl) (by kernel_rfl) (by kernel_rfl) (by kernel_rfl) (by kernel_rfl) (fun _ _ _ _ h => h) (Below.refl _ wr).drew ?_))
      iterate 12 (
        refine mix_pure _ rfl _ (.inl ⟨rfl, fun W hS => (by obtain ⟨⟨c0, c1, c2, c3, c4, c5, c6⟩, e0, e1⟩ := unveil HCE W (unveil hS); go_simp; rfl)⟩) (fun B hB => ?_); simp only [Act.put, List.setIfInBounds_toArray, List.set_cons_zero, List.set_cons_succ] at hB; subst hB)
      refine mix_sole _ rfl (fun K hK => ?_)
      go_simp
      refine ⟨trivial, rfl, (callsIn_wide.2 (unveil HXK _ ((unveil hT).2.trans ((Below.refl _ wr).drew.mono (unveil hT).2.size)))).mono ?_⟩
      rintro e W7 ⟨rfl, hb7⟩
      have hB7 : Below wr.heap.size wr W7 := (Below.refl _ wr).drew.trans hb7
      have HT7 := veil (And.intro ((unveil hT).1.below hB7) ((unveil hT).2.trans (hB7.mono (unveil hT).2.size)))
      refine hK _ _ (veil hB7) ?_
      clear hK K hb7 hB7
      iterate 4 (
        refine mix_pure _ rfl _ (.inl ⟨rfl, fun W hS => (by go_simp; rfl)⟩) (fun B hB => ?_); simp only [Act.put, List.setIfInBounds_toArray, List.set_cons_zero, List.set_cons_succ] at hB; subst hB)
      refine mix_nil ?_
      refine listIn_last rfl (fun K hK => ?_)
      go_simp
      refine hK _ _ ?_
      clear hK K
      go_wp2_with fail
      go_roundw
      case rel => exact ⟨k + 1, rfl, by go_num, by omega, HT7⟩
      case measure => simp [intOf]; omega
    · obtain rfl : k = LL.length := by omega
      have hnk : ¬ ((LL.length : Nat) : Int) < (LL.length : Int) := by omega
      have HBF : Hid (Below w.heap.size w wr) := (unveil hT).2
      rw [unveil HXN]
      by_cases hz : LL.length = 0
      · have hz0 : ¬ (0 : Int) < (LL.length : Int) := by omega
        go_wp2_with fail
        go_ret
        exact ⟨by first | rfl | simp, unveil HBF⟩
      · have hz0 : (0 : Int) < (LL.length : Int) := by omega
        obtain ⟨m, hm⟩ : ∃ m, m + 1 = LL.length := ⟨LL.length - 1, by omega⟩
        have hmi : (LL.length : Int) - 1 = (m : Int) := by omega
        have hml : m < LL.length := by omega
        have hmj : (m : Int) < (LL.length : Int) := by omega
        have HAG2 := veil (unveil HAG m hm hml)
        obtain ⟨g, o, rfl, hg, s0, s1, hpa, hpl⟩ := ((unveil HSE).below (unveil HBF)) m hml
        have hgq : g < wr.heap.size := Nat.lt_of_lt_of_le hg (unveil HBF).size
        have HPL := veil (And.intro hpa hpl)
        have HMKS : Hid (∀ v W b cp', Below w.heap.size w W → SeG W.heap.size W (some ⟨b, 0, none⟩) (⟨LL[m].p, LL[m].cap, LL[m].path, v⟩ :: LL) → Calls Try.prog 32 #[t.v, .slice (some ⟨b, 0, none⟩) (⟨LL[m].p, LL[m].cap, LL[m].path, v⟩ :: LL).length cp'] W fun e w' => e = .returned (.tuple #[.string S, .int .i64 0, .int .i64 0]) ∧ Below W.heap.size W w') := fun v W b cp' hb hse => by
          have := Make_any t (some ⟨b, 0, none⟩) cp' (⟨LL[m].p, LL[m].cap, LL[m].path, v⟩ :: LL) W (((unveil HIN).below hb).mono hb.size) hse (by rw [List.length_cons]; omega)
          rw [unveil HAG2 v] at this
          exact this
        have HROW : Hid (∀ v W W' b n r, Below w.heap.size w W → W.ownsRow b 64 2 r n (seC ⟨LL[m].p, LL[m].cap, LL[m].path, v⟩ ++ seCs LL) → n = 1 + LL.length → W' = W → ∃ g cap, r = .slice (some ⟨g, 0, none⟩) (1 + LL.length) cap ∧ Calls Try.prog 32 #[t.v, .slice (some ⟨g, 0, none⟩) (1 + LL.length) cap] W' fun e w' => e = .returned (.tuple #[.string S, .int .i64 0, .int .i64 0]) ∧ Below W.heap.size W w') := fun v W W' b n r hb hrow hn e => by
          subst e
          have hse := unveil HSE
          obtain ⟨g', cap', hr, hS⟩ := se_row (l := ⟨LL[m].p, LL[m].cap, LL[m].path, v⟩ :: LL) hrow (by rw [hn, List.length_cons]; omega) (by omega) (fun s hs => by
            have hall : ∀ s ∈ LL, PaG W'.heap.size W' s.p s.path ∧ s.path.length ≤ maxLen := fun s hs => by
              obtain ⟨i, hi, rfl⟩ := List.mem_iff_getElem.1 hs
              obtain ⟨_, _, _, _, _, _, q1, q2⟩ := hse i hi
              exact ⟨(q1.below hb).mono hb.size, q2⟩
            rcases List.mem_cons.1 hs with rfl | hs
            · exact hall LL[m] (List.getElem_mem hml)
            · exact hall s hs)
          have hl : (⟨LL[m].p, LL[m].cap, LL[m].path, v⟩ :: LL : List SetT).length = 1 + LL.length := by rw [List.length_cons]; omega
          have := unveil HMKS v W' g' cap' hb hS
          rw [hl] at this hr
          exact ⟨g', cap', hr, this⟩
        have HSRC : Hid (∀ W, Below w.heap.size w W → ∀ (j : Nat) (u : Value), (seCs LL)[j]? = some u → W.cell? ((⟨g, o, none⟩ : Addr).add j) = some u) := fun W h => seCs_src ((unveil HSE).below h)
        clear hpa hpl HX HX0 HXN HAG HAG2 HMKS HT5 HT4
        generalize LL[m] = st at *
        obtain ⟨p, cp, path, v⟩ := st
        simp only at s0 s1 HROW
        unfold ShT.v at HROW
        go_upto_region 17 with fail
        have HT6 : Hid (TyB (wr.alloc (.cells #[.slice p path.length cp, .int .i64 v] 64)) w.heap.size t ∧ Bk (wr.alloc (.cells #[.slice p path.length cp, .int .i64 v] 64)) wr.heap.size 64 #[.slice p path.length cp, .int .i64 v] ∧ Below w.heap.size w (wr.alloc (.cells #[.slice p path.length cp, .int .i64 v] 64))) := ⟨(unveil hT).1.alloc _, Bk.new _ _ _, (unveil HBF).alloc (unveil HBF).size _⟩
        clear s0 s1 hgq
        generalize (wr.alloc (.cells #[.slice p path.length cp, .int .i64 v] 64)) = W6 at *
        generalize wr.heap.size = SB at *
        have u0 := (unveil HT6).2.1.cell 0
        have u1 := (unveil HT6).2.1.cell 1
        have ul := (unveil HT6).2.1.lt
        simp only [List.getElem?_toArray, List.getElem?_cons_zero, List.getElem?_cons_succ] at u0 u1
        go_upto_region 18 with (at_builtin; obtain ⟨i0, hi, hz0', hz1, hz2⟩ := info_parts infoSet; refine wpList_append_own _ rfl _ _ 51 rfl W6.heap.size 64 i0 _ 2 32 Try.underlying51 hi hz0' hz1 hz2 rfl (by decide) _ 1 _ rfl (se_new W6 ⟨p, cp, path, _⟩) ⟨g, o, none⟩ LL.length cap (seCs LL) rfl (seCs_len LL) (unveil HSRC _ ((unveil HT6).2.2.alloc (unveil HT6).2.2.size _)) (seCs_one LL) (by unfold maxLen; omega) (by omega) (by simp) ?_; intro v' W8 hrow hgrow _; have hb8 := ((Below.refl _ W6).alloc (Nat.le_refl _) _).grown hgrow (by simp) (fun r e => by cases e; exact Nat.le_refl _); have hbw := (unveil HT6).2.2.trans (hb8.mono (unveil HT6).2.2.size); obtain ⟨g8, cap8, hv8, hmk8⟩ := unveil HROW _ W8 W8 _ _ _ hbw hrow rfl rfl; subst hv8; have HMK8 := veil hmk8; have HT8 := veil (And.intro ((unveil HT6).1.below hb8) hbw); clear hi hz0' hz1 hz2 i0 hrow hgrow hb8 hbw hmk8)
        obtain ⟨y0, y1, y2, y3, y4, y5, y6⟩ := (unveil HT8).1.seven
        go_wp2_with (go_at_call 32; refine (unveil HMK8).mono ?_; rintro e W9 ⟨rfl, hb9⟩; have HB9 := veil ((unveil HT8).2.trans (hb9.mono (unveil HT8).2.size)); clear hb9)
        go_ret
        exact ⟨by first | rfl | simp, unveil HB9⟩
end Go.Proofs.Ytgomlfaekfabpaa
