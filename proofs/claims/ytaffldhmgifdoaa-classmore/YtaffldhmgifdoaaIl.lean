/-
  Package class: putOnStack.
-/
import Derived.Test.YtaffldhmgifdoaaIk
import Derived.Test.YtaffldhmgifdoaaNb
namespace Go.Proofs.Ytaffldhmgifdoaa
open Go Go.RowKit Go.Shelf
attribute [local go_sem] Oper.semAt_some
set_option linter.unusedVariables false
set_option linter.unusedSimpArgs false

/-- Places on the stack. -/
def stkF (arg bg : Int) (i : Nat) : Lc := ⟨arg, i, -1, bg + 8 * (i : Int)⟩
/-- The boxes of putOnStack. -/
structure StO (w W : World) (Pb : Nat) (arg z a : Int) (s : Value) : Prop where
  b3 : Bk W w.heap.size 158 #[.pointer (some ⟨Pb, 0, none⟩)]
  b4 : Bk W (w.heap.size + 1) 3 #[.int .i64 arg]
  b5 : Bk W (w.heap.size + 1 + 1) 119 #[.int .i64 z, .int .i64 a, s]
theorem StO.new (w : World) (Pb : Nat) (arg z a : Int) (s : Value) : StO w (((w.alloc (.cells #[.pointer (some ⟨Pb, 0, none⟩)] 158)).alloc (.cells #[.int .i64 arg] 3)).alloc (.cells #[.int .i64 z, .int .i64 a, s] 119)) Pb arg z a s := by
  have h1 := Bk.new (w.alloc (.cells #[.pointer (some ⟨Pb, 0, none⟩)] 158)) 3 #[.int .i64 arg]
  have h2 := Bk.new ((w.alloc (.cells #[.pointer (some ⟨Pb, 0, none⟩)] 158)).alloc (.cells #[.int .i64 arg] 3)) 119 #[.int .i64 z, .int .i64 a, s]
  rw [World.size_alloc] at h1
  rw [World.size_alloc, World.size_alloc] at h2
  exact ⟨((Bk.new w _ _).alloc _).alloc _, h1.alloc _, h2⟩
theorem StO.fr {w W W' : World} {Pb : Nat} {arg z a : Int} {s : Value} (h : StO w W Pb arg z a s) (k : FrP Pb W W') : StO w W' Pb arg z a s :=
  ⟨k.bk _ _ _ (by decide) (by decide) h.b3, k.bk _ _ _ (by decide) (by decide) h.b4, k.bk _ _ _ (by decide) (by decide) h.b5⟩
theorem StO.cells {w W : World} {Pb : Nat} {arg z a : Int} {s : Value} (h : StO w W Pb arg z a s) : W.cell? ⟨w.heap.size, 0, none⟩ = some (.pointer (some ⟨Pb, 0, none⟩)) ∧ W.cell? ⟨w.heap.size + 1, 0, none⟩ = some (.int .i64 arg) ∧ W.cell? ⟨w.heap.size + 1 + 1, 0, none⟩ = some (.int .i64 z) ∧ W.cell? ⟨w.heap.size + 1 + 1, 1, none⟩ = some (.int .i64 a) :=
  ⟨h.b3.cell 0, h.b4.cell 0, h.b5.cell 0, h.b5.cell 1⟩
/-- A store far away. -/
theorem Bk.far {W W' : World} {row : Option Nat} {b : Nat} {T : TypeId} {cs : Array Value} (h : Bk W b T cs) (hg : W.grownBy W' row) (hr : ∀ r, row = some r → ∀ c, W.heap[r]? = some (.cells c T (0, 0)) → r ≠ b) : Bk W' b T cs :=
  (hg.block b h.lt (fun e => by
    rcases row with _ | r
    · cases e
    · obtain rfl : b = r := by simpa using e
      exact hr b rfl _ h rfl)).trans h
theorem PlG.turn {Pb C : Nat} {st : List Lc × Int × Int} {X Y : World} {row : Option Nat} (h : PlG Pb st X) (hg : X.grownBy Y row) (hr : ∀ r, row = some r → Pb < r) (ho : ∀ r, row = some r → (C ≤ r ∧ r < C + 0) ∨ ∃ o : Obj, X.heap[r]? = some o ∧ o.isCells = false) : PlG Pb st Y := by
  obtain ⟨v, b, r⟩ := h
  refine ⟨v, b.turn hg hr, ownsRow_turnS r hg (fun q e cur hc => ?_)⟩
  rcases ho q e with h | ⟨o, h1, h2⟩
  · omega
  · rw [hc] at h1; cases h1; cases h2
theorem PlG.lt {Pb : Nat} {st : List Lc × Int × Int} {W : World} (h : PlG Pb st W) : Pb < W.heap.size := by obtain ⟨v, b, _⟩ := h; exact b.lt
theorem FrP.turn {Pb C : Nat} {A X Y : World} {row : Option Nat} (h : FrP Pb A X) (hg : X.grownBy Y row) (hr : ∀ r, row = some r → Pb < r) (ho : ∀ r, row = some r → (C ≤ r ∧ r < C + 0) ∨ ∃ o : Obj, X.heap[r]? = some o ∧ o.isCells = false) (hp : Pb ≤ X.heap.size) : FrP Pb A Y :=
  ⟨h.be.grown hg hp (fun r e => Nat.le_of_lt (hr r e)), fun j T cs hT hP b => (h.bk j T cs hT hP b).far hg (fun r e c hc => by
    rcases ho r e with h | ⟨o, h1, h2⟩
    · omega
    · rw [hc] at h1; cases h1; cases h2)⟩
theorem below_new3 (w : World) (o o' o'' : Obj) : Below w.heap.size w (((w.alloc o).alloc o').alloc o'') := (below_new2 w o o').alloc (by simp; omega) o''
set_option maxRecDepth 100000 in
set_option maxHeartbeats 20000000 in
theorem putOnStack_any (arg a : Int) (z : Nat) (s : Value) (Pb : Nat) (L : List Lc) (us sk : Int) (w : World) (hz : z ≤ 65536) (ha : 1 ≤ a ∧ a ≤ 64) (hsk : 0 ≤ sk ∧ sk ≤ 100000000) (hL : L.length ≤ 10000000) (hp : PlG Pb (L, us, sk) w) :
    Calls Try.prog 107 #[.pointer (some ⟨Pb, 0, none⟩), .int .i64 arg, .agg #[.int .i64 (z : Int), .int .i64 a, s]] w
      fun e w' => (∃ v, e = .returned v) ∧ PlG Pb (L ++ (List.range (nEi z)).map (stkF arg (upM sk (max 8 a))), us, upM sk (max 8 a) + upM (z : Int) 8) w' ∧ FrP Pb w w' := by
  have hPl : Pb < w.heap.size := by obtain ⟨v, b, _⟩ := hp; exact b.lt
  have HST := veil (StO.new w Pb arg (z : Int) a s)
  have HB3 := veil (below_new3 w (.cells #[.pointer (some ⟨Pb, 0, none⟩)] 158) (.cells #[.int .i64 arg] 3) (.cells #[.int .i64 (z : Int), .int .i64 a, s] 119))
  have HP0 := veil (hp.below (unveil HB3))
  have HFR : Hid (FrP Pb w (((w.alloc (.cells #[.pointer (some ⟨Pb, 0, none⟩)] 158)).alloc (.cells #[.int .i64 arg] 3)).alloc (.cells #[.int .i64 (z : Int), .int .i64 a, s] 119))) := FrP.below (unveil HB3) (by omega)
  have hsz : (((w.alloc (.cells #[.pointer (some ⟨Pb, 0, none⟩)] 158)).alloc (.cells #[.int .i64 arg] 3)).alloc (.cells #[.int .i64 (z : Int), .int .i64 a, s] 119)).heap.size = w.heap.size + 3 := by simp
  obtain ⟨ha0, ha1⟩ := ha
  obtain ⟨hsk0, hsk1⟩ := hsk
  have hmx : (if (8 : Int) ≤ a then a else 8) = max 8 a := by omega
  have hmx2 : (if a ≤ (8 : Int) then (8 : Int) else a) = max 8 a := by split <;> omega
  have hmx3 : (if (8 : Int) < a then a else 8) = max 8 a := by split <;> omega
  have hm8 : 8 ≤ max 8 a ∧ max 8 a ≤ 64 := by omega
  obtain ⟨hm80, hm81⟩ := hm8
  have HUP : Hid (∀ W, Calls Try.prog 83 #[.int .i64 sk, .int .i64 (max 8 a)] W fun e w' => e = .returned (.int .i64 (upM sk (max 8 a))) ∧ w' = W) := fun W => up12_any sk (max 8 a) W hsk0 (by omega) (by omega) (by omega)
  have HUZ : Hid (∀ W, Calls Try.prog 83 #[.int .i64 (z : Int), .int .i64 8] W fun e w' => e = .returned (.int .i64 (upM (z : Int) 8)) ∧ w' = W) := fun W => up12_any (z : Int) 8 W (by omega) (by omega) (by omega) (by omega)
  obtain ⟨hu1, hu2, _⟩ := upM_le (n := sk) (m := max 8 a) hsk0 (by omega)
  obtain ⟨hu3, hu4, _⟩ := upM_le (n := (z : Int)) (m := 8) (by omega) (by omega)
  have hbg0 : 0 ≤ upM sk (max 8 a) ∧ upM sk (max 8 a) ≤ 100000100 := by omega
  have hbz0 : 0 ≤ upM (z : Int) 8 ∧ upM (z : Int) 8 ≤ 65600 := by omega
  generalize upM sk (max 8 a) = bg at *
  generalize upM (z : Int) 8 = uz at *
  have HE := veil (eights_any (z : Int))
  have HES := veil (fun Bd => eights_stops 3 (by decide) Bd z (by omega))
  clear hp hu1 hu2 hu3 hu4
  obtain ⟨hbg0, hbg1⟩ := hbg0
  obtain ⟨hbz0, hbz1⟩ := hbz0
  refine (callsIn_wide (n := 4)).1 ?_
  refine callsIn_of_wp_marks Try.func107 rfl trivial ?_ rfl
  simp only [Try.ntmps107, List.size_toArray, List.length_cons, List.length_nil, Nat.reduceAdd, Nat.reduceSub, Array.replicate_succ, Array.replicate_zero, List.push_toArray, List.append_toArray, List.nil_append, List.cons_append]
  refine wpIn_wide.2 ?_
  go_upto_region 1 with fail
  generalize (((w.alloc (.cells #[.pointer (some ⟨Pb, 0, none⟩)] 158)).alloc (.cells #[.int .i64 arg] 3)).alloc (.cells #[.int .i64 (z : Int), .int .i64 a, s] 119)) = W0 at *
  obtain ⟨v, hb, hr⟩ := unveil HP0
  simp only at hb hr
  obtain ⟨q, cq, rfl⟩ := row_slice hr
  have HBB := veil hb
  have hplt := hb.lt
  clear hb hr hsz
  go_cut [6] from 9 to 45 (fun c wx => ∃ X, c = .pointer (some ⟨X, 0, none⟩) ∧ Hid (Bk wx X 2 #[.int .i64 bg]) ∧ Hid (Below W0.heap.size W0 wx))
  case first =>
    have HCC : Hid (∀ W, Hid (Below W0.heap.size W0 W) → (W.cell? ⟨w.heap.size, 0, none⟩ = some (.pointer (some ⟨Pb, 0, none⟩)) ∧ W.cell? ⟨w.heap.size + 1, 0, none⟩ = some (.int .i64 arg) ∧ W.cell? ⟨w.heap.size + 1 + 1, 0, none⟩ = some (.int .i64 (z : Int)) ∧ W.cell? ⟨w.heap.size + 1 + 1, 1, none⟩ = some (.int .i64 a)) ∧ W.cell? ⟨Pb, 2, none⟩ = some (.int .i64 sk) ∧ Pb < W.heap.size) := fun W h =>
      ⟨((unveil HST).fr (FrP.below (unveil h) (by omega))).cells, ((unveil HBB).below (unveil h)).cell 2, ((unveil HBB).below (unveil h)).lt⟩
    refine wp_region_noPanic (wpIn_wide.1 (wpIn_region_sch (ro := none) (n := 0) (fun w' => Hid (Below W0.heap.size W0 w'))
      (.pure 0 (.pure 1 (.pure 2 (.pure 3 (.pure 4 (.pure 5 (.pure 6 (.both 7 8 (.sole 8 .done) (.sole 7 .done)))))))))
      9 hmixP (by kernel_rfl) (by kernel_rfl) (by kernel_rfl) (by kernel_rfl) (by kernel_rfl) (by kernel_rfl) (fun _ _ _ _ h => h) (veil (Below.refl _ W0).drew) ?_))
    iterate 6 (
      refine sch_pure _ rfl _ (.inl ⟨rfl, fun W hS => (by obtain ⟨⟨x0, x1, x2, x3⟩, x4, x5⟩ := unveil HCC W hS; go_simp; rfl)⟩) (fun B hB => ?_)
      simp only [Act.put, List.setIfInBounds_toArray, List.set_cons_zero, List.set_cons_succ] at hB
      subst hB)
    refine sch_pure _ rfl (.int .i64 (max 8 a)) (.inl ⟨rfl, fun W hS => (by go_simp)⟩) (fun B hB => ?_)
    simp only [Act.put, List.setIfInBounds_toArray, List.set_cons_zero, List.set_cons_succ] at hB
    subst hB
    refine sch_both ?_ ?_
    · refine sch_sole _ rfl (fun K hK => ?_)
      go_simp
      refine ⟨trivial, rfl, (callsIn_wide.2 (unveil HUP _)).mono ?_⟩
      rintro e W5 ⟨rfl, h5⟩
      obtain rfl := h5.symm
      refine hK _ _ (veil (Below.refl _ W0).drew) ?_
      clear hK K h5
      refine sch_sole _ rfl (fun K hK => ?_)
      go_simp
      have hB6 : Below W0.heap.size W0 (W0.alloc (.cells #[.int .i64 0] 2)).drew := ((Below.refl _ W0).alloc (Nat.le_refl _) _).drew
      have hX6 : Bk (W0.alloc (.cells #[.int .i64 0] 2)).drew W0.heap.size 2 #[.int .i64 0] := Bk.new W0 _ _
      refine hK _ _ (veil hB6) ?_
      clear hK K
      refine sch_done ?_
      generalize (W0.alloc (.cells #[.int .i64 0] 2)).drew = W6 at *
      have x6 := hX6.cell 0
      have x6f := hX6.frozen 0
      have x6l := hX6.lt
      have hX7 := hX6.set 0 (.int .i64 bg)
      simp only [List.getElem?_toArray, List.getElem?_cons_zero, List.setIfInBounds_toArray, List.set_cons_zero] at x6 hX7
      have HX7 := veil hX7
      have HB7 := veil (hB6.setCell (p := ⟨W0.heap.size, 0, none⟩) (Nat.le_refl _) (.int .i64 bg))
      clear hX6 hX7 hB6
      refine listIn_last rfl (fun K hK => ?_)
      go_simp
      refine hK _ _ ?_
      clear hK K
      go_wp2_with fail
      go_meet
      case rel => exact ⟨_, rfl, HX7, HB7⟩
    · refine sch_sole _ rfl (fun K hK => ?_)
      go_simp
      have hB6 : Below W0.heap.size W0 (W0.alloc (.cells #[.int .i64 0] 2)).drew := ((Below.refl _ W0).alloc (Nat.le_refl _) _).drew
      have hX6 : Bk (W0.alloc (.cells #[.int .i64 0] 2)).drew W0.heap.size 2 #[.int .i64 0] := Bk.new W0 _ _
      refine hK _ _ (veil hB6) ?_
      clear hK K
      refine sch_sole _ rfl (fun K hK => ?_)
      go_simp
      refine ⟨trivial, rfl, (callsIn_wide.2 (unveil HUP _)).mono ?_⟩
      rintro e W5 ⟨rfl, h5⟩
      obtain rfl := h5.symm
      refine hK _ _ (veil hB6) ?_
      clear hK K h5
      refine sch_done ?_
      generalize (W0.alloc (.cells #[.int .i64 0] 2)).drew = W6 at *
      have x6 := hX6.cell 0
      have x6f := hX6.frozen 0
      have x6l := hX6.lt
      have hX7 := hX6.set 0 (.int .i64 bg)
      simp only [List.getElem?_toArray, List.getElem?_cons_zero, List.setIfInBounds_toArray, List.set_cons_zero] at x6 hX7
      have HX7 := veil hX7
      have HB7 := veil (hB6.setCell (p := ⟨W0.heap.size, 0, none⟩) (Nat.le_refl _) (.int .i64 bg))
      clear hX6 hX7 hB6
      refine listIn_last rfl (fun K hK => ?_)
      go_simp
      refine hK _ _ ?_
      clear hK K
      go_wp2_with fail
      go_meet
      case rel => exact ⟨_, rfl, HX7, HB7⟩
  case rest =>
  obtain ⟨X, rfl, hX, hbX⟩ := hcut
  clear HUP hmx hmx2 hmx3 hm80 hm81 HBB
  have HST2 := veil ((unveil HST).fr (FrP.below (unveil hbX) (by omega)))
  have HP2 : Hid (PlG Pb (L, us, sk) wc) := (unveil HP0).below (unveil hbX)
  have HF2 : Hid (FrP Pb w wc) := (unveil HFR).trans (FrP.below (unveil hbX) (by omega))
  clear HST HP0 HFR
  obtain ⟨x0, x1, x2, x3⟩ := (unveil HST2).cells
  go_wp2_with (go_at_call 121; refine (unveil HE _).mono ?_; rintro e w' ⟨rfl, rfl⟩)
  have HXc : Hid (∀ W, FrP Pb wc W → Bk W X 2 #[.int .i64 bg]) := fun W h => h.bk _ _ _ (by decide) (by decide) (unveil hX)
  have HB0 : Hid (Bk (wc.alloc (.cells #[.int .i64 (z : Int)] 2)) wc.heap.size 2 #[.int .i64 (z : Int)]) := Bk.new wc _ _
  have hPwc : Pb < wc.heap.size := by obtain ⟨v, b, _⟩ := unveil HP2; exact b.lt
  have hWwc : w.heap.size + 1 + 1 < wc.heap.size := (unveil HST2).b5.lt
  have hXwc : X < wc.heap.size := (unveil hX).lt
  have HFA : Hid (FrP Pb wc (wc.alloc (.cells #[.int .i64 (z : Int)] 2))) := FrP.below (new1_below wc _) (by omega)
  have HPA : Hid (PlG Pb (L, us, sk) (wc.alloc (.cells #[.int .i64 (z : Int)] 2))) := (unveil HP2).below (new1_below wc _)
  have hza : (wc.alloc (.cells #[.int .i64 (z : Int)] 2)).heap.size = wc.heap.size + 1 := by simp
  generalize (wc.alloc (.cells #[.int .i64 (z : Int)] 2)) = W1 at *
  clear x0 x1 x2 x3 HE hX hbX HP2
  refine (wpIn_wide (n := 4)).1 ?_
  refine wpIn_rangeFunc_ownO (k := 0) rfl (by decide) (gf := 128) (lb := #[.pointer (some ⟨wc.heap.size, 0, none⟩)]) rfl trivial (enters_of Try.func128 (by kernel_rfl) rfl)
    (unveil HES wc.heap.size W1 (unveil HB0)) KpE.trans (fun W lb o o' hlb hlo ho _ cs hbk => (World.putObj_heap_other (by omega)).trans hbk) (Below.refl _ _) (fun _ => rfl)
    (fun pre W => PlG Pb (L ++ pre.map (stkF arg bg), us, sk) W ∧ FrP Pb wc W) (fun c _ W => False)
    ⟨fun pre X Y row hs hg hr => ⟨PlG.turn hs.1 hg (fun r e => by have := (hr r e).1; omega) (fun r e => (hr r e).2), hs.2.turn hg (fun r e => by have := (hr r e).1; omega) (fun r e => (hr r e).2) (Nat.le_of_lt (PlG.lt hs.1))⟩, fun pre X hs => ⟨hs.1, ⟨hs.2.be.drew, hs.2.bk⟩⟩⟩ (fun c => ⟨fun pre X Y row hs hg hr => hs, fun pre X hs => hs⟩)
    ⟨by rw [List.map_nil, List.append_nil]; exact unveil HPA, unveil HFA⟩
    (fun x => { tmps := #[.pointer (some ⟨Pb, 0, none⟩), .int .i64 arg, .agg #[.int .i64 (z : Int), .int .i64 a, s], .pointer (some ⟨w.heap.size, 0, none⟩), .pointer (some ⟨w.heap.size + 1, 0, none⟩), .pointer (some ⟨w.heap.size + 1 + 1, 0, none⟩), .pointer (some ⟨X, 0, none⟩),
      .int .i64 (x : Int), .int .i64 (8 * (x : Int)), u9, u10, u11, u12, u13, u14, u15, u16, .pointer (some ⟨w.heap.size + 1 + 1, 0, none⟩), .int .i64 (z : Int), .func (.func 128) #[] #[.pointer (some ⟨wc.heap.size, 0, none⟩)], .int .i64 (x : Int), .int .i64 (8 * (x : Int)),
      u22, u23, u24, u25, u26, u27, u28, u29, u30, u31, u32, u33, u34, u35, u36, u37, u38, u39, u40, u41, u42, u43, u44], defers := [] })
    ?assign ?body ?done ?stop
  case assign =>
    intro l' x W' K hK
    simp only [encE] at hK ⊢
    gi_wp2
    simpa using hK
  case body =>
    rintro l' pre x W2 hroom hno ⟨hpl, hfr⟩ hpre
    have hxz : x < nEi z ∧ pre.length + 1 ≤ nEi z := by
      have hmem : x ∈ List.range (nEi z) := hpre.subset (by simp)
      have h1 := hpre.length_le
      rw [List.length_range, List.length_append] at h1
      simp at h1
      exact ⟨List.mem_range.1 hmem, h1⟩
    obtain ⟨hx1, hx2⟩ := hxz
    have hnz : nEi z ≤ 8192 := by unfold nEi; omega
    obtain ⟨v, hb, hr⟩ := hpl
    simp only at hb hr
    have hLL : (L ++ pre.map (stkF arg bg)).length ≤ 10010000 := by rw [List.length_append, List.length_map]; omega
    have HMA : Hid ((L ++ pre.map (stkF arg bg)) ++ [stkF arg bg x] = L ++ (pre ++ [x]).map (stkF arg bg)) := by unfold Hid; rw [List.map_append, List.append_assoc]; rfl
    generalize L ++ pre.map (stkF arg bg) = RL at *
    obtain ⟨q', cq', rfl⟩ := row_slice hr
    have HBB := veil hb
    have HRR := veil hr
    have HSX : Hid (∀ W, Hid (FrP Pb wc W ∧ Bk W Pb 125 #[.slice q' RL.length cq', .int .i64 us, .int .i64 sk]) → (W.cell? ⟨w.heap.size, 0, none⟩ = some (.pointer (some ⟨Pb, 0, none⟩)) ∧ W.cell? ⟨w.heap.size + 1, 0, none⟩ = some (.int .i64 arg)) ∧ W.cell? ⟨X, 0, none⟩ = some (.int .i64 bg) ∧ W.cell? ⟨Pb, 0, none⟩ = some (.slice q' RL.length cq')) := fun W h => by
      obtain ⟨h1, h2⟩ := unveil h
      obtain ⟨y0, y1, _, _⟩ := ((unveil HST2).fr h1).cells
      exact ⟨⟨y0, y1⟩, (unveil HXc _ h1).cell 0, h2.cell 0⟩
    have HFR2 := veil hfr
    have hPW := hb.lt
    clear hb hr hno hpre hfr
    gi_upto_region 5 with fail
    refine mixR (fun w' => Hid (FrP Pb wc w' ∧ Bk w' Pb 125 #[.slice q' RL.length cq', .int .i64 us, .int .i64 sk]))
      [(0, true), (1, true), (2, true), (3, true), (4, true), (5, true), (6, true), (7, true), (8, true), (9, true), (10, true), (11, false), (12, false)]
      13 hmixP (by kernel_rfl) (by kernel_rfl) (by kernel_rfl) (by kernel_rfl) (by kernel_rfl) (by kernel_rfl) (veil ⟨⟨(unveil HFR2).be.drew, (unveil HFR2).bk⟩, unveil HBB⟩) ?_
    iterate 9 (
      refine mix_pure _ rfl _ (.inl ⟨rfl, fun W hS => (by obtain ⟨⟨x0, x1⟩, x2, x3⟩ := unveil HSX W hS; go_simp; rfl)⟩) (fun B hB => ?_)
      simp only [Act.put, List.setIfInBounds_toArray, List.set_cons_zero, List.set_cons_succ] at hB
      subst hB)
    refine mix_pure _ rfl (.int .i64 (bg + 8 * (x : Int))) (.inl ⟨rfl, fun W hS => (by go_simp; first | done | (rw [IntKind.wrap_i64]; omega))⟩) (fun B hB => ?_)
    simp only [List.getElem_toArray, List.getElem_cons_zero, List.getElem_cons_succ, Act.put, List.setIfInBounds_toArray, List.set_cons_zero, List.set_cons_succ] at hB
    subst hB
    refine mix_pure _ rfl (.agg #[.int .i64 arg, .int .i64 (x : Int), .int .i64 (-1), .int .i64 (bg + 8 * (x : Int))]) (.inl ⟨rfl, fun W hS => (by go_simp)⟩) (fun B hB => ?_)
    simp only [List.getElem_toArray, List.getElem_cons_zero, List.getElem_cons_succ, Act.put, List.setIfInBounds_toArray, List.set_cons_zero, List.set_cons_succ] at hB
    subst hB
    refine mix_soleR _ rfl (fun K hK => ?_)
    go_simp
    have hBa : Below W2.heap.size W2 (W2.alloc (.cells #[.int .i64 arg, .int .i64 (x : Int), .int .i64 (-1), .int .i64 (bg + 8 * (x : Int))] 75)).drew := ((Below.refl _ W2).alloc (Nat.le_refl _) _).drew
    have hFa : FrP Pb wc (W2.alloc (.cells #[.int .i64 arg, .int .i64 (x : Int), .int .i64 (-1), .int .i64 (bg + 8 * (x : Int))] 75)).drew := (unveil HFR2).trans (FrP.below hBa (by omega))
    refine hK _ _ (veil ⟨hFa, (unveil HBB).below hBa⟩) ?_
    clear hK K
    have hrowa := ownsRow_belowS (unveil HRR) hBa
    refine mix_soleR _ rfl (fun K hK => ?_)
    obtain ⟨i0, hi, hq0, hq1, hq2⟩ := info_parts infoLc
    refine stepIn_append (by rfl) _ _ 69 (by rfl) Pb 75 i0 _ 4 32 Try.underlying69 hi hq0 hq1 hq2 rfl (by decide) (.slice q' RL.length cq') RL.length (lcCs RL) (by rfl) hrowa ⟨W2.heap.size, 0, none⟩ 1 1 (lcC (stkF arg bg x)) (by rfl) rfl (lc_cells W2 (stkF arg bg x) 75) (by intro u hu; simp [lcC] at hu; rcases hu with rfl | rfl | rfl | rfl <;> rfl) (by unfold maxLen; omega) (by omega) (by simp; omega) ?_
    intro v6 W6 hown6 hg6
    obtain ⟨q6, c6, rfl⟩ := row_slice hown6
    have hB6 : Bk W6 Pb 125 #[.slice q' RL.length cq', .int .i64 us, .int .i64 sk] := ((unveil HBB).below hBa).rowG hrowa hg6 (by decide)
    obtain ⟨m1, m2, m3⟩ := PlG.push (unveil HBB) hBa hrowa hg6 hown6
    have hF6 : FrP Pb wc W6 := ⟨(hFa.be).grown hg6 (by have := hBa.size; omega) (fun r e => (row_turnS hrowa r e).1), fun j T cs hT hP b => (hFa.bk j T cs hT hP b).rowG hrowa hg6 hT⟩
    have pkf : KeepsFrom W1.heap.size W2 W6 := ((KeepsOthers.of_below hBa).from _).trans (KeepsFrom.rowS hrowa hg6)
    have pko : KeepsO (W1.heap.size + 2) 0 W2 W6 := (KeepsO.of_below hBa).trans (KeepsO.rowS hrowa hg6)
    refine hK _ _ (veil ⟨hF6, hB6⟩) ?_
    clear hK K
    refine mix_nil ?_
    have p0c := hB6.cell 0
    simp only [List.getElem?_toArray, List.getElem?_cons_zero] at p0c
    have p0f := hB6.frozen 0
    have p0l := hB6.lt
    have HFIN : Hid (∀ act : Act, postO W1.heap.size 0 (KpE wc.heap.size) (fun pre W => PlG Pb (L ++ pre.map (stkF arg bg), us, sk) W ∧ FrP Pb wc W) (fun c _ W => False) (pre ++ [x]) W2 .normal act (W6.setCell ⟨Pb, 0, none⟩ (.slice q6 (RL.length + 1) c6))) := by
      intro act
      refine ⟨pkf.trans ((KeepsOthers.setCell _ _ _).from _), pko.trans (KeepsO.setCell (.inl (by omega))), fun cs b => m3.bk _ _ _ (by decide) (by decide) b, ⟨_, m1, ?_⟩, (unveil HFR2).trans m3⟩
      show World.ownsRow _ _ _ _ _ (L ++ (pre ++ [x]).map (stkF arg bg)).length (lcCs (L ++ (pre ++ [x]).map (stkF arg bg)))
      rw [← unveil HMA, lcCs_snoc, List.length_append, List.length_cons, List.length_nil]
      exact m2
    clear m1 m2 m3 hB6 hown6 hg6 hi hq0 hq1 hq2 hrowa hBa pkf pko hF6 hFa
    iterate 2 (
      refine wpListIn_plain rfl (fun K hK => ?_)
      go_simp
      refine hK _ _ ?_
      clear hK K)
    refine listIn_lastR rfl (fun K hK => ?_)
    go_simp
    refine hK _ _ ?_
    clear hK K p0c p0f
    exact unveil HFIN ⟨#[], []⟩
  case done =>
    rintro D' W' hD' ⟨hpl, hfr⟩ hK
    have HKK := veil hK
    have hKlt := (Array.getElem?_eq_some_iff.1 hK).1
    generalize hRL : L ++ (List.range (nEi z)).map (stkF arg bg) = RL at *
    obtain ⟨v, hb, hr⟩ := hpl
    simp only at hb hr
    obtain ⟨q', cq', rfl⟩ := row_slice hr
    have HBB := veil hb
    have HRR := veil hr
    have HFR2 := veil hfr
    have hPW := hb.lt
    have HRL := veil hRL
    clear hb hr hfr hK hRL
    have HSX : Hid (∀ W, Hid (FrP Pb wc W ∧ Bk W Pb 125 #[.slice q' RL.length cq', .int .i64 us, .int .i64 sk]) → (W.cell? ⟨w.heap.size, 0, none⟩ = some (.pointer (some ⟨Pb, 0, none⟩)) ∧ W.cell? ⟨w.heap.size + 1 + 1, 0, none⟩ = some (.int .i64 (z : Int))) ∧ W.cell? ⟨X, 0, none⟩ = some (.int .i64 bg)) := fun W h => by
      obtain ⟨h1, h2⟩ := unveil h
      obtain ⟨y0, _, y1, _⟩ := ((unveil HST2).fr h1).cells
      exact ⟨⟨y0, y1⟩, (unveil HXc _ h1).cell 0⟩
    have HDR : Hid (FrP Pb wc W'.drew ∧ Bk W'.drew Pb 125 #[.slice q' RL.length cq', .int .i64 us, .int .i64 sk]) := ⟨⟨(unveil HFR2).be.drew, (unveil HFR2).bk⟩, unveil HBB⟩
    go_upto_region 6 with fail
    refine wp_region_noPanic (wpIn_wide.1 (wpIn_region_mix (ro := none) (n := 0) (fun w' => Hid (FrP Pb wc w' ∧ Bk w' Pb 125 #[.slice q' RL.length cq', .int .i64 us, .int .i64 sk]))
      [(0, true), (1, true), (2, true), (3, true), (4, false), (5, true), (6, true), (7, true)]
      8 hmixP (by kernel_rfl) (by kernel_rfl) (by kernel_rfl) (by kernel_rfl) (by kernel_rfl) (by kernel_rfl) (fun _ _ _ _ h => h) HDR ?_))
    iterate 4 (
      refine mix_pure _ rfl _ (.inl ⟨rfl, fun W hS => (by obtain ⟨⟨x0, x1⟩, x2⟩ := unveil HSX W hS; go_simp; rfl)⟩) (fun B hB => ?_)
      simp only [Act.put, List.setIfInBounds_toArray, List.set_cons_zero, List.set_cons_succ] at hB
      subst hB)
    refine mix_sole _ rfl (fun K hK => ?_)
    go_simp
    refine ⟨trivial, rfl, (callsIn_wide.2 (unveil HUZ _)).mono ?_⟩
    rintro e W5 ⟨rfl, h5⟩
    obtain rfl := h5.symm
    refine hK _ _ HDR ?_
    clear hK K h5
    refine mix_pure _ rfl (.int .i64 (bg + uz)) (.inl ⟨rfl, fun W hS => (by go_simp; first | done | (rw [IntKind.wrap_i64]; omega))⟩) (fun B hB => ?_)
    simp only [List.getElem_toArray, List.getElem_cons_zero, List.getElem_cons_succ, Act.put, List.setIfInBounds_toArray, List.set_cons_zero, List.set_cons_succ] at hB
    subst hB
    iterate 2 (
      refine mix_pure _ rfl _ (.inl ⟨rfl, fun W hS => (by obtain ⟨⟨x0, x1⟩, x2⟩ := unveil HSX W hS; go_simp; rfl)⟩) (fun B hB => ?_)
      simp only [Act.put, List.setIfInBounds_toArray, List.set_cons_zero, List.set_cons_succ] at hB
      subst hB)
    refine mix_nil ?_
    have p2c := (unveil HBB).cell 2
    simp only [List.getElem?_toArray, List.getElem?_cons_zero, List.getElem?_cons_succ] at p2c
    have p2f := (unveil HBB).frozen 2
    obtain ⟨n1, n2⟩ := PlG.used (unveil HBB) (unveil HRR) (u' := .int .i64 (bg + uz)) 2
    have n3 := (unveil HBB).set 2 (.int .i64 (bg + uz))
    simp only [List.setIfInBounds_toArray, List.set_cons_zero, List.set_cons_succ] at n3
    have HFIN : Hid ((W'.setCell ⟨Pb, 2, none⟩ (.int .i64 (bg + uz))).drew.heap[D']? = some (.deferred (some [])) ∧ PlG Pb (RL, us, bg + uz) ((W'.setCell ⟨Pb, 2, none⟩ (.int .i64 (bg + uz))).drew.putObj D' (.deferred none)) ∧ FrP Pb w ((W'.setCell ⟨Pb, 2, none⟩ (.int .i64 (bg + uz))).drew.putObj D' (.deferred none))) := by
      have hD2 : (W'.setCell ⟨Pb, 2, none⟩ (.int .i64 (bg + uz))).drew.heap[D']? = some (.deferred (some [])) := (Below.heap_setCell W' ⟨Pb, 2, none⟩ _ D' (fun e => by simp at e; omega)).trans (unveil HKK)
      have hpg : PlG Pb (RL, us, bg + uz) (W'.setCell ⟨Pb, 2, none⟩ (.int .i64 (bg + uz))).drew := ⟨_, n3, n1⟩
      have hfg := ((unveil HF2).trans (unveil HFR2)).trans n2
      have hfd : FrP Pb w (W'.setCell ⟨Pb, 2, none⟩ (.int .i64 (bg + uz))).drew := ⟨hfg.be.drew, hfg.bk⟩
      refine ⟨hD2, hpg.turn (C := 0) (grownBy_putObj' _ D' _) (fun r e => by cases e; omega) (fun r e => by cases e; exact .inr ⟨_, hD2, rfl⟩), hfd.turn (C := 0) (grownBy_putObj' _ D' _) (fun r e => by cases e; omega) (fun r e => by cases e; exact .inr ⟨_, hD2, rfl⟩) (Nat.le_of_lt hpg.lt)⟩
    clear n1 n2 n3 HDR HSX
    refine listIn_last rfl (fun K hK => ?_)
    go_simp
    refine hK _ _ ?_
    clear hK K p2c p2f
    obtain ⟨f1, f2, f3⟩ := unveil HFIN
    rw [← unveil HRL] at f2
    refine ⟨by simp, .inl ⟨_, _, rfl, run_takeDeferred f1, ?_⟩⟩
    exact ⟨_, results_none rfl _ _ _, ⟨_, rfl⟩, f2, f3⟩
  case stop => rintro D' c pre W' hD' _ hf hK; cases hf
end Go.Proofs.Ytaffldhmgifdoaa
