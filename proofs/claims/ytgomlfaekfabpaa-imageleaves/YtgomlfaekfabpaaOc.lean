/-
  Package image: write.
-/
import Derived.Test.YtgomlfaekfabpaaOb
namespace Go.Proofs.Ytgomlfaekfabpaa
open Go Go.RowKit Go.Shelf
attribute [local go_sem] Oper.semAt_some
set_option linter.unusedVariables false
set_option linter.unusedSimpArgs false

/-- Bytes as they lie. -/
def byC (bs : List Int) : Array Value := (bs.map (fun x => Value.int .u8 x)).toArray
theorem byC_get (bs : List Int) (i : Nat) : (byC bs)[i]? = (bs[i]?).map (fun x => Value.int .u8 x) := by unfold byC; simp
theorem byC_set (bs : List Int) (i : Nat) (x : Int) : (byC bs).setIfInBounds i (.int .u8 x) = byC (bs.set i x) := by
  unfold byC
  simp [List.map_set]
/-- One bit more is written. -/
def wrX (x m v : Int) : Int := if bits .and .i64 v 1 != 0 then bits .or .u8 (bits .andNot .u8 x m) m else bits .andNot .u8 x m
def wrSt (s : List Int × Int) (b : Nat) : List Int × Int := (s.1.set (b / 8) (wrX (s.1.getD (b / 8) 0) (mskM b) s.2), s.2 / 2)
def wrF (bs : List Int) (v : Int) (l : List Nat) : List Int × Int := l.foldl wrSt (bs, v)
theorem wrF_len (bs : List Int) (v : Int) : ∀ l : List Nat, (wrF bs v l).1.length = bs.length := by
  intro l
  unfold wrF
  have h : ∀ (l : List Nat) (s : List Int × Int), (l.foldl wrSt s).1.length = s.1.length := by
    intro l
    induction l with
    | nil => intro s; rfl
    | cons x r ih => intro s; rw [List.foldl_cons, ih]; unfold wrSt; simp
  exact h l _
/-- The boxes of write: the bytes' list, the spot, the value; the bytes themselves. -/
structure WrS (w W : World) (g n : Nat) (cs : Array Value) (bs : List Int) (v : Int) : Prop where
  i : Bk W w.heap.size 62 #[.slice (some ⟨g, 0, none⟩) n n]
  s : Bk W (w.heap.size + 1) 42 cs
  v : Bk W (w.heap.size + 1 + 1) 2 #[.int .i64 v]
  b : Bk W g 5 (byC bs)
  gr : w.grownBy W (some g)
  gl : g < w.heap.size
theorem WrS.new (w : World) (g n : Nat) (cs : Array Value) (bs : List Int) (v : Int) (hg : Bk w g 5 (byC bs)) : WrS w (((w.alloc (.cells #[.slice (some ⟨g, 0, none⟩) n n] 62)).alloc (.cells cs 42)).alloc (.cells #[.int .i64 v] 2)) g n cs bs v := by
  have h1 := Bk.new (w.alloc (.cells #[.slice (some ⟨g, 0, none⟩) n n] 62)) 42 cs
  have h2 := Bk.new ((w.alloc (.cells #[.slice (some ⟨g, 0, none⟩) n n] 62)).alloc (.cells cs 42)) 2 #[.int .i64 v]
  rw [World.size_alloc] at h1
  rw [World.size_alloc, World.size_alloc] at h2
  have hb := below_grown (((below_new2 w (.cells #[.slice (some ⟨g, 0, none⟩) n n] 62) (.cells cs 42)).alloc (by simp; omega) (.cells #[.int .i64 v] 2)))
  exact ⟨((Bk.new w _ _).alloc _).alloc _, h1.alloc _, h2, ((hg.alloc _).alloc _).alloc _, ⟨hb.os, hb.tape, hb.output, hb.size, fun i hi _ => hb.block i hi (by simp)⟩, hg.lt⟩
theorem gr_then {a b c : World} {g : Nat} {row : Option Nat} (h : a.grownBy b (some g)) (k : b.grownBy c row) (hr : ∀ r, row = some r → a.heap.size ≤ r ∨ r = g) : a.grownBy c (some g) :=
  ⟨k.os.trans h.os, k.tape.trans h.tape, k.output.trans h.output, Nat.le_trans h.size k.size, fun i hi hne => (k.block i (Nat.lt_of_lt_of_le hi h.size) (fun e => by
    rcases hr i e.symm with h2 | h2
    · omega
    · exact hne (by rw [h2]))).trans (h.block i hi hne)⟩
theorem WrS.turn {w W W' : World} {g n : Nat} {cs : Array Value} {bs : List Int} {v : Int} {row : Option Nat} (h : WrS w W g n cs bs v) (hg : W.grownBy W' row) (hr : ∀ r, row = some r → w.heap.size + 3 ≤ r) : WrS w W' g n cs bs v :=
  ⟨h.i.turn hg (fun r e => by have := hr r e; omega), h.s.turn hg (fun r e => by have := hr r e; omega), h.v.turn hg (fun r e => by have := hr r e; omega), h.b.turn hg (fun r e => by have := hr r e; have := h.gl; omega), gr_then h.gr hg (fun r e => .inl (by have := hr r e; omega)), h.gl⟩
theorem gr_set (W : World) (b i : Nat) (v : Value) : W.grownBy (W.setCell ⟨b, i, none⟩ v) (some b) := by
  have h := Below.heap_setCell W ⟨b, i, none⟩ v
  have h0 := grownBy_setCell' W b v
  exact ⟨rfl, rfl, rfl, by simp, fun j hj hne => h j (fun e => hne (by rw [e]))⟩
theorem WrS.setB {w W : World} {g n : Nat} {cs : Array Value} {bs : List Int} {v : Int} (h : WrS w W g n cs bs v) (i : Nat) (x : Int) : WrS w (W.setCell ⟨g, i, none⟩ (.int .u8 x)) g n cs (bs.set i x) v := by
  have hl := h.gl
  exact ⟨h.i.other _ _ (by omega), h.s.other _ _ (by omega), h.v.other _ _ (by omega), by rw [← byC_set]; exact h.b.set i _, gr_then h.gr (gr_set W g i _) (fun r e => by cases e; exact .inr rfl), h.gl⟩
theorem WrS.setV {w W : World} {g n : Nat} {cs : Array Value} {bs : List Int} {v : Int} (h : WrS w W g n cs bs v) (x : Int) : WrS w (W.setCell ⟨w.heap.size + 1 + 1, 0, none⟩ (.int .i64 x)) g n cs bs x := by
  have hl := h.gl
  exact ⟨h.i.other _ _ (by omega), h.s.other _ _ (by omega), h.v.set 0 _, h.b.other _ _ (by omega), gr_then h.gr (gr_set W _ 0 _) (fun r e => by cases e; exact .inl (by omega)), h.gl⟩
def WrI (w : World) (g n : Nat) (cs : Array Value) (st : List Nat → List Int × Int) (pre : List Nat) (W : World) : Prop := WrS w W g n cs (st pre).1 (st pre).2
theorem WrI.abides (w : World) (g n : Nat) (cs : Array Value) (st : List Nat → List Int × Int) (B C : Nat) (h : w.heap.size + 3 ≤ B) : AbidesO B C 0 (WrI w g n cs st) :=
  ⟨fun pre X Y row hs hg hr => WrS.turn hs hg (fun r e => by have := (hr r e).1; omega), fun pre X hs => ⟨hs.i, hs.s, hs.v, hs.b, gr_then hs.gr (row := none) (below_grown (Below.refl _ X).drew) (fun r e => by cases e), hs.gl⟩⟩
set_option maxRecDepth 100000 in
set_option maxHeartbeats 20000000 in
theorem write_any (bs : List Int) (g bit nb : Nat) (k v : Int) (w : World) (hg : Bk w g 5 (byC bs)) (hb : bit ≤ 1000000) (hb2 : nb ≤ 64) (hT : bit + nb ≤ 8 * bs.length) (hTs : bs.length ≤ 1000000) :
    Calls Try.prog 57 #[.slice (some ⟨g, 0, none⟩) bs.length bs.length, .agg (spB bit nb k), .int .i64 v] w fun e w' => (∃ r, e = .returned r) ∧ Bk w' g 5 (byC (wrF bs v (bitL bit nb)).1) ∧ w.grownBy w' (some g) := by
  have HBI := veil (fun w => bitsOf_any (spB bit nb k) _ _ _ rfl w)
  have HBS := veil (fun Bd => bits_stops 3 (by decide) Bd bit nb k hb (by omega))
  have HS0 := veil (WrS.new w g bs.length (spB bit nb k) bs v hg)
  have HWL := veil (wrF_len bs v)
  clear hg
  unfold spB at HBI HBS HS0 ⊢
  refine (callsIn_wide (n := 4)).1 ?_
  refine callsIn_of_wp_marks Try.func57 rfl trivial ?_ rfl
  simp only [Try.ntmps57, List.size_toArray, List.length_cons, List.length_nil, Nat.reduceAdd, Nat.reduceSub, Array.replicate_succ, Array.replicate_zero, List.push_toArray, List.append_toArray, List.nil_append, List.cons_append]
  refine wpIn_wide.2 ?_
  go_upto_region 1 with fail
  generalize (((w.alloc (.cells #[.slice (some ⟨g, 0, none⟩) bs.length bs.length] 62)).alloc (.cells #[.int .i64 (bit : Int), .int .i64 (nb : Int), .int .i64 k] 42)).alloc (.cells #[.int .i64 v] 2)) = W0 at HS0 ⊢
  have s0 := (unveil HS0).s.cell 0
  have s1 := (unveil HS0).s.cell 1
  have s2 := (unveil HS0).s.cell 2
  simp only [List.getElem?_toArray, List.getElem?_cons_zero, List.getElem?_cons_succ] at s0 s1 s2
  go_wp2_with (go_at_call 77; refine (unveil HBI _).mono ?_; rintro e w' ⟨rfl, rfl⟩)
  have hz : (W0.alloc (.cells #[.int .i64 (bit : Int), .int .i64 (nb : Int), .int .i64 k] 42)).heap.size = W0.heap.size + 1 := by simp
  have HB0 : Hid (Bk (W0.alloc (.cells #[.int .i64 (bit : Int), .int .i64 (nb : Int), .int .i64 k] 42)) W0.heap.size 42 #[.int .i64 (bit : Int), .int .i64 (nb : Int), .int .i64 k]) := Bk.new W0 _ _
  have HS1 : Hid (WrS w (W0.alloc (.cells #[.int .i64 (bit : Int), .int .i64 (nb : Int), .int .i64 k] 42)) g bs.length #[.int .i64 (bit : Int), .int .i64 (nb : Int), .int .i64 k] bs v) := (unveil HS0).turn (World.grownBy_alloc _ _ none) (fun r e => by cases e)
  have hlw := (unveil HS0).v.lt
  have hgl := (unveil HS0).gl
  generalize (W0.alloc (.cells #[.int .i64 (bit : Int), .int .i64 (nb : Int), .int .i64 k] 42)) = W1 at *
  clear s0 s1 s2 HS0 HBI
  refine (wpIn_wide (n := 4)).1 ?_
  refine wpIn_rangeFunc_ownO (k := 0) rfl (by decide) (gf := 90) (lb := #[.pointer (some ⟨W0.heap.size, 0, none⟩)]) rfl trivial (enters_of Try.func90 (by kernel_rfl) rfl)
    (unveil HBS W0.heap.size W1 (unveil HB0)) KpB.trans (fun W lb o o' hlb hlo ho _ cs hbk => (World.putObj_heap_other (by omega)).trans hbk) (Below.refl _ _) (fun _ => rfl)
    (WrI w g bs.length #[.int .i64 (bit : Int), .int .i64 (nb : Int), .int .i64 k] (wrF bs v)) (fun c _ W => False) (WrI.abides w g _ _ _ _ _ (by omega)) (fun c => ⟨fun pre X Y row hs hg hr => hs, fun pre X hs => hs⟩)
    (unveil HS1) (fun b => { tmps := #[.slice (some ⟨g, 0, none⟩) bs.length bs.length, .agg #[.int .i64 (bit : Int), .int .i64 (nb : Int), .int .i64 k], .int .i64 v, .pointer (some ⟨w.heap.size, 0, none⟩), .pointer (some ⟨w.heap.size + 1, 0, none⟩), .pointer (some ⟨w.heap.size + 1 + 1, 0, none⟩), .int .i64 ((b / 8 : Nat) : Int), .int .u8 (mskM b), .agg #[.int .i64 (bit : Int), .int .i64 (nb : Int), .int .i64 k], .func (.func 90) #[] #[.pointer (some ⟨W0.heap.size, 0, none⟩)], .int .i64 ((b / 8 : Nat) : Int), .int .u8 (mskM b), undef, undef, undef, undef, undef, undef, undef, undef, undef, undef, undef, undef, undef, undef, undef, undef, undef, undef, undef], defers := [] })
    ?assign ?body ?done ?stop
  case assign =>
    intro l' x W' K hK
    simp only [encB] at hK ⊢
    gi_wp2
    simpa using hK
  case body =>
    rintro l' pre b W2 hroom hno hI hpre
    have hS : WrS w W2 g bs.length #[.int .i64 (bit : Int), .int .i64 (nb : Int), .int .i64 k] (wrF bs v pre).1 (wrF bs v pre).2 := hI
    have hbm : b ∈ bitL bit nb := hpre.subset (by simp)
    have hbT : b / 8 < bs.length := by
      unfold bitL at hbm
      obtain ⟨i, hi, rfl⟩ := List.mem_map.1 hbm
      have := List.mem_range.1 hi
      omega
    have HIO : Hid (wrF bs v (pre ++ [b]) = wrSt (wrF bs v pre) b) := by
      unfold Hid wrF
      rw [List.foldl_append]
      rfl
    have hlen := unveil HWL pre
    generalize wrF bs v pre = st at *
    obtain ⟨cb, cv⟩ := st
    simp only at hS hlen
    have hbx : b / 8 < cb.length := by omega
    have hx : cb.getD (b / 8) 0 = cb[b / 8] := by rw [List.getD_eq_getElem?_getD, List.getElem?_eq_getElem hbx, Option.getD_some]
    have HS := veil hS
    have d0 := hS.i.cell 0
    have d1 := hS.v.cell 0
    have d2 := hS.b.cell (b / 8)
    have e0 := hS.b.frozen (b / 8)
    have e1 := hS.v.frozen 0
    rw [byC_get, List.getElem?_eq_getElem hbx, Option.map_some] at d2
    simp only [List.getElem?_toArray, List.getElem?_cons_zero] at d0 d1
    unfold wrSt at HIO
    simp only at HIO
    rw [hx] at HIO
    have hg2 := hS.b.lt
    clear hS hI hno hpre hbm hx
    generalize cb[b / 8] = x at *
    generalize mskM b = M at *
    generalize b / 8 = B8 at *
    have hne1 : W0.heap.size ≠ g := by omega
    have hne2 : W0.heap.size ≠ w.heap.size + 1 + 1 := by omega
    have hne3 : w.heap.size + 1 + 1 ≠ g := by omega
    have hne4 : w.heap.size ≠ g := by omega
    have hko : ∀ (X : World) (i : Nat) (u : Value), KeepsO (W1.heap.size + 2) 0 X (X.setCell ⟨g, i, none⟩ u) := fun X i u => KeepsO.grown (gr_set X g i u) (fun r e => by cases e; exact .inl (by omega))
    have HKO := veil hko
    clear hko
    unfold wrX at HIO
    cases hC : bits .and .i64 cv 1 != 0
    · rw [hC] at HIO
      simp only [Bool.false_eq_true, if_false] at HIO
      gi_wp2
      refine ⟨((KeepsOthers.setCell _ _ _).from _).trans ((KeepsOthers.setCell _ _ _).from _), (unveil HKO _ _ _).trans (KeepsO.setCell (.inl (by omega))), fun cs hbk => (hbk.other _ _ hne1).other _ _ hne2, ?_⟩
      show WrS w _ g bs.length _ (wrF bs v (pre ++ [b])).1 (wrF bs v (pre ++ [b])).2
      rw [unveil HIO]
      exact ((unveil HS).setB _ _).setV _
    · rw [hC] at HIO
      simp only [if_true] at HIO
      gi_wp2
      refine ⟨(((KeepsOthers.setCell _ _ _).from _).trans ((KeepsOthers.setCell _ _ _).from _)).trans ((KeepsOthers.setCell _ _ _).from _), ((unveil HKO _ _ _).trans (unveil HKO _ _ _)).trans (KeepsO.setCell (.inl (by omega))), fun cs hbk => ((hbk.other _ _ hne1).other _ _ hne1).other _ _ hne2, ?_⟩
      show WrS w _ g bs.length _ (wrF bs v (pre ++ [b])).1 (wrF bs v (pre ++ [b])).2
      rw [unveil HIO]
      have h2 := (((unveil HS).setB B8 (bits .andNot .u8 x M)).setB B8 (bits .or .u8 (bits .andNot .u8 x M) M)).setV (cv / 2)
      rw [List.set_set] at h2
      exact h2
  case done =>
    rintro D' W' hD' hI hK
    have hS : WrS w W' g bs.length #[.int .i64 (bit : Int), .int .i64 (nb : Int), .int .i64 k] (wrF bs v (bitL bit nb)).1 (wrF bs v (bitL bit nb)).2 := hI
    have HS := veil hS
    have HKK := veil hK
    clear hS hI hK
    go_wp2_with fail
    refine ⟨by simp, .inl ⟨_, _, rfl, run_takeDeferred (unveil HKK), ?_⟩⟩
    exact ⟨_, results_none (fn := Try.f57) rfl _ _ _, ⟨_, rfl⟩, (unveil HS).b.turn (grownBy_putObj' _ D' _) (fun r e => by cases e; omega), gr_then (unveil HS).gr (grownBy_putObj' _ D' _) (fun r e => by cases e; exact .inl (by omega))⟩
  case stop => rintro D' c pre W' hD' _ hf hK; cases hf
end Go.Proofs.Ytgomlfaekfabpaa
