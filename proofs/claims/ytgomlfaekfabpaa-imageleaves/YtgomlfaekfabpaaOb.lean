/-
  Package image: read.
-/
import Derived.Test.YtgomlfaekfabpaaOa
namespace Go.Proofs.Ytgomlfaekfabpaa
open Go Go.RowKit Go.Shelf
attribute [local go_sem] Oper.semAt_some
set_option linter.unusedVariables false
set_option linter.unusedSimpArgs false

def unsM (k : Int) : Bool := if k == 2 then true else if k == 4 then true else if k == 6 then true else if k == 8 then true else false
set_option maxRecDepth 100000 in
set_option maxHeartbeats 4000000 in
theorem Unsigned10_any (k : Int) (w : World) : Calls Try.prog 78 #[.int .i64 k] w fun e w' => e = .returned (.bool (unsM k)) ∧ w' = w := by
  rcases kcases k with rfl | rfl | rfl | rfl | rfl | rfl | rfl | rfl | ⟨h1, h2, h3, h4, h5, h6, h7, h8⟩
  all_goals (
    go_enter Try.func78, Try.ntmps78
    go_wp2
    go_ret
    refine ⟨?_, rfl⟩
    first | rfl | simp [unsM, *])
/-- The boxes of read: the bytes, the spot, the worth, the next one's worth. -/
structure RdS (w W : World) (T : ByteArray) (cs : Array Value) (wo nx : Int) : Prop where
  t : Bk W w.heap.size 9 #[.string T]
  s : Bk W (w.heap.size + 1) 42 cs
  a : Bk W (w.heap.size + 1 + 1) 2 #[.int .i64 wo]
  b : Bk W (w.heap.size + 1 + 1 + 1) 2 #[.int .i64 nx]
  be : Below w.heap.size w W
theorem RdS.new (w : World) (T : ByteArray) (cs : Array Value) (wo nx : Int) : RdS w ((((w.alloc (.cells #[.string T] 9)).alloc (.cells cs 42)).alloc (.cells #[.int .i64 wo] 2)).alloc (.cells #[.int .i64 nx] 2)) T cs wo nx := by
  have h1 := Bk.new (w.alloc (.cells #[.string T] 9)) 42 cs
  have h2 := Bk.new ((w.alloc (.cells #[.string T] 9)).alloc (.cells cs 42)) 2 #[.int .i64 wo]
  have h3 := Bk.new (((w.alloc (.cells #[.string T] 9)).alloc (.cells cs 42)).alloc (.cells #[.int .i64 wo] 2)) 2 #[.int .i64 nx]
  rw [World.size_alloc] at h1
  rw [World.size_alloc, World.size_alloc] at h2
  rw [World.size_alloc, World.size_alloc, World.size_alloc] at h3
  exact ⟨(((Bk.new w _ _).alloc _).alloc _).alloc _, (h1.alloc _).alloc _, h2.alloc _, h3, ((below_new2 w _ _).alloc (by simp; omega) _).alloc (by simp; omega) _⟩
theorem RdS.below {w W W' : World} {T : ByteArray} {cs : Array Value} {wo nx : Int} (h : RdS w W T cs wo nx) (hb : Below W.heap.size W W') : RdS w W' T cs wo nx := ⟨h.t.below hb, h.s.below hb, h.a.below hb, h.b.below hb, h.be.trans (hb.mono h.be.size)⟩
theorem RdS.turn {w W W' : World} {T : ByteArray} {cs : Array Value} {wo nx : Int} {row : Option Nat} (h : RdS w W T cs wo nx) (hg : W.grownBy W' row) (hr : ∀ r, row = some r → w.heap.size + 4 ≤ r) : RdS w W' T cs wo nx :=
  ⟨h.t.turn hg (fun r e => by have := hr r e; omega), h.s.turn hg (fun r e => by have := hr r e; omega), h.a.turn hg (fun r e => by have := hr r e; omega), h.b.turn hg (fun r e => by have := hr r e; omega), h.be.grown hg h.be.size (fun r e => by have := hr r e; omega)⟩
theorem RdS.setA {w W : World} {T : ByteArray} {cs : Array Value} {wo nx : Int} (h : RdS w W T cs wo nx) (x : Int) : RdS w (W.setCell ⟨w.heap.size + 1 + 1, 0, none⟩ (.int .i64 x)) T cs x nx :=
  ⟨h.t.other _ _ (by omega), h.s.other _ _ (by omega), h.a.set 0 _, h.b.other _ _ (by omega), h.be.setCell (p := ⟨w.heap.size + 1 + 1, 0, none⟩) (by show w.heap.size ≤ w.heap.size + 1 + 1; omega) _⟩
theorem RdS.setB {w W : World} {T : ByteArray} {cs : Array Value} {wo nx : Int} (h : RdS w W T cs wo nx) (x : Int) : RdS w (W.setCell ⟨w.heap.size + 1 + 1 + 1, 0, none⟩ (.int .i64 x)) T cs wo x :=
  ⟨h.t.other _ _ (by omega), h.s.other _ _ (by omega), h.a.other _ _ (by omega), h.b.set 0 _, h.be.setCell (p := ⟨w.heap.size + 1 + 1 + 1, 0, none⟩) (by show w.heap.size ≤ w.heap.size + 1 + 1 + 1; omega) _⟩
theorem RdS.cells {w W : World} {T : ByteArray} {cs : Array Value} {wo nx : Int} (h : RdS w W T cs wo nx) : W.cell? ⟨w.heap.size, 0, none⟩ = some (.string T) ∧ W.cell? ⟨w.heap.size + 1 + 1, 0, none⟩ = some (.int .i64 wo) ∧ W.cell? ⟨w.heap.size + 1 + 1 + 1, 0, none⟩ = some (.int .i64 nx) ∧ W.frozen? ⟨w.heap.size + 1 + 1, 0, none⟩ = false ∧ W.frozen? ⟨w.heap.size + 1 + 1 + 1, 0, none⟩ = false :=
  ⟨h.t.cell 0, h.a.cell 0, h.b.cell 0, h.a.frozen 0, h.b.frozen 0⟩
/-- One bit more is read. -/
def byM (T : ByteArray) (i : Nat) : Int := ((T.data.toList.getD i 0).toNat : Int)
theorem byM_eq (T : ByteArray) (i : Nat) (h : i < T.size) : ((T[i]).toNat : Int) = byM T i := by
  have h2 : i < T.data.toList.length := by simpa using h
  unfold byM
  rw [List.getD_eq_getElem?_getD, List.getElem?_eq_getElem h2, Option.getD_some]
  rfl
def rdSt (T : ByteArray) (s : Int × Int) (b : Nat) : Int × Int := (if bits .and .u8 (byM T (b / 8)) (mskM b) != 0 then bits .or .i64 s.1 s.2 else s.1, wrap64 (s.2 * 2))
def rdF (T : ByteArray) (l : List Nat) : Int × Int := l.foldl (rdSt T) (0, 1)
/-- What read tells. -/
def rdM (T : ByteArray) (bit nb : Nat) (k : Int) : Int := if unsM k then (rdF T (bitL bit nb)).1 else wrap64 ((rdF T (bitL bit nb)).1 * 2 ^ (64 - nb)) / 2 ^ (64 - nb)
/-- What a round hands on. -/
def RdI (w : World) (T : ByteArray) (cs : Array Value) (st : List Nat → Int × Int) (pre : List Nat) (W : World) : Prop := RdS w W T cs (st pre).1 (st pre).2
theorem RdI.abides (w : World) (T : ByteArray) (cs : Array Value) (st : List Nat → Int × Int) (B C : Nat) (h : w.heap.size + 4 ≤ B) : AbidesO B C 0 (RdI w T cs st) :=
  ⟨fun pre X Y row hs hg hr => RdS.turn hs hg (fun r e => by have := (hr r e).1; omega), fun pre X hs => ⟨hs.t, hs.s, hs.a, hs.b, hs.be.drew⟩⟩
set_option maxRecDepth 100000 in
set_option maxHeartbeats 20000000 in
theorem read_any (T : ByteArray) (bit nb : Nat) (k : Int) (w : World) (hb : bit ≤ 1000000) (hb2 : nb ≤ 64) (hT : bit + nb ≤ 8 * T.size) (hTs : T.size ≤ 1000000) :
    Calls Try.prog 61 #[.string T, .agg (spB bit nb k)] w fun e w' => e = .returned (.int .i64 (rdM T bit nb k)) ∧ Below w.heap.size w w' := by
  obtain ⟨R, hR⟩ : ∃ R, rdM T bit nb k = R := ⟨_, rfl⟩
  rw [hR]
  have HRR : Hid (R = if unsM k then (rdF T (bitL bit nb)).1 else wrap64 ((rdF T (bitL bit nb)).1 * 2 ^ (64 - nb)) / 2 ^ (64 - nb)) := hR.symm
  clear hR
  have HBI := veil (fun w => bitsOf_any (spB bit nb k) _ _ _ rfl w)
  have HBS := veil (fun Bd => bits_stops 3 (by decide) Bd bit nb k hb (by omega))
  have HS0 := veil (RdS.new w T (spB bit nb k) 0 1)
  unfold spB at HBI HBS HS0 ⊢
  refine (callsIn_wide (n := 4)).1 ?_
  refine callsIn_of_wp_marks Try.func61 rfl trivial ?_ rfl
  simp only [Try.ntmps61, List.size_toArray, List.length_cons, List.length_nil, Nat.reduceAdd, Nat.reduceSub, Array.replicate_succ, Array.replicate_zero, List.push_toArray, List.append_toArray, List.nil_append, List.cons_append]
  refine wpIn_wide.2 ?_
  go_upto_region 2 with fail
  generalize ((((w.alloc (.cells #[.string T] 9)).alloc (.cells #[.int .i64 (bit : Int), .int .i64 (nb : Int), .int .i64 k] 42)).alloc (.cells #[.int .i64 0] 2)).alloc (.cells #[.int .i64 1] 2)) = W0 at HS0 ⊢
  have s0 := (unveil HS0).s.cell 0
  have s1 := (unveil HS0).s.cell 1
  have s2 := (unveil HS0).s.cell 2
  simp only [List.getElem?_toArray, List.getElem?_cons_zero, List.getElem?_cons_succ] at s0 s1 s2
  go_wp2_with (go_at_call 77; refine (unveil HBI _).mono ?_; rintro e w' ⟨rfl, rfl⟩)
  have hz : (W0.alloc (.cells #[.int .i64 (bit : Int), .int .i64 (nb : Int), .int .i64 k] 42)).heap.size = W0.heap.size + 1 := by simp
  have HB0 : Hid (Bk (W0.alloc (.cells #[.int .i64 (bit : Int), .int .i64 (nb : Int), .int .i64 k] 42)) W0.heap.size 42 #[.int .i64 (bit : Int), .int .i64 (nb : Int), .int .i64 k]) := Bk.new W0 _ _
  have HS1 : Hid (RdS w (W0.alloc (.cells #[.int .i64 (bit : Int), .int .i64 (nb : Int), .int .i64 k] 42)) T #[.int .i64 (bit : Int), .int .i64 (nb : Int), .int .i64 k] 0 1) := (unveil HS0).below ((Below.refl _ W0).alloc (Nat.le_refl _) _)
  have hlw := (unveil HS0).b.lt
  generalize (W0.alloc (.cells #[.int .i64 (bit : Int), .int .i64 (nb : Int), .int .i64 k] 42)) = W1 at *
  clear s0 s1 s2 HS0 HBI
  refine (wpIn_wide (n := 4)).1 ?_
  refine wpIn_rangeFunc_ownO (k := 0) rfl (by decide) (gf := 90) (lb := #[.pointer (some ⟨W0.heap.size, 0, none⟩)]) rfl trivial (enters_of Try.func90 (by kernel_rfl) rfl)
    (unveil HBS W0.heap.size W1 (unveil HB0)) KpB.trans (fun W lb o o' hlb hlo ho _ cs hbk => (World.putObj_heap_other (by omega)).trans hbk) (Below.refl _ _) (fun _ => rfl)
    (RdI w T #[.int .i64 (bit : Int), .int .i64 (nb : Int), .int .i64 k] (rdF T)) (fun c _ W => False) (RdI.abides w T _ _ _ _ (by omega)) (fun c => ⟨fun pre X Y row hs hg hr => hs, fun pre X hs => hs⟩)
    (unveil HS1) (fun b => { tmps := #[.string T, .agg #[.int .i64 (bit : Int), .int .i64 (nb : Int), .int .i64 k], .pointer (some ⟨w.heap.size, 0, none⟩), .pointer (some ⟨w.heap.size + 1, 0, none⟩), .int .i64 0, .pointer (some ⟨w.heap.size + 1 + 1, 0, none⟩), .pointer (some ⟨w.heap.size + 1 + 1 + 1, 0, none⟩), .int .i64 ((b / 8 : Nat) : Int), .int .u8 (mskM b), undef, .agg #[.int .i64 (bit : Int), .int .i64 (nb : Int), .int .i64 k], .func (.func 90) #[] #[.pointer (some ⟨W0.heap.size, 0, none⟩)], .int .i64 ((b / 8 : Nat) : Int), .int .u8 (mskM b), undef, undef, undef, undef, undef, undef, undef, undef, undef, undef, undef, undef, undef, undef, undef, undef, undef, undef, undef, undef, undef, undef, undef], defers := [] })
    ?assign ?body ?done ?stop
  case assign =>
    intro l' x W' K hK
    simp only [encB] at hK ⊢
    gi_wp2
    simpa using hK
  case body =>
    rintro l' pre b W2 hroom hno hI hpre
    have hS : RdS w W2 T #[.int .i64 (bit : Int), .int .i64 (nb : Int), .int .i64 k] (rdF T pre).1 (rdF T pre).2 := hI
    have hbm : b ∈ bitL bit nb := hpre.subset (by simp)
    have hbT : b / 8 < T.size := by
      unfold bitL at hbm
      obtain ⟨i, hi, rfl⟩ := List.mem_map.1 hbm
      have := List.mem_range.1 hi
      omega
    have HIO : Hid (rdF T (pre ++ [b]) = rdSt T (rdF T pre) b) := by
      unfold Hid rdF
      rw [List.foldl_append]
      rfl
    generalize rdF T pre = st at *
    obtain ⟨wo, nx⟩ := st
    simp only at hS
    obtain ⟨c0, c1, c2, f1, f2⟩ := hS.cells
    have HS := veil hS
    clear hS hI hno hpre hbm
    have hm := msk_cases b
    have HM := veil hm
    clear hm
    have hby := byM_eq T (b / 8) hbT
    unfold rdSt at HIO
    simp only at HIO
    rw [← hby] at HIO
    clear hby
    generalize mskM b = M at *
    generalize b / 8 = B8 at *
    have hne1 : W0.heap.size ≠ w.heap.size + 1 + 1 := by omega
    have hne2 : W0.heap.size ≠ w.heap.size + 1 + 1 + 1 := by omega
    cases hC : bits .and .u8 ((T[B8]).toNat : Int) M != 0
    · rw [hC] at HIO
      simp only [Bool.false_eq_true, if_false] at HIO
      gi_wp2
      refine ⟨(KeepsOthers.setCell _ _ _).from _, KeepsO.setCell (.inl (by omega)), fun cs hbk => hbk.other _ _ hne2, ?_⟩
      show RdS w _ T _ (rdF T (pre ++ [b])).1 (rdF T (pre ++ [b])).2
      rw [unveil HIO]
      exact (unveil HS).setB _
    · rw [hC] at HIO
      simp only [if_true] at HIO
      gi_wp2
      refine ⟨((KeepsOthers.setCell _ _ _).from _).trans ((KeepsOthers.setCell _ _ _).from _), (KeepsO.setCell (.inl (by omega))).trans (KeepsO.setCell (.inl (by omega))), fun cs hbk => (hbk.other _ _ hne1).other _ _ hne2, ?_⟩
      show RdS w _ T _ (rdF T (pre ++ [b])).1 (rdF T (pre ++ [b])).2
      rw [unveil HIO]
      exact ((unveil HS).setA _).setB _
  case done =>
    rintro D' W' hD' hI hK
    have hS : RdS w W' T #[.int .i64 (bit : Int), .int .i64 (nb : Int), .int .i64 k] (rdF T (bitL bit nb)).1 (rdF T (bitL bit nb)).2 := hI
    generalize rdF T (bitL bit nb) = st at *
    obtain ⟨wo, nx⟩ := st
    simp only at hS
    obtain ⟨c0, c1, c2, f1, f2⟩ := hS.cells
    have s0 := hS.s.cell 0
    have s1 := hS.s.cell 1
    have s2 := hS.s.cell 2
    simp only [List.getElem?_toArray, List.getElem?_cons_zero, List.getElem?_cons_succ] at s0 s1 s2
    have HS := veil hS
    have HKK := veil hK
    clear hS hI hK
    have HU := veil (Unsigned10_any k)
    obtain ⟨U, hU⟩ : ∃ U, unsM k = U := ⟨_, rfl⟩
    rw [hU] at HU HRR
    clear hU
    cases U
    · go_wp2_with (go_at_call 78; refine (unveil HU _).mono ?_; rintro e w' ⟨rfl, hw'⟩; obtain rfl := hw'.symm)
      refine ⟨by simp, .inl ⟨_, _, rfl, run_takeDeferred (unveil HKK), ?_⟩⟩
      exact ⟨_, results_tmp rfl _ _ _, by rw [unveil HRR]; rfl, (unveil HS).be.grown (grownBy_putObj' _ D' _) (unveil HS).be.size (fun r e => by cases e; omega)⟩
    · go_wp2_with (go_at_call 78; refine (unveil HU _).mono ?_; rintro e w' ⟨rfl, hw'⟩; obtain rfl := hw'.symm)
      refine ⟨by simp, .inl ⟨_, _, rfl, run_takeDeferred (unveil HKK), ?_⟩⟩
      exact ⟨_, results_tmp rfl _ _ _, by rw [unveil HRR]; rfl, (unveil HS).be.grown (grownBy_putObj' _ D' _) (unveil HS).be.size (fun r e => by cases e; omega)⟩
  case stop => rintro D' c pre W' hD' _ hf hK; cases hf
end Go.Proofs.Ytgomlfaekfabpaa
