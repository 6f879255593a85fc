/-
  Package burinlaw12: longs.
-/
import Derived.Test.YtaffldhmgifdoaaIn
import Derived.Laws.IdiomStrings
namespace Go.Proofs.Ytaffldhmgifdoaa
open Go Go.RowKit Go.Shelf
attribute [local go_sem] Oper.semAt_some
set_option linter.unusedVariables false
set_option linter.unusedSimpArgs false

def loB (k : Nat) : ByteArray := ⟨#[UInt8.ofNat (97 + k)]⟩
def loC (k : Nat) : List Value := [.string (loB k), .int .i64 1, .int .i64 7, .int .i64 0, .slice none 0 0, .slice none 0 0, .bool false, .int .i64 0, .int .i64 (-1)]
def loCs (k : Nat) : List Value := (List.range k).flatMap loC
theorem loCs_succ (k : Nat) : loCs (k + 1) = loCs k ++ loC k := by unfold loCs; rw [List.range_succ, List.flatMap_append]; simp
theorem infoFd : (Try.prog.info? 45).map (fun i => (i.zero, i.size, i.bytes)) = some (some (.agg #[.string ⟨#[]⟩, .int .i64 0, .int .i64 0, .int .i64 0, .slice none 0 0, .slice none 0 0, .bool false, .int .i64 0, .int .i64 0]), 9, 112) := by kernel_rfl
theorem lo_cells (W : World) (k : Nat) (ty : TypeId) : ∀ (j : Nat) (u : Value), (loC k)[j]? = some u → (W.alloc (.cells (loC k).toArray ty)).cell? ((⟨W.heap.size, 0, none⟩ : Addr).add j) = some u := by
  intro j u h
  have hadd : (⟨W.heap.size, 0, none⟩ : Addr).add j = ⟨W.heap.size, j, none⟩ := by unfold Addr.add; split <;> simp_all
  rw [hadd, Bk.cell (Bk.new W ty _)]
  simpa using h
theorem conv_one (W : World) (g k : Nat) (hk : k < 2) (hb : Bk W g 5 #[.int .u8 (97 + (k : Int))]) : (convert 62 9 (.slice (some ⟨g, 0, none⟩) 1 1)).run Try.prog W = .ok (.string (loB k)) W := by
  have h := run_convert_bytes_back (P := Try.prog) W 62 9 5 ⟨g, 0, none⟩ 1 [UInt8.ofNat (97 + k)] Try.underlying62 Try.underlying5 Try.underlying9 (fun j hj => by
    obtain rfl : j = 0 := by simp at hj; omega
    have hadd : (⟨g, 0, none⟩ : Addr).add 0 = ⟨g, 0, none⟩ := by unfold Addr.add; split <;> simp_all
    rw [hadd, hb.cell]
    have hk2 : k = 0 ∨ k = 1 := by omega
    rcases hk2 with rfl | rfl <;> rfl)
  exact h
def loT (g c : Nat) : ShT := .mk 4 0 0 none 0 [] (some ⟨g, 0, none⟩) c [⟨[97], intT 7, -1⟩, ⟨[98], intT 7, -1⟩] false 0
theorem lo_in {W : World} {g B : Nat} (hg : g < B) (h : ∀ (i : Nat) (u : Value), (loCs 2)[i]? = some u → W.cell? ⟨g, i, none⟩ = some u) (c : Nat) : (loT g c).In B W
  | 0 => trivial
  | d + 1 => ⟨fun i hi => absurd hi (Nat.not_lt_zero _), fun i hi => by
      have hi2 : i < 2 := hi
      refine ⟨g, 0, rfl, hg, fun j hj => ?_, ?_, ?_⟩
      · rw [Nat.zero_add]
        have hI : i = 0 ∨ i = 1 := by omega
        have hJ : j = 0 ∨ j = 1 ∨ j = 2 ∨ j = 3 ∨ j = 4 ∨ j = 5 ∨ j = 6 ∨ j = 7 ∨ j = 8 := by omega
        rcases hI with rfl | rfl <;> rcases hJ with rfl | rfl | rfl | rfl | rfl | rfl | rfl | rfl | rfl <;> exact h _ _ rfl
      · have hI : i = 0 ∨ i = 1 := by omega
        rcases hI with rfl | rfl <;> (show 1 ≤ maxLen; unfold maxLen; decide)
      · have hI : i = 0 ∨ i = 1 := by omega
        rcases hI with rfl | rfl <;> exact intT_in _ _ _ d⟩
theorem put7 {W w : World} {b base n size : Nat} {cs0 cs1 cs2 cs3 cs4 cs5 cs6 : Value} {v : Value} {xs : List Value} (hb : Bk W b 25 #[cs0, cs1, cs2, cs3, cs4, cs5, cs6]) (hr : W.ownsRow base 45 size v n xs) (hw : Below w.heap.size w W) (hwb : w.heap.size ≤ b) (v0 v1 v2 v3 v4 v5 v6 : Value) :
    Bk (((((((W.setCell ⟨b, 0, none⟩ v0).setCell ⟨b, 1, none⟩ v1).setCell ⟨b, 2, none⟩ v2).setCell ⟨b, 3, none⟩ v3).setCell ⟨b, 4, none⟩ v4).setCell ⟨b, 5, none⟩ v5).setCell ⟨b, 6, none⟩ v6) b 25 #[v0, v1, v2, v3, v4, v5, v6] ∧
    (((((((W.setCell ⟨b, 0, none⟩ v0).setCell ⟨b, 1, none⟩ v1).setCell ⟨b, 2, none⟩ v2).setCell ⟨b, 3, none⟩ v3).setCell ⟨b, 4, none⟩ v4).setCell ⟨b, 5, none⟩ v5).setCell ⟨b, 6, none⟩ v6).ownsRow base 45 size v n xs ∧
    Below w.heap.size w (((((((W.setCell ⟨b, 0, none⟩ v0).setCell ⟨b, 1, none⟩ v1).setCell ⟨b, 2, none⟩ v2).setCell ⟨b, 3, none⟩ v3).setCell ⟨b, 4, none⟩ v4).setCell ⟨b, 5, none⟩ v5).setCell ⟨b, 6, none⟩ v6) := by
  have step : ∀ (W : World) (cs : Array Value) (i : Nat) (u : Value), (Bk W b 25 cs ∧ W.ownsRow base 45 size v n xs ∧ Below w.heap.size w W) → (Bk (W.setCell ⟨b, i, none⟩ u) b 25 (cs.setIfInBounds i u) ∧ (W.setCell ⟨b, i, none⟩ u).ownsRow base 45 size v n xs ∧ Below w.heap.size w (W.setCell ⟨b, i, none⟩ u)) := fun W cs i u h =>
    ⟨h.1.set i u, ownsRow_setS h.2.1 h.1 (by decide) u, h.2.2.setCell (p := ⟨b, i, none⟩) hwb u⟩
  have h := step _ _ 6 v6 (step _ _ 5 v5 (step _ _ 4 v4 (step _ _ 3 v3 (step _ _ 2 v2 (step _ _ 1 v1 (step _ _ 0 v0 ⟨hb, hr, hw⟩))))))
  simp only [List.setIfInBounds_toArray, List.set_cons_zero, List.set_cons_succ] at h
  exact h
structure LgI (w W : World) (k : Nat) (v : Value) : Prop where
  t : Bk W (w.heap.size + 1) 25 #[.int .i64 4, .int .i64 0, .int .i64 0, .slice none 0 0, v, .bool false, .int .i64 0]
  z : Bk W w.heap.size 25 #[.int .i64 0, .int .i64 0, .int .i64 0, .slice none 0 0, .slice none 0 0, .bool false, .int .i64 0]
  own : W.ownsRow w.heap.size 45 9 v k (loCs k)
  be : Below w.heap.size w W
set_option maxRecDepth 100000 in
set_option maxHeartbeats 20000000 in
theorem longs_any (w : World) : Calls Try.prog 76 #[.int .i64 2] w fun e w' => ∃ g c, e = .returned (loT g c).v ∧ (loT g c).In w'.heap.size w' ∧ Below w.heap.size w w' := by
  have HI0 : Hid (LgI w ((w.alloc (.cells #[.int .i64 0, .int .i64 0, .int .i64 0, .slice none 0 0, .slice none 0 0, .bool false, .int .i64 0] 25)).alloc (.cells #[.int .i64 4, .int .i64 0, .int .i64 0, .slice none 0 0, .slice none 0 0, .bool false, .int .i64 0] 25)) 0 (.slice none 0 0)) := by
    have h1 := Bk.new (w.alloc (.cells #[.int .i64 0, .int .i64 0, .int .i64 0, .slice none 0 0, .slice none 0 0, .bool false, .int .i64 0] 25)) 25 #[.int .i64 4, .int .i64 0, .int .i64 0, .slice none 0 0, .slice none 0 0, .bool false, .int .i64 0]
    rw [World.size_alloc] at h1
    exact ⟨h1, (Bk.new w _ _).alloc _, World.ownsRow_nil _ _ _ _, below_new2 w _ _⟩
  go_enter Try.func76, Try.ntmps76
  go_wp2
  generalize ((w.alloc (.cells #[.int .i64 0, .int .i64 0, .int .i64 0, .slice none 0 0, .slice none 0 0, .bool false, .int .i64 0] 25)).alloc (.cells #[.int .i64 4, .int .i64 0, .int .i64 0, .slice none 0 0, .slice none 0 0, .bool false, .int .i64 0] 25)) = W0 at *
  go_loopw [4] (fun i wr => ∃ (k : Nat) (v : Value), i = .int .i64 k ∧ k ≤ 2 ∧ Hid (LgI w wr k v)) (fun i wr => 2 - (intOf i).toNat)
  case atStart => exact ⟨0, _, rfl, by omega, HI0⟩
  case round =>
    obtain ⟨k, v, rfl, hk, hI⟩ := hrel
    obtain ⟨q, cq, rfl⟩ := row_slice (unveil hI).own
    by_cases hkl : k < 2
    · have hkk : (k : Int) < 2 := by omega
      have t4 := (unveil hI).t.cell 4
      simp only [List.getElem?_toArray, List.getElem?_cons_succ, List.getElem?_cons_zero] at t4
      have htl := (unveil hI).t.lt
      have hb1 := Bk.new wr 5 #[.int .u8 (97 + (k : Int))]
      have hcv := conv_one (wr.alloc (.cells #[.int .u8 (97 + (k : Int))] 5)) wr.heap.size k hkl hb1
      have hmod : (97 + (k : Int)) % 256 = 97 + (k : Int) := by omega
      have hB1 := new1_below wr (.cells #[.int .u8 (97 + (k : Int))] 5)
      have hI1 := veil (show LgI w (wr.alloc (.cells #[.int .u8 (97 + (k : Int))] 5)) k (.slice q k cq) from ⟨(unveil hI).t.below hB1, (unveil hI).z.below hB1, ownsRow_belowS (unveil hI).own hB1, (unveil hI).be.trans (hB1.mono (unveil hI).be.size)⟩)
      have hrowa := (unveil hI1).own.alloc (.cells (loC k).toArray 45)
      obtain ⟨i0, hi, hz0, hz1, hz2'⟩ := info_parts infoFd
      have hbs : w.heap.size ≤ wr.heap.size := (unveil hI).be.size
      have hlo := lo_cells (wr.alloc (.cells #[.int .u8 (97 + (k : Int))] 5)) k 45
      rw [World.size_alloc] at hlo
      clear hb1 hB1
      go_wp2_with (at_builtin; go_loud (refine wpList_append_own _ rfl _ _ 23 rfl w.heap.size 45 i0 _ 9 112 Try.underlying23 hi hz0 hz1 hz2' rfl (by decide) _ _ _ rfl hrowa ⟨wr.heap.size + 1, 0, none⟩ 1 1 (loC k) rfl rfl hlo ?c2 ?c3 ?c4 ?c5 ?_))
      case c2 => intro u hu; simp [loC] at hu; rcases hu with rfl | rfl | rfl | rfl | rfl | rfl | rfl | rfl | rfl <;> rfl
      case c3 => unfold maxLen; omega
      case c4 => omega
      case c5 => simp; omega
      intro v6 W6 hown6 hgrow6 _
      obtain ⟨q6, cp6, rfl⟩ := row_slice hown6
      have hI2 := (show LgI w _ k (.slice q k cq) from ⟨(unveil hI1).t.alloc (.cells (loC k).toArray 45), (unveil hI1).z.alloc _, hrowa, (unveil hI1).be.alloc (unveil hI1).be.size _⟩)
      have t6 := hI2.t.rowG hrowa hgrow6 (by decide)
      have z6 := hI2.z.rowG hrowa hgrow6 (by decide)
      have t6c := t6.cell 4
      simp only [List.getElem?_toArray, List.getElem?_cons_succ, List.getElem?_cons_zero] at t6c
      have t6f := t6.frozen 4
      have t6l := t6.lt
      have HN : Hid (LgI w (W6.setCell ⟨w.heap.size + 1, 4, none⟩ (.slice q6 (k + 1) cp6)) (k + 1) (.slice q6 (k + 1) cp6)) := by
        have h1 := t6.set 4 (.slice q6 (k + 1) cp6)
        simp only [List.setIfInBounds_toArray, List.set_cons_zero, List.set_cons_succ] at h1
        refine ⟨h1, z6.other _ _ (by omega), ?_, (hI2.be.grown hgrow6 hI2.be.size (fun r e => (row_turnS hrowa r e).1)).setCell (p := ⟨w.heap.size + 1, 4, none⟩) (by show w.heap.size ≤ w.heap.size + 1; omega) _⟩
        rw [loCs_succ]
        exact ownsRow_setS hown6 t6 (by decide) _
      clear hI2 t6 z6 hown6 hgrow6 hrowa hi hz0 hz1 hz2' t4 hcv
      go_wp2_with fail
      go_roundw
      case rel => exact ⟨k + 1, _, by go_num, by omega, HN⟩
      case measure => simp [intOf]; omega
    · obtain rfl : k = 2 := by omega
      obtain ⟨g, cp, he, h1, h2, h3, h4⟩ := row_cells (unveil hI).own
      obtain ⟨rfl, rfl⟩ : q = some ⟨g, 0, none⟩ ∧ cq = cp := by simpa using he
      have HX : Hid (∀ W', Below W'.heap.size wr W' → True) := fun _ _ => trivial
      have HC2 := veil h4
      obtain ⟨t0, t1, t2, t3, t4, t5, t6⟩ : wr.cell? ⟨w.heap.size + 1, 0, none⟩ = some (.int .i64 4) ∧ wr.cell? ⟨w.heap.size + 1, 1, none⟩ = some (.int .i64 0) ∧ wr.cell? ⟨w.heap.size + 1, 2, none⟩ = some (.int .i64 0) ∧ wr.cell? ⟨w.heap.size + 1, 3, none⟩ = some (.slice none 0 0) ∧ wr.cell? ⟨w.heap.size + 1, 4, none⟩ = some (.slice (some ⟨g, 0, none⟩) 2 cq) ∧ wr.cell? ⟨w.heap.size + 1, 5, none⟩ = some (.bool false) ∧ wr.cell? ⟨w.heap.size + 1, 6, none⟩ = some (.int .i64 0) :=
        ⟨(unveil hI).t.cell 0, (unveil hI).t.cell 1, (unveil hI).t.cell 2, (unveil hI).t.cell 3, (unveil hI).t.cell 4, (unveil hI).t.cell 5, (unveil hI).t.cell 6⟩
      obtain ⟨z0, z1, z2, z3, z4, z5, z6⟩ : wr.cell? ⟨w.heap.size, 0, none⟩ = some (.int .i64 0) ∧ wr.cell? ⟨w.heap.size, 1, none⟩ = some (.int .i64 0) ∧ wr.cell? ⟨w.heap.size, 2, none⟩ = some (.int .i64 0) ∧ wr.cell? ⟨w.heap.size, 3, none⟩ = some (.slice none 0 0) ∧ wr.cell? ⟨w.heap.size, 4, none⟩ = some (.slice none 0 0) ∧ wr.cell? ⟨w.heap.size, 5, none⟩ = some (.bool false) ∧ wr.cell? ⟨w.heap.size, 6, none⟩ = some (.int .i64 0) :=
        ⟨(unveil hI).z.cell 0, (unveil hI).z.cell 1, (unveil hI).z.cell 2, (unveil hI).z.cell 3, (unveil hI).z.cell 4, (unveil hI).z.cell 5, (unveil hI).z.cell 6⟩
      have zf := (unveil hI).z.frozen
      have zl := (unveil hI).z.lt
      have f0 := zf 0
      have f1 := zf 1
      have f2 := zf 2
      have f3 := zf 3
      have f4 := zf 4
      have f5 := zf 5
      have f6 := zf 6
      clear h4 zf HX
      have HS := veil (put7 (unveil hI).z (unveil hI).own (unveil hI).be (Nat.le_refl _) (.int .i64 4) (.int .i64 0) (.int .i64 0) (.slice none 0 0) (.slice (some ⟨g, 0, none⟩) 2 cq) (.bool false) (.int .i64 0))
      go_wp2_with fail
      obtain ⟨s1, s2, s3⟩ := unveil HS
      obtain ⟨g', cp', he', _, h2', _, h4'⟩ := row_cells s2
      obtain ⟨rfl, rfl⟩ : g = g' ∧ cq = cp' := by simpa using he'
      exact bodyPost_ret (res_T (f := Try.f76) rfl rfl s1 rfl) rfl ⟨g, cq, rfl, lo_in h2' h4' cq, s3⟩
end Go.Proofs.Ytaffldhmgifdoaa
