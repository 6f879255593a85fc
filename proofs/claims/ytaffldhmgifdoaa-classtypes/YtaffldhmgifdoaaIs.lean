/-
  burinlaw12.ClassTypes walked.
-/
import Derived.Test.YtaffldhmgifdoaaIr
import Derived.Test.YtaffldhmgifdoaaIp
namespace Go.Proofs.Ytaffldhmgifdoaa
open Go Go.RowKit Go.Shelf
attribute [local go_sem] Oper.semAt_some
set_option linter.unusedVariables false
set_option linter.unusedSimpArgs false

set_option maxRecDepth 100000 in
set_option maxHeartbeats 8000000 in
theorem sameInts_any (L : List Int) (p q : Option Addr) (c d : Nat) (w : World) (hl : L.length ≤ 1000000) (hp : IsG w.heap.size w p L) (hq : IsG w.heap.size w q L) :
    Calls Try.prog 47 #[.slice p L.length c, .slice q L.length d] w fun e w' => e = .returned (.bool true) ∧ Below w.heap.size w w' := by
  have HA := veil hp
  have HB := veil hq
  clear hp hq
  have i0 : (((L.length : Nat) : Int) != ((L.length : Nat) : Int)) = false := by simp
  go_enter Try.func47, Try.ntmps47
  go_wp2
  go_loopw [5] (fun i wr => ∃ (k : Nat), i = .int .i64 k ∧ k ≤ L.length ∧ Hid (Below w.heap.size w wr)) (fun i wr => L.length - (intOf i).toNat)
  case atStart => exact ⟨0, rfl, by omega, Below.refl _ _⟩
  case round =>
    obtain ⟨k, rfl, hk, hw⟩ := hrel
    by_cases hlt : k < L.length
    · have i1 : (k : Int) < (L.length : Int) := by omega
      obtain ⟨g, o, rfl, hg, a0⟩ := (unveil HA).at k hlt
      obtain ⟨g', o', rfl, hg', b0⟩ := (unveil HB).at k hlt
      replace a0 := ((unveil hw).cell (p := ⟨g, o + k, none⟩) hg).trans a0
      replace b0 := ((unveil hw).cell (p := ⟨g', o' + k, none⟩) hg').trans b0
      have hgw : g < wr.heap.size := Nat.lt_of_lt_of_le hg (unveil hw).size
      have hgw' : g' < wr.heap.size := Nat.lt_of_lt_of_le hg' (unveil hw).size
      generalize L[k] = x at *
      have hxx : (x != x) = false := by simp
      have HD : Hid (∀ n, Below w.heap.size w (wr.drewN n)) := fun n => below_drewS (unveil hw) n
      go_upto_region 6 with fail
      go_quiet (fail)
      go_wp2_with fail
      go_roundw
      case rel => exact ⟨k + 1, by go_num, by omega, unveil HD _⟩
      case measure => simp [intOf]; omega
    · obtain rfl : k = L.length := by omega
      go_wp2_with fail
      go_ret
      exact ⟨rfl, unveil hw⟩
theorem lok_len (t : ShT) : (lokM t).1.2.2.length ≤ 10 := by
  by_cases h : (lokM t).2 = 0
  · exact (lok_ok h).2.2.2
  · unfold lokM at h ⊢
    split
    · simp
    · split
      · simp
      · split
        · simp
        · rename_i h1 h2 h3
          rw [if_neg h1, if_neg h2, if_neg h3] at h
          exact absurd rfl h
set_option maxRecDepth 100000 in
set_option maxHeartbeats 20000000 in
theorem classTypes_walk (t : ShT) (w : World) (hin : t.In w.heap.size w) (hle : t.Len) :
    Calls Try.prog 17 #[t.v] w fun e w' => e = .returned (.bool true) ∧ Below w.heap.size w w' := by
  have HSH := veil shown12_any
  have HC : Hid (∀ W, Below w.heap.size w W → Calls Try.prog 45 #[t.v] W (ClP W (lokM t).1.2.2 (lokM t).2)) := fun W h => Classes_any t W ((hin.below h).mono h.size)
  have HR : Hid (∀ W, Below w.heap.size w W → Calls Try.prog 46 #[t.v] W (ClP W (lokM t).1.2.2 (lokM t).2)) := fun W h => RClasses_any t W ((hin.below h).mono h.size) hle
  have HT0 := veil (tyB_new w t)
  have hlk := lok_len t
  clear hin hle
  generalize lokM t = L at *
  obtain ⟨⟨lz, la, cl⟩, er⟩ := L
  unfold ClP at HC HR
  unfold ShT.v ShT.cs at *
  simp only at *
  go_enter Try.func17, Try.ntmps17
  go_upto_region 1 with fail
  generalize (w.alloc (.cells #[.int .i64 t.sh, .int .i64 t.k, .int .i64 t.n, .slice t.op t.of.length t.oc, .slice t.fp t.fs.length t.fc, .bool t.pk, .int .i64 t.al] 25)) = W0 at HT0 ⊢
  go_upto_region 2 with (go_at_call 44; refine (unveil HSH _).mono ?_; rintro e W1 ⟨rfl, hb1⟩; have HT1 := veil (And.intro ((unveil HT0).1.below hb1) ((unveil HT0).2.trans (hb1.mono (unveil HT0).2.size))); clear hb1)
  obtain ⟨y0, y1, y2, y3, y4, y5, y6⟩ := (unveil HT1).1.seven
  go_upto_region 3 with (go_at_call 45; refine (unveil HC _ (unveil HT1).2).mono ?_; rintro e W2 ⟨p, c, rfl, hi, hb2⟩; have HT2 := veil (And.intro ((unveil HT1).1.below hb2) ((unveil HT1).2.trans (hb2.mono (unveil HT1).2.size))); have HI2 := veil hi; clear hi hb2)
  clear y0 y1 y2 y3 y4 y5 y6
  obtain ⟨y0, y1, y2, y3, y4, y5, y6⟩ := (unveil HT2).1.seven
  go_upto_region 4 with (go_at_call 46; refine (unveil HR _ (unveil HT2).2).mono ?_; rintro e W3 ⟨q, d, rfl, hj, hb3⟩; have HI3 := veil ((unveil HI2).size hb3 hb3.size); have HJ3 := veil hj; have HB3 := veil ((unveil HT2).2.trans (hb3.mono (unveil HT2).2.size)); clear hj hb3)
  clear y0 y1 y2 y3 y4 y5 y6
  have HSI := veil (sameInts_any cl p q c d W3 (by omega) (unveil HI3) (unveil HJ3))
  go_wp2_with (go_at_call 47; refine (unveil HSI).mono ?_; rintro e W4 ⟨rfl, hb4⟩; have HB4 := veil ((unveil HB3).trans (hb4.mono (unveil HB3).size)); clear hb4)
  go_ret
  exact ⟨by simp, unveil HB4⟩
end Go.Proofs.Ytaffldhmgifdoaa
