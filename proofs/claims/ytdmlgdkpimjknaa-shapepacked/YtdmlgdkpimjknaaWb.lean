/-
  ShapePacked: the walk.
-/
import Derived.Test.YtdmlgdkpimjknaaWa
import Derived.Test.YtdmlgdkpimjknaaVd
namespace Go.Proofs.Ytdmlgdkpimjknaa
open Go Go.RowKit Go.Shelf
set_option linter.unusedVariables false
set_option linter.unusedSimpArgs false

theorem setPk_in {B : Nat} {W : World} {t : ShT} (h : t.In B W) : t.setPk.In B W
  | 0 => trivial
  | d + 1 => h (d + 1)
theorem setSh_in {B : Nat} {W : World} {t : ShT} (h : t.In B W) : t.setSh.In B W
  | 0 => trivial
  | d + 1 => h (d + 1)
set_option maxRecDepth 100000 in
set_option maxHeartbeats 8000000 in
theorem packed_other (t : ShT) (w : World) (hin : t.In w.heap.size w) (h : ((chkM t).2 != 0) = true ∨ ((chkM t).2 != 0) = false ∧ (t.sh != 4) = true ∧ (t.sh != 5) = true) :
    Calls Try.prog 9 #[t.v] w fun e w' => e = .returned (.bool true) ∧ Below w.heap.size w w' := by
  have HZ : Hid (∀ W, Below w.heap.size w W → Calls Try.prog 11 #[t.v] W fun r w' => r = .returned (.tuple #[.int .i64 (chkM t).1.1, .int .i64 (chkM t).1.2, .int .i64 (chkM t).2]) ∧ Below W.heap.size W w') := fun W hW => Size10_any t W ((hin.below hW).mono hW.size)
  have HS := veil shown_any
  have HX := veil (tyB_new1 w t)
  clear hin
  generalize (chkM t).1.1 = n at *
  generalize (chkM t).1.2 = a at *
  generalize (chkM t).2 = fe at *
  unfold ShT.v ShT.cs at *
  rcases h with h | ⟨h, h4, h5⟩
  all_goals (
    go_enter Try.func9, Try.ntmps9
    go_wp2_with (first
      | (go_at_call 10; refine (unveil HS _).mono ?_; rintro e w1 ⟨rfl, hb1⟩; obtain ⟨x1, x2⟩ := unveil HX w1 hb1; have XT := veil x1; have XB := veil x2; obtain ⟨y0, y1, y2, y3, y4, y5, y6⟩ := x1.seven; clear x1 x2 hb1)
      | (go_at_call 11; refine (unveil HZ _ (unveil XB)).mono ?_; rintro e w2 ⟨rfl, hb2⟩; have XT2 := veil ((unveil XT).below hb2); have XB2 := veil ((unveil XB).trans (hb2.mono (unveil XB).size)); obtain ⟨z0, z1, z2, z3, z4, z5, z6⟩ := (unveil XT2).seven; clear hb2))
    go_ret
    exact ⟨by simp, unveil XB2⟩)
set_option maxRecDepth 100000 in
set_option maxHeartbeats 20000000 in
theorem packed_main (t : ShT) (w : World) (hin : t.In w.heap.size w) (hrg : rigM 6 t = true) (hs : t.sh = 4 ∨ t.sh = 5) (n a : Int) (hc : chkM t = ((n, a), 0)) :
    Calls Try.prog 9 #[t.v] w fun e w' => e = .returned (.bool true) ∧ Below w.heap.size w w' := by
  obtain ⟨m, b, kk, c, hcP, hcU, hmn, hba, hkn, h40, hfs⟩ := packed_facts t hrg hs n a hc
  have HZ : Hid (∀ W, Below w.heap.size w W → Calls Try.prog 11 #[t.v] W fun r w' => r = .returned (.tuple #[.int .i64 n, .int .i64 a, .int .i64 0]) ∧ Below W.heap.size W w') := fun W hW => by
    have := Size10_any t W ((hin.below hW).mono hW.size)
    rw [hc] at this
    exact this
  have HP : Hid (∀ W, Below w.heap.size w W → Calls Try.prog 11 #[t.setPk.v] W fun r w' => r = .returned (.tuple #[.int .i64 m, .int .i64 b, .int .i64 0]) ∧ Below W.heap.size W w') := fun W hW => by
    have := Size10_any t.setPk W (setPk_in ((hin.below hW).mono hW.size))
    rw [hcP] at this
    exact this
  have HU : Hid (∀ W, Below w.heap.size w W → Calls Try.prog 11 #[t.setSh.v] W fun r w' => r = .returned (.tuple #[.int .i64 kk, .int .i64 c, .int .i64 0]) ∧ Below W.heap.size W w') := fun W hW => by
    have := Size10_any t.setSh W (setSh_in ((hin.below hW).mono hW.size))
    rw [hcU] at this
    exact this
  have HF : Hid (∀ (i : Nat) (h : i < t.fs.length) W, Below w.heap.size w W → Calls Try.prog 11 #[t.fs[i].t.v] W fun r w' => r = .returned (.tuple #[.int .i64 (meaM 5 t.fs[i].t).1, .int .i64 (meaM 5 t.fs[i].t).2, .int .i64 0]) ∧ Below W.heap.size W w') := fun i h W hW => by
    obtain ⟨_, _, _, _, _, _, hfin⟩ := (hin.below hW).fs i h
    have := Size10_any t.fs[i].t W (hfin.mono hW.size)
    rw [(hfs _ (List.getElem_mem _)).1] at this
    exact this
  have HLE : Hid (∀ (i : Nat) (h : i < t.fs.length), t.fs[i].bits < 0 → (meaM 5 t.fs[i].t).1 ≤ kk) := fun i h => (hfs _ (List.getElem_mem _)).2
  have HIN := veil hin
  have HS := veil shown_any
  have HX := veil (tyB_new1 w t)
  have HS2 : Hid (((t.sh != 4) = false) ∨ ((t.sh != 4) = true ∧ (t.sh != 5) = false)) := by rcases hs with h | h <;> simp [Hid, h]
  have hm1 : ¬ m > n := by omega
  have hb1' : ¬ b > a := by omega
  have hk1 : ¬ kk > n := by omega
  clear hin hrg hs hc hcP hcU hfs hmn hba hkn
  have hvP : t.setPk.v = .agg #[.int .i64 t.sh, .int .i64 t.k, .int .i64 t.n, .slice t.op t.of.length t.oc, .slice t.fp t.fs.length t.fc, .bool true, .int .i64 t.al] := rfl
  have hvU : t.setSh.v = .agg #[.int .i64 5, .int .i64 t.k, .int .i64 t.n, .slice t.op t.of.length t.oc, .slice t.fp t.fs.length t.fc, .bool t.pk, .int .i64 t.al] := rfl
  rw [hvP] at HP
  rw [hvU] at HU
  clear hvP hvU
  unfold ShT.v at HZ HF ⊢
  unfold ShT.cs at HZ HX HF ⊢
  go_enter Try.func9, Try.ntmps9
  go_upto_region 3 with (first
    | (go_at_call 10; refine (unveil HS _).mono ?_; rintro e w1 ⟨rfl, hb1⟩; obtain ⟨x1, x2⟩ := unveil HX w1 hb1; have XT := veil x1; have XB := veil x2; obtain ⟨y0, y1, y2, y3, y4, y5, y6⟩ := x1.seven; clear x1 x2 hb1)
    | (go_at_call 11; refine (unveil HZ _ (unveil XB)).mono ?_; rintro e w2 ⟨rfl, hb2⟩; have XT2 := veil ((unveil XT).below hb2); have XB2 := veil ((unveil XB).trans (hb2.mono (unveil XB).size)); obtain ⟨z0, z1, z2, z3, z4, z5, z6⟩ := (unveil XT2).seven; have hlz := (unveil XT2).lt; clear hb2))
  go_cut [37] (fun c wx => c = .bool false ∧ wx = w2)
  case first =>
    rcases unveil HS2 with h4 | ⟨h4, h5⟩
    all_goals
      go_wp2_with fail
      go_meet
      case rel => exact ⟨rfl, rfl⟩
  case rest =>
  obtain ⟨rfl, rfl⟩ := hcut
  clear y0 y1 y2 y3 y4 y5 y6 XT XB HZ HS HX
  go_upto_region 13 with (first
    | (go_at_call 11; with_reducible refine (unveil HP _ ((unveil XB2).alloc (unveil XB2).size _)).mono ?_; rintro e w4 ⟨rfl, hb4⟩; have XT4 := veil (((unveil XT2).alloc _).below hb4); have XB4 := veil (((unveil XB2).alloc (unveil XB2).size _).trans (hb4.mono (by have := (unveil XB2).size; simp; omega))); obtain ⟨q0, q1, q2, q3, q4, q5, q6⟩ := (unveil XT4).seven; have hlq := (unveil XT4).lt; clear hb4)
    | (go_at_call 11; with_reducible refine (unveil HU _ ((unveil XB4).alloc (unveil XB4).size _)).mono ?_; rintro e w5 ⟨rfl, hb5⟩; have XT5 := veil (((unveil XT4).alloc _).below hb5); have XB5 := veil (((unveil XB4).alloc (unveil XB4).size _).trans (hb5.mono (by have := (unveil XB4).size; simp; omega))); obtain ⟨p0, p1, p2, p3, p4, p5, p6⟩ := (unveil XT5).seven; clear hb5))
  clear z0 z1 z2 z3 z4 z5 z6 q0 q1 q2 q3 q4 q5 q6 XT2 XB2 XT4 XB4 HP HU HS2 hm1 hb1'
  go_wp2_with fail
  go_loopw [15] (fun i wr => ∃ (k : Nat), i = .int .i64 k ∧ k ≤ t.fs.length ∧ Hid (Below w5.heap.size w5 wr))
    (fun i wr => t.fs.length - (intOf i).toNat)
  case atStart => exact ⟨0, rfl, Nat.zero_le _, Below.refl _ _⟩
  case round =>
    obtain ⟨k, rfl, hk, hbe⟩ := hrel
    have XBr := veil ((unveil XB5).trans ((unveil hbe).mono (unveil XB5).size))
    have XTr := veil ((unveil XT5).below (unveil hbe))
    obtain ⟨v0, v1, v2, v3, v4, v5, v6⟩ := (unveil XTr).seven
    by_cases hkl : k < t.fs.length
    · obtain ⟨go, oo, hfp, hgo, hco, hnmm, hfin⟩ := ((unveil HIN).below (unveil XBr)).fs k hkl
      obtain ⟨f0, f1, f2, f3, f4, f5, f6, f7, f8⟩ := nine hco
      have HFk := veil (unveil HF k hkl wr (unveil XBr))
      have HLk := veil (unveil HLE k hkl)
      have HB8 : Hid (∀ W, Below wr.heap.size wr W → W.cell? ⟨go, oo + k * 9 + 8, none⟩ = some (.int .i64 t.fs[k].bits) ∧ W.cell? ⟨w.heap.size, 4, none⟩ = some (.slice (some ⟨go, oo, none⟩) t.fs.length t.fc)) := fun W h =>
        ⟨(h.cell (p := ⟨go, oo + k * 9 + 8, none⟩) (World.block_lt_of_cell? wr _ f8)).trans f8, (h.cell (p := ⟨w.heap.size, 4, none⟩) (World.block_lt_of_cell? wr _ v4)).trans (by rw [← hfp]; exact v4)⟩
      rw [hfp]
      rw [hfp] at v4
      clear hco hfin hnmm
      generalize (meaM 5 t.fs[k].t).1 = sz at *
      generalize (meaM 5 t.fs[k].t).2 = sa at *
      generalize t.fs[k] = f at *
      have HBY : Hid (∀ W, Below wr.heap.size wr W → Below w5.heap.size w5 W) := fun W h => (unveil hbe).trans (h.mono (unveil hbe).size)
      clear hfp hgo f0 f8 v0 v1 v2 v3 v5 v6
      generalize f.t.sh = a1 at *
      generalize f.t.k = a2 at *
      generalize f.t.n = a3 at *
      generalize f.t.op = a4 at *
      generalize f.t.of.length = a4l at *
      generalize f.t.oc = a4c at *
      generalize f.t.fp = a5 at *
      generalize f.t.fs.length = a5l at *
      generalize f.t.fc = a5c at *
      generalize f.t.pk = a6 at *
      generalize f.t.al = a7 at *
      generalize f.bits = bi at *
      by_cases hbi : bi < 0
      · have hle : ¬ sz > kk := by have := unveil HLk hbi; omega
        go_wp2_with (go_at_call 11; refine (unveil HFk).mono ?_; rintro e W6 ⟨rfl, hb6⟩; obtain ⟨r8, r4⟩ := unveil HB8 W6 hb6; have HB6 := veil (unveil HBY W6 hb6); clear hb6)
        go_roundw
        case rel => exact ⟨k + 1, by go_num, by omega, HB6⟩
        case measure => simp [intOf]; omega
      · go_wp2_with (go_at_call 11; refine (unveil HFk).mono ?_; rintro e W6 ⟨rfl, hb6⟩; obtain ⟨r8, r4⟩ := unveil HB8 W6 hb6; have HB6 := veil (unveil HBY W6 hb6); clear hb6)
        go_roundw
        case rel => exact ⟨k + 1, by go_num, by omega, HB6⟩
        case measure => simp [intOf]; omega
    · obtain rfl : k = t.fs.length := by omega
      go_wp2_with fail
      go_ret
      exact ⟨by simp, unveil XBr⟩
end Go.Proofs.Ytdmlgdkpimjknaa
