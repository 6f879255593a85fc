/-
  ShapeLies: stands.
-/
import Derived.Test.YtgomlfaekfabpaaUp
namespace Go.Proofs.Ytgomlfaekfabpaa
open Go Go.RowKit Go.Shelf
set_option linter.unusedVariables false
set_option linter.unusedSimpArgs false

/-- A member lies as it must. -/
def Good (f : FdOf ShT) (m : Mb) (n a : Int) : Prop :=
  (f.bits < 0 → m.bit % (8 * a) = 0 ∧ m.bits = 8 * n) ∧ (f.bits = 0 → m.bit % (8 * sizM f.t.k) = 0) ∧ (0 < f.bits → m.bit / (8 * sizM f.t.k) = (m.bit + m.bits - 1) / (8 * sizM f.t.k))
def StP (w : World) (G : Prop) (e : Ending) (w' : World) : Prop := ∃ b : Bool, e = .returned (.bool b) ∧ Below w.heap.size w w' ∧ (G → b = true)
set_option maxRecDepth 100000 in
set_option maxHeartbeats 8000000 in
theorem stands_any (f : FdOf ShT) (m : Mb) (n a : Int) (w : World) (hin : f.t.In w.heap.size w) (hc : chkM f.t = ((n, a), 0)) (hn0 : 0 ≤ n) (hn1 : n ≤ 65537) (ha0 : 1 ≤ a) (ha1 : a ≤ 64)
    (hb0 : 0 ≤ m.bit) (hb1 : m.bit ≤ 20992320) (hs0 : 0 ≤ m.bits) (hs1 : m.bits ≤ 524296) (hbi : 0 ≤ f.bits → m.bits = f.bits ∧ 1 ≤ sizM f.t.k) :
    Calls Try.prog 28 #[f.v, .agg #[.int .i64 m.bit, .int .i64 m.bits, .int .i64 m.k]] w fun e w' => StP w (Good f m n a) e w' := by
  have HZ : Hid (∀ o o', Calls Try.prog 18 #[f.t.v] ((w.alloc o).alloc o') fun r w' => r = .returned (.tuple #[.int .i64 n, .int .i64 a, .int .i64 0]) ∧ Below ((w.alloc o).alloc o').heap.size ((w.alloc o).alloc o') w') := fun o o' => by
    have := Size10_any f.t ((w.alloc o).alloc o') ((hin.below (below_new2 w o o')).mono (by simp; omega))
    rw [hc] at this
    exact this
  have HK := veil (Size_any f.t.k)
  have hsz := siz_cases f.t.k
  have HX : Hid (∀ w1, Below ((w.alloc (.cells f.cs 45)).alloc (.cells #[.int .i64 m.bit, .int .i64 m.bits, .int .i64 m.k] 42)).heap.size ((w.alloc (.cells f.cs 45)).alloc (.cells #[.int .i64 m.bit, .int .i64 m.bits, .int .i64 m.k] 42)) w1 →
      Bk w1 w.heap.size 45 f.cs ∧ Bk w1 (w.heap.size + 1) 42 #[.int .i64 m.bit, .int .i64 m.bits, .int .i64 m.k] ∧ Below w.heap.size w w1) := fun w1 h => by
    have h1 := Bk.new (w.alloc (.cells f.cs 45)) 42 #[.int .i64 m.bit, .int .i64 m.bits, .int .i64 m.k]
    rw [World.size_alloc] at h1
    exact ⟨((Bk.new w _ _).alloc _).below h, h1.below h, (below_new2 w _ _).trans (h.mono (by simp; omega))⟩
  obtain ⟨G, HG⟩ : ∃ G : Prop, Hid (G ↔ Good f m n a) := ⟨_, Iff.rfl⟩
  have HP : Hid (∀ e w', StP w G e w' → StP w (Good f m n a) e w') := fun e w' ⟨b, h1, h2, h3⟩ => ⟨b, h1, h2, fun g => h3 ((unveil HG).2 g)⟩
  refine Calls.mono (R := fun e w' => StP w G e w') ?_ (unveil HP)
  have HG2 : Hid (G → Good f m n a) := (unveil HG).1
  clear HP HG hin hc
  obtain ⟨bt, bs, km, ml⟩ := m
  simp only at *
  unfold FdOf.v FdOf.cs ShT.v ShT.cs at *
  unfold Good at HG2
  simp only at HG2
  generalize f.t.sh = a1 at *
  generalize sizM f.t.k = z at *
  generalize f.t.k = a2 at *
  generalize f.t.n = a3 at *
  generalize f.t.op = a4 at *
  generalize f.t.of.length = a4l at *
  generalize f.t.oc = a4c at *
  generalize f.t.fp = a5 at *
  generalize f.t.fs.length = a5l at *
  generalize f.t.fc = a5c at *
  generalize f.t.pk = a6 at *
  generalize f.t.al = a7 at *
  generalize f.bits = bi at *
  generalize f.nm = nm at *
  by_cases hlt : bi < 0
  · have h8 : ¬ 8 * a = 0 := by omega
    clear hbi hsz
    have HG3 : Hid (G → bt % (8 * a) = 0 ∧ bs = 8 * n) := fun g => (unveil HG2 g).1 hlt
    have hbm : bt.tmod (8 * a) = bt % (8 * a) := Int.tmod_eq_emod_of_nonneg hb0
    clear HG2
    go_enter Try.func28, Try.ntmps28
    go_wp2_with (go_at_call 18; refine (unveil HZ _ _).mono ?_; rintro r w1 ⟨rfl, hb1⟩; obtain ⟨x1, x2, x3⟩ := unveil HX w1 hb1; obtain ⟨c0, c1, c2, c3, c4, c5, c6, c7, c8⟩ := x1.nine; have d0 := x2.cell 0; have d1 := x2.cell 1; simp only [List.getElem?_toArray, List.getElem?_cons_succ, List.getElem?_cons_zero] at d0 d1; have XB := veil x3; clear x1 x2 x3)
    all_goals go_ret
    all_goals (
      refine ⟨_, rfl, unveil XB, fun g => ?_⟩
      obtain ⟨g1, g2⟩ := unveil HG3 g
      first
      | (simp [g2]; done)
      | (exfalso; simp_all; done))
  · obtain ⟨rfl, hz1⟩ := hbi (by omega)
    have hz8 : z ≤ 8 := by omega
    clear hbi hsz
    have hu : ¬ 8 * z = 0 := by omega
    have hge : ¬ bs < 0 := hlt
    have HSX : Hid (∀ w1, Bk w1 w.heap.size 45 #[.string ⟨nm.toArray⟩, .int .i64 a1, .int .i64 a2, .int .i64 a3, .slice a4 a4l a4c, .slice a5 a5l a5c, .bool a6, .int .i64 a7, .int .i64 bs] → Bk w1 (w.heap.size + 1) 42 #[.int .i64 bt, .int .i64 bs, .int .i64 km] →
        w1.cell? ⟨w.heap.size, 2, none⟩ = some (.int .i64 a2) ∧ w1.cell? ⟨w.heap.size, 8, none⟩ = some (.int .i64 bs) ∧ w1.cell? ⟨w.heap.size + 1, 0, none⟩ = some (.int .i64 bt) ∧ w1.cell? ⟨w.heap.size + 1, 1, none⟩ = some (.int .i64 bs)) := fun w1 h1 h2 => ⟨h1.cell 2, h1.cell 8, h2.cell 0, h2.cell 1⟩
    have hqe : (bs == bs) = true := by simp
    cases h0 : bs == 0
    · have hpos : bs > 0 := by have : ¬ bs = 0 := by simpa using h0
                               omega
      have HG3 : Hid (G → bt / (8 * z) = (bt + bs - 1) / (8 * z)) := fun g => (unveil HG2 g).2.2 hpos
      clear HG2
      go_enter Try.func28, Try.ntmps28
      go_wp2_with (first
        | (go_at_call 18; refine (unveil HZ _ _).mono ?_; rintro r w1 ⟨rfl, hb1⟩; obtain ⟨x1, x2, x3⟩ := unveil HX w1 hb1; obtain ⟨c2, c8, d0, d1⟩ := unveil HSX w1 x1 x2; have XB := veil x3; clear x1 x2 x3)
        | (go_at_call 49; refine (unveil HK _).mono ?_; rintro e w' ⟨rfl, hw'⟩; obtain rfl := hw'.symm))
      go_quiet (fail)
      go_wp2_with fail
      go_ret
      refine ⟨_, rfl, below_drewS (unveil XB) _, fun g => ?_⟩
      have g1 := unveil HG3 g
      simp [g1]
    · have HG3 : Hid (G → bt % (8 * z) = 0) := fun g => (unveil HG2 g).2.1 (by simpa using h0)
      clear HG2
      obtain rfl : bs = 0 := by simpa using h0
      clear h0
      have hbm : bt.tmod (8 * z) = bt % (8 * z) := Int.tmod_eq_emod_of_nonneg hb0
      cases hR : bt % (8 * z) == 0
      all_goals (
        go_enter Try.func28, Try.ntmps28
        go_wp2_with (first
          | (go_at_call 18; refine (unveil HZ _ _).mono ?_; rintro r w1 ⟨rfl, hb1⟩; obtain ⟨x1, x2, x3⟩ := unveil HX w1 hb1; obtain ⟨c2, c8, d0, d1⟩ := unveil HSX w1 x1 x2; have XB := veil x3; clear x1 x2 x3)
          | (go_at_call 49; refine (unveil HK _).mono ?_; rintro e w' ⟨rfl, hw'⟩; obtain rfl := hw'.symm))
        go_quiet (fail)
        go_wp2_with fail
        go_ret
        refine ⟨_, rfl, below_drewS (unveil XB) _, fun g => ?_⟩
        have g1 := unveil HG3 g
        first
        | rfl
        | (exfalso; rw [g1] at hR; cases hR)
        | (simp_all; done))
end Go.Proofs.Ytgomlfaekfabpaa
