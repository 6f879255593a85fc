/-
  burinlaw11.ImageMakes walked; sets handed in, whose paths are no longer than their room.
-/
import Derived.Test.YtkiebejidpebdaaSi
import Derived.Test.YtkiebejidpebdaaOt
import Derived.Test.YtkiebejidpebdaaOu
import Derived.Test.YtkiebejidpebdaaOv
namespace Go.Proofs.Ytkiebejidpebdaa
open Go Go.RowKit Go.Shelf
set_option linter.unusedVariables false
set_option linter.unusedSimpArgs false

theorem SeG.first {B : Nat} {W : World} {q : Option Addr} {l : List SetT} (h : SeG B W q l) (n : Nat) : SeG B W q (l.take n) := fun i hi => by
  have hi' : i < l.length := by rw [List.length_take] at hi; omega
  rw [List.getElem_take]
  exact h i hi'
set_option maxRecDepth 100000 in
theorem open_setsL {H : Type} {enc : TypeId × Value → H} {W : World} {fuel : Nat} {cs : List Value} {x : DataW H × List MemPlace} (h : DataW.trod enc Try.prog W 0 (fun _ => true) true fuel 51 cs = some x) :
    ∃ (q : Option Addr) (cap : Nat) (l : List SetT), cs = [.slice q l.length cap] ∧ SeG W.heap.size W q l ∧ l.length ≤ cap ∧ cap ≤ maxLen ∧ (∀ s ∈ l, s.path.length ≤ s.cap) := by
  rcases Go.Deep.open_slice Try.underlying51 h with ⟨hc, hx⟩ | ⟨a, len, cap, m, n, D, Pl, hc, _, hl, hm, hmm, hx, hall⟩
  · exact ⟨none, 0, [], by simpa using hc, fun i hi => absurd hi (Nat.not_lt_zero _), Nat.zero_le _, Nat.zero_le _, fun s hs => by cases hs⟩
  · simp only [if_true] at hmm
    subst hmm
    have key : ∀ i, ∃ t : SetT, i < len → W.cell? (a.add (i * 2)) = some (.slice t.p t.path.length t.cap) ∧ W.cell? (a.add (i * 2 + 1)) = some (.int .i64 t.v) ∧ PaG W.heap.size W t.p t.path ∧ t.path.length ≤ maxLen ∧ t.path.length ≤ t.cap := fun i => by
      by_cases hi : i < len
      · obtain ⟨cs', h1, h2⟩ := hall i (by omega)
        rw [cellsTe] at h1
        obtain ⟨_, hlen, hcell⟩ := World.cells?_some h1
        obtain ⟨zs, kz, _, hzy, hzl, hzx, hzf⟩ := DataW.trod_struct Try.underlying64 h2
        rw [cellsTe] at hzl
        match zs, hzx, cs', hzl with
        | [z0, z1], _, [u0, u1], _ =>
        have r0 := hzf 0 _ rfl
        have r1 := hzf 1 _ rfl
        simp [cellsTi, cellsT2] at r0 r1
        obtain ⟨v, q1, _, _⟩ := DataW.trod_int Try.underlying2 r1
        obtain ⟨p, cp, path, q0, hp, hpl, hpc⟩ := open_pathL r0
        simp only [List.cons.injEq, and_true] at q0 q1
        refine ⟨⟨p, cp, path, v⟩, fun _ => ⟨?_, ?_, hp, hpl, hpc⟩⟩
        · have := hcell 0 (by omega)
          rw [Go.Deep.add_add, Nat.add_zero] at this
          rw [this, q0]
          rfl
        · have := hcell 1 (by omega)
          rw [Go.Deep.add_add] at this
          rw [this, q1]
          rfl
      · exact ⟨⟨none, 0, [], 0⟩, fun h => absurd h hi⟩
    obtain ⟨G, hG⟩ := pick_funS key
    have hlen : ((List.range len).map G).length = len := by simp
    refine ⟨some a, m, (List.range len).map G, by rw [hlen]; simpa using hc, fun i hi => ?_, by rw [hlen]; exact hl, hm, fun s hs => ?_⟩
    rotate_left 1
    · obtain ⟨i, hi, rfl⟩ := List.mem_map.1 hs
      exact (hG i (List.mem_range.1 hi)).2.2.2.2
    have hi' : i < len := by simpa using hi
    obtain ⟨bb, off, spot⟩ := a
    have c0 := (hG 0 (by omega)).1
    have hspot : spot = none := by simpa [Addr.add] using World.cell?_spot c0
    subst hspot
    obtain ⟨e0, e1, e2, e3, _⟩ := hG i hi'
    rw [add_plainS] at e0 e1
    simp only [List.getElem_map, List.getElem_range]
    exact ⟨bb, off, rfl, World.block_lt_of_cell? W _ e0, e0, by rw [Nat.add_assoc]; exact e1, e2, e3⟩
set_option maxRecDepth 100000 in
set_option maxHeartbeats 20000000 in
theorem imageMakes_walk (t : ShT) (q : Option Addr) (cap : Nat) (l : List SetT) (w : World) (hin : t.In w.heap.size w) (hle : t.Len) (hs : SeG w.heap.size w q l) (hlc : l.length ≤ cap) (hcm : cap ≤ maxLen) (hsl : ∀ s ∈ l, s.path.length ≤ s.cap) :
    Calls Try.prog 11 #[t.v, .slice q l.length cap] w fun e w' => e = .returned (.bool true) ∧ Below w.heap.size w w' := by
  have HSH := veil shown11_any
  have hs' := hs.first 100
  have hsl' : ∀ s ∈ l.take 100, s.path.length ≤ s.cap := fun s h => hsl s (List.mem_of_mem_take h)
  have hl100 : (l.take 100).length ≤ 100 := by rw [List.length_take]; omega
  have hl' : (l.take 100).length ≤ cap := by rw [List.length_take]; omega
  have hmin : min (l.length : Int) 100 = ((l.take 100).length : Int) := by rw [List.length_take]; omega
  have hmin2 : (if (l.length : Int) ≤ 100 then (l.length : Int) else 100) = ((l.take 100).length : Int) := by rw [List.length_take]; split <;> omega
  have hmin3 : (if (100 : Int) < (l.length : Int) then (100 : Int) else (l.length : Int)) = ((l.take 100).length : Int) := by rw [List.length_take]; split <;> omega
  clear hs hsl
  have hll : ((l.take 100).length : Int) ≤ (l.length : Int) := by rw [List.length_take]; omega
  generalize l.take 100 = LL at *
  have HMK : Hid (∀ W, Below w.heap.size w W → Calls Try.prog 32 #[t.v, .slice q LL.length cap] W fun e w' => e = .returned (.tuple #[.string (mkM t LL).1, .int .i64 (mkM t LL).2.1, .int .i64 (mkM t LL).2.2]) ∧ Below W.heap.size W w') := fun W h => Make_any t q cap LL W ((hin.below h).mono h.size) ((hs'.below h).mono h.size) (by omega)
  have HRM : Hid (∀ W, Below w.heap.size w W → Calls Try.prog 33 #[t.v, .slice q LL.length cap] W fun e w' => e = .returned (.tuple #[.string (mkM t LL).1, .int .i64 (mkM t LL).2.1, .int .i64 (mkM t LL).2.2]) ∧ Below W.heap.size W w') := fun W h => RMake_any t q cap LL W ((hin.below h).mono h.size) hle ((hs'.below h).mono h.size) (by omega) hsl'
  have HT0 := veil (And.intro (TyB.new w t) ((Below.refl _ w).alloc (Nat.le_refl _) (.cells t.cs 25)))
  clear hin hs' hle hsl'
  generalize mkM t LL = MK at *
  obtain ⟨ma, me, mi⟩ := MK
  simp only at HMK HRM
  unfold ShT.v ShT.cs at *
  go_enter Try.func11, Try.ntmps11
  go_upto_region 1 with fail
  generalize (w.alloc (.cells #[.int .i64 t.sh, .int .i64 t.k, .int .i64 t.n, .slice t.op t.of.length t.oc, .slice t.fp t.fs.length t.fc, .bool t.pk, .int .i64 t.al] 25)) = W0 at HT0 ⊢
  go_upto_region 2 with (go_at_call 29; refine (unveil HSH _).mono ?_; rintro e W1 ⟨rfl, hb1⟩; have HT1 := veil (And.intro ((unveil HT0).1.below hb1) ((unveil HT0).2.trans (hb1.mono (unveil HT0).2.size))); clear hb1)
  go_upto_region 3 with fail
  obtain ⟨y0, y1, y2, y3, y4, y5, y6⟩ := (unveil HT1).1.seven
  clear hmin hmin2 hmin3 hll HSH
  go_upto_region 4 with (go_at_call 32; refine (unveil HMK _ (unveil HT1).2).mono ?_; rintro e W2 ⟨rfl, hb2⟩; have HT2 := veil (And.intro ((unveil HT1).1.below hb2) ((unveil HT1).2.trans (hb2.mono (unveil HT1).2.size))); clear hb2)
  clear y0 y1 y2 y3 y4 y5 y6
  obtain ⟨y0, y1, y2, y3, y4, y5, y6⟩ := (unveil HT2).1.seven
  go_upto_region 5 with (go_at_call 33; refine (unveil HRM _ (unveil HT2).2).mono ?_; rintro e W3 ⟨rfl, hb3⟩; have HT3 := veil ((unveil HT2).2.trans (hb3.mono (unveil HT2).2.size)); clear hb3)
  clear y0 y1 y2 y3 y4 y5 y6
  go_wp2_with fail
  go_ret
  exact ⟨rfl, unveil HT3⟩
end Go.Proofs.Ytkiebejidpebdaa
