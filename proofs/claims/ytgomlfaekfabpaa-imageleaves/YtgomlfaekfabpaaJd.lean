/-
  The document's own plain.
-/
import Derived.Test.YtgomlfaekfabpaaJc
import Derived.Test.YtgomlfaekfabpaaWd
namespace Go.Proofs.Ytgomlfaekfabpaa
open Go Go.RowKit
set_option linter.unusedVariables false
set_option linter.unusedSimpArgs false

/-- A type at a place. -/
def SevAt (W : World) (g o : Nat) (y : ShT) : Prop :=
  W.cell? ⟨g, o, none⟩ = some (.int .i64 y.sh) ∧ W.cell? ⟨g, o + 1, none⟩ = some (.int .i64 y.k) ∧ W.cell? ⟨g, o + 2, none⟩ = some (.int .i64 y.n) ∧ W.cell? ⟨g, o + 3, none⟩ = some (.slice y.op y.of.length y.oc) ∧
    W.cell? ⟨g, o + 4, none⟩ = some (.slice y.fp y.fs.length y.fc) ∧ W.cell? ⟨g, o + 5, none⟩ = some (.bool y.pk) ∧ W.cell? ⟨g, o + 6, none⟩ = some (.int .i64 y.al)
theorem first_at {t : ShT} {w : World} (hin : t.In w.heap.size w) (hl : t.of.length = 1) : ∃ y g o, t.op = some ⟨g, o, none⟩ ∧ t.of = [y] ∧ ∀ W, Below w.heap.size w W → SevAt W g o y ∧ g < W.heap.size := by
  obtain ⟨g, o, e, hg, hc, _⟩ := hin.of 0 (by omega)
  obtain ⟨y, hof⟩ := List.length_eq_one_iff.1 hl
  have hy : t.of[0]'(by omega) = y := by simp [hof]
  rw [hy] at hc
  simp only [Nat.zero_mul, Nat.add_zero] at hc
  refine ⟨y, g, o, e, hof, fun W hW => ⟨?_, Nat.lt_of_lt_of_le hg hW.size⟩⟩
  have h7 : ∀ (j : Nat), j < 7 → W.cell? ⟨g, o + j, none⟩ = y.cs[j]? := fun j hj => (hW.cell (p := ⟨g, o + j, none⟩) hg).trans (hc j hj)
  exact seven h7
/-- What plain tells, over what its calls tell. -/
def plaW (sh k n : Int) (ol : Int) (B ki al rf x : Bool) : Bool :=
  if sh == 1 then B && ki && n == 0 && ol == 0
  else if sh == 2 then B && k == 0 && n == 0 && ol == 0
  else if sh == 3 then (if B && k == 0 && decide (1 ≤ n) && ol == 1 then x else false)
  else if sh == 4 || sh == 5 then (if k == 0 && n == 0 && ol == 0 && al then rf else false)
  else false
set_option maxRecDepth 100000 in
set_option maxHeartbeats 8000000 in
theorem plain_low (t : ShT) (w : World) : Calls Try.prog 41 #[t.v, .int .i64 0] w fun e w' => e = .returned (.bool false) ∧ Below w.heap.size w w' := by
  unfold ShT.v ShT.cs
  go_enter Try.func41, Try.ntmps41
  go_wp2_with fail
  go_ret
  exact ⟨rfl, (Below.refl _ w).alloc (Nat.le_refl _) _⟩
set_option maxRecDepth 100000 in
set_option maxHeartbeats 20000000 in
theorem plain_walk (t : ShT) (D : Int) (h1 : 1 ≤ D) (h6 : D ≤ 6) (w : World) (hin : t.In w.heap.size w) (x rf : Bool)
    (hx : ∀ y, t.of = [y] → ∀ W, Below w.heap.size w W → Calls Try.prog 41 #[y.v, .int .i64 (D - 1)] W fun e w' => e = .returned (.bool x) ∧ Below W.heap.size W w')
    (hf : ∀ W, Below w.heap.size w W → Calls Try.prog 67 #[.slice t.fp t.fs.length t.fc, .int .i64 (D - 1)] W fun e w' => e = .returned (.bool rf) ∧ Below W.heap.size W w') :
    Calls Try.prog 41 #[t.v, .int .i64 D] w fun e w' => e = .returned (.bool (plaW t.sh t.k t.n t.of.length ((t.fs.length : Int) == 0 && !t.pk && t.al == 0) (kiM t.k) (aliM t.al) rf x)) ∧ Below w.heap.size w w' := by
  have HI := veil (RIs_any t.k)
  have HA := veil (isAlign_any t.al)
  have HF := veil hf
  have HW0 := veil (And.intro (TyB.new w t).seven ((Below.refl _ w).alloc (Nat.le_refl _) (.cells t.cs 25)))
  have hD : ¬ D < 1 := by omega
  have HARR : Hid (t.of.length = 1 → ∃ y g o, t.op = some ⟨g, o, none⟩ ∧ (∀ W, Below w.heap.size w W → SevAt W g o y ∧ g < W.heap.size) ∧ ∀ W, Below w.heap.size w W → Calls Try.prog 41 #[y.v, .int .i64 (D - 1)] W fun e w' => e = .returned (.bool x) ∧ Below W.heap.size W w') := fun hl => by
    obtain ⟨y, g, o, e, hof, hh⟩ := first_at hin hl
    exact ⟨y, g, o, e, hh, hx y hof⟩
  clear hx hf hin
  unfold ShT.v ShT.cs at HW0 ⊢
  unfold plaW
  obtain ⟨B, hB⟩ : ∃ B, ((t.fs.length : Int) == 0 && !t.pk && t.al == 0) = B := ⟨_, rfl⟩
  rw [hB]
  have HBB := veil hB
  clear hB
  generalize t.sh = sh at *
  generalize kiM t.k = ki at *
  generalize t.k = k at *
  generalize t.n = n at *
  generalize t.op = op at *
  generalize t.of.length = ol at *
  generalize t.oc = oc at *
  generalize t.fp = fp at *
  generalize t.fs.length = fl at *
  generalize t.fc = fc at *
  generalize t.pk = pk at *
  generalize aliM t.al = a at *
  generalize t.al = al at *
  go_enter Try.func41, Try.ntmps41
  go_upto_region 3 with fail
  generalize (w.alloc (.cells #[.int .i64 sh, .int .i64 k, .int .i64 n, .slice op ol oc, .slice fp fl fc, .bool pk, .int .i64 al] 25)) = W0 at HW0 ⊢
  obtain ⟨⟨y0, y1, y2, y3, y4, y5, y6⟩, hb0⟩ := unveil HW0
  have HB0 := veil hb0
  have HB1 : Hid (∀ w', Below W0.heap.size W0 w' → Below w.heap.size w w') := fun w' h => (unveil HB0).trans (h.mono (unveil HB0).size)
  clear HW0 hb0
  go_cut [5] (fun c wx => c = .bool B ∧ wx = W0)
  case first =>
    clear HARR HF HA HI HB0 HB1
    cases hn : (fl : Int) == 0
    · go_wp2_with fail
      go_meet
      case rel => exact ⟨by rw [← unveil HBB, hn]; simp, rfl⟩
    · cases pk
      all_goals
        go_wp2_with fail
        go_meet
        case rel => exact ⟨by rw [← unveil HBB, hn]; simp, rfl⟩
  case rest =>
    obtain ⟨rfl, rfl⟩ := hcut
    clear HBB
    cases h1 : sh == 1
    · cases h2 : sh == 2
      · cases h3 : sh == 3
        · cases h4 : sh == 4
          · cases h5 : sh == 5
            · go_wp2_with fail
              go_ret
              exact ⟨by simp, unveil HB0⟩
            · cases hk : k == 0
              · have hk' : (k != 0) = true := by simp [bne, hk]
                go_wp2_with fail
                go_ret
                exact ⟨by simp, unveil HB0⟩
              · have hk' : (k != 0) = false := by simp [bne, hk]
                cases hn : n == 0
                · have hn' : (n != 0) = true := by simp [bne, hn]
                  go_wp2_with fail
                  go_ret
                  exact ⟨by simp, unveil HB0⟩
                · have hn' : (n != 0) = false := by simp [bne, hn]
                  by_cases ho : ol > 0
                  · have ho' : (ol : Int) > 0 := by omega
                    have ho2 : ((ol : Int) == 0) = false := by simp; omega
                    go_wp2_with fail
                    go_ret
                    exact ⟨by simp [ho2], unveil HB0⟩
                  · obtain rfl : ol = 0 := by omega
                    cases a
                    all_goals
                      go_wp2_with (first
                        | (go_at_call 66; refine (unveil HA _).mono ?_; rintro e w' ⟨rfl, hw'⟩; obtain rfl := hw'.symm)
                        | (go_at_call 67; refine (unveil HF _ (unveil HB0)).mono ?_; rintro e w' ⟨rfl, hw'⟩))
                      go_ret
                      exact ⟨by simp, by first | exact unveil HB0 | exact unveil HB1 _ hw'⟩
          · cases hk : k == 0
            · have hk' : (k != 0) = true := by simp [bne, hk]
              go_wp2_with fail
              go_ret
              exact ⟨by simp, unveil HB0⟩
            · have hk' : (k != 0) = false := by simp [bne, hk]
              cases hn : n == 0
              · have hn' : (n != 0) = true := by simp [bne, hn]
                go_wp2_with fail
                go_ret
                exact ⟨by simp, unveil HB0⟩
              · have hn' : (n != 0) = false := by simp [bne, hn]
                by_cases ho : ol > 0
                · have ho' : (ol : Int) > 0 := by omega
                  have ho2 : ((ol : Int) == 0) = false := by simp; omega
                  go_wp2_with fail
                  go_ret
                  exact ⟨by simp [ho2], unveil HB0⟩
                · obtain rfl : ol = 0 := by omega
                  cases a
                  all_goals
                    go_wp2_with (first
                      | (go_at_call 66; refine (unveil HA _).mono ?_; rintro e w' ⟨rfl, hw'⟩; obtain rfl := hw'.symm)
                      | (go_at_call 67; refine (unveil HF _ (unveil HB0)).mono ?_; rintro e w' ⟨rfl, hw'⟩))
                    go_ret
                    exact ⟨by simp, by first | exact unveil HB0 | exact unveil HB1 _ hw'⟩
        · cases B
          · go_wp2_with fail
            go_ret
            exact ⟨by simp, unveil HB0⟩
          · cases hk : k == 0
            · have hk' : (k != 0) = true := by simp [bne, hk]
              go_wp2_with fail
              go_ret
              exact ⟨by simp, unveil HB0⟩
            · have hk' : (k != 0) = false := by simp [bne, hk]
              by_cases hn : n < 1
              · go_wp2_with fail
                go_ret
                exact ⟨by simp [show ¬ 1 ≤ n by omega], unveil HB0⟩
              · by_cases ho : ol = 1
                · obtain ⟨y, g, o, rfl, hc, hy⟩ := unveil HARR ho
                  subst ho
                  have HY := veil (hy _ (unveil HB0))
                  obtain ⟨⟨c0, c1, c2, c3, c4, c5, c6⟩, hgl⟩ := hc _ (unveil HB0)
                  clear hy hc HARR
                  unfold ShT.v ShT.cs at HY
                  go_wp2_with (go_at_call 41; refine (unveil HY).mono ?_; rintro e w' ⟨rfl, hw'⟩)
                  go_ret
                  exact ⟨by simp [show 1 ≤ n by omega], unveil HB1 _ hw'⟩
                · have ho1 : ((ol : Int) == 1) = false := by simp; omega
                  have ho2 : ((ol : Int) != 1) = true := by simp [bne, ho1]
                  go_wp2_with fail
                  go_ret
                  exact ⟨by simp [ho1], unveil HB0⟩
      · cases B
        · go_wp2_with fail
          go_ret
          exact ⟨by simp, unveil HB0⟩
        · cases hk : k == 0
          · go_wp2_with fail
            go_ret
            exact ⟨by simp, unveil HB0⟩
          · cases hn : n == 0
            all_goals
              go_wp2_with fail
              go_ret
              exact ⟨by simp, unveil HB0⟩
    · cases B
      · go_wp2_with fail
        go_ret
        exact ⟨by simp, unveil HB0⟩
      · cases ki
        · go_wp2_with (go_at_call 65; refine (unveil HI _).mono ?_; rintro e w' ⟨rfl, hw'⟩; obtain rfl := hw'.symm)
          go_ret
          exact ⟨by simp, unveil HB0⟩
        · cases hn : n == 0
          all_goals
            go_wp2_with (go_at_call 65; refine (unveil HI _).mono ?_; rintro e w' ⟨rfl, hw'⟩; obtain rfl := hw'.symm)
            go_ret
            exact ⟨by simp, unveil HB0⟩
end Go.Proofs.Ytgomlfaekfabpaa
