/-
  Package shape: formed.
-/
import Derived.Test.YtgomlfaekfabpaaUb
import Derived.Deep.CutRange
import Derived.Deep.DeepCutAuto
namespace Go.Proofs.Ytgomlfaekfabpaa
open Go Go.RowKit
set_option linter.unusedVariables false
set_option linter.unusedSimpArgs false

/-- What formed tells, over what aligns and fieldsFormed tell. -/
def formW (t : ShT) (a g : Bool) : Bool :=
  if t.sh == 1 then (t.n == 0 && t.of.length == 0) && (t.fs.length == 0 && !t.pk && t.al == 0) && decide (0 < sizM t.k)
  else if t.sh == 2 then (t.n == 0 && t.of.length == 0) && (t.fs.length == 0 && !t.pk && t.al == 0) && t.k == 0
  else if t.sh == 3 then (t.fs.length == 0 && !t.pk && t.al == 0) && t.k == 0 && decide (1 ≤ t.n) && t.of.length == 1
  else if t.sh == 4 || t.sh == 5 then (t.n == 0 && t.of.length == 0) && t.k == 0 && a && g
  else false
theorem lenB0 (n : Nat) : ((n : Int) == 0) = (n == 0) := by
  cases h : n == 0
  · simp at h ⊢; omega
  · simp at h ⊢; omega
theorem lenB1 (n : Nat) : ((n : Int) == 1) = (n == 1) := by
  cases h : n == 1
  · simp at h ⊢; omega
  · simp at h ⊢; omega
set_option maxRecDepth 100000 in
set_option maxHeartbeats 8000000 in
theorem formed_any (t : ShT) (w : World) (g : Bool) (hg : ∀ W, Below w.heap.size w W → Calls Try.prog 92 #[.slice t.fp t.fs.length t.fc] W fun e w' => e = .returned (.bool g) ∧ Below W.heap.size W w') :
    Calls Try.prog 80 #[t.v] w fun e w' => e = .returned (.bool (formW t (aliM t.al) g)) ∧ Below w.heap.size w w' := by
  have HS := veil (Size_any t.k)
  have HA := veil (aligns_any t.al)
  have HG := veil hg
  have hsz := siz_cases t.k
  clear hg
  unfold formW ShT.v ShT.cs
  rw [← lenB0 t.of.length, ← lenB0 t.fs.length, ← lenB1 t.of.length]
  have HBE : Hid (∀ o, Below w.heap.size w (w.alloc o)) := fun o => (Below.refl _ w).alloc (Nat.le_refl _) o
  generalize t.sh = sh
  generalize t.k = k at *
  generalize t.n = n
  generalize t.op = op
  generalize t.of.length = ol
  generalize t.oc = oc
  generalize t.fp = fp at *
  generalize t.fs.length = fl at *
  generalize t.fc = fc at *
  generalize t.pk = pk
  generalize aliM t.al = a at *
  generalize t.al = al at *
  generalize sizM k = z at *
  obtain ⟨A, HAE⟩ : ∃ A, Hid ((n == 0 && (ol : Int) == 0) = A) := ⟨_, rfl⟩
  obtain ⟨S, HSE⟩ : ∃ S, Hid (((fl : Int) == 0 && !pk && al == 0) = S) := ⟨_, rfl⟩
  rw [unveil HAE, unveil HSE]
  have HB1 : Hid (∀ w', Below (w.alloc (.cells #[.int .i64 sh, .int .i64 k, .int .i64 n, .slice op ol oc, .slice fp fl fc, .bool pk, .int .i64 al] 25)).heap.size (w.alloc (.cells #[.int .i64 sh, .int .i64 k, .int .i64 n, .slice op ol oc, .slice fp fl fc, .bool pk, .int .i64 al] 25)) w' → Below w.heap.size w w') := fun w' h => (unveil HBE _).trans (h.mono (by simp))
  go_enter Try.func80, Try.ntmps80
  go_upto_region 1 with fail
  go_cut [3] (fun c wx => c = .bool A ∧ wx = w.alloc (.cells #[.int .i64 sh, .int .i64 k, .int .i64 n, .slice op ol oc, .slice fp fl fc, .bool pk, .int .i64 al] 25))
  case first =>
    cases hn : n == 0
    all_goals
      go_wp2_with fail
      go_meet
      case rel => exact ⟨by rw [← unveil HAE, hn]; simp, rfl⟩
  case rest =>
    obtain ⟨rfl, rfl⟩ := hcut
    clear HAE
    go_upto_region 2 with fail
    go_cut [4] (fun c wx => c = .bool S ∧ wx = w.alloc (.cells #[.int .i64 sh, .int .i64 k, .int .i64 n, .slice op ol oc, .slice fp fl fc, .bool pk, .int .i64 al] 25))
    case first =>
      cases hn : (fl : Int) == 0
      · go_wp2_with fail
        go_meet
        case rel => exact ⟨by rw [← unveil HSE, hn]; simp, rfl⟩
      · cases pk
        all_goals
          go_wp2_with fail
          go_meet
          case rel => exact ⟨by rw [← unveil HSE, hn]; simp, rfl⟩
    case rest =>
      obtain ⟨rfl, rfl⟩ := hcut
      clear HSE
      cases h1 : sh == 1
      · cases h2 : sh == 2
        · cases h3 : sh == 3
          · cases h4 : sh == 4
            · cases h5 : sh == 5
              · go_wp2_with fail
                go_ret
                exact ⟨by simp, unveil HBE _⟩
              · cases A
                · go_wp2_with fail
                  go_ret
                  exact ⟨by simp, unveil HBE _⟩
                · cases hk : k == 0
                  · go_wp2_with fail
                    go_ret
                    exact ⟨by simp, unveil HBE _⟩
                  · cases a
                    all_goals
                      go_wp2_with (first
                        | (go_at_call 91; refine (unveil HA _).mono ?_; rintro e w' ⟨rfl, hw'⟩; obtain rfl := hw'.symm)
                        | (go_at_call 92; refine (unveil HG _ (unveil HBE _)).mono ?_; rintro e w' ⟨rfl, hw'⟩))
                      go_ret
                      exact ⟨by simp, by first | exact unveil HBE _ | exact unveil HB1 _ hw'⟩
            · cases A
              · go_wp2_with fail
                go_ret
                exact ⟨by simp, unveil HBE _⟩
              · cases hk : k == 0
                · go_wp2_with fail
                  go_ret
                  exact ⟨by simp, unveil HBE _⟩
                · cases a
                  all_goals
                    go_wp2_with (first
                      | (go_at_call 91; refine (unveil HA _).mono ?_; rintro e w' ⟨rfl, hw'⟩; obtain rfl := hw'.symm)
                      | (go_at_call 92; refine (unveil HG _ (unveil HBE _)).mono ?_; rintro e w' ⟨rfl, hw'⟩))
                    go_ret
                    exact ⟨by simp, by first | exact unveil HBE _ | exact unveil HB1 _ hw'⟩
          · cases S
            · go_wp2_with fail
              go_ret
              exact ⟨by simp, unveil HBE _⟩
            · cases hk : k == 0
              · go_wp2_with fail
                go_ret
                exact ⟨by simp, unveil HBE _⟩
              · by_cases hn : 1 ≤ n
                · have hn' : n ≥ 1 := hn
                  go_wp2_with fail
                  go_ret
                  exact ⟨by simp [hn], unveil HBE _⟩
                · go_wp2_with fail
                  go_ret
                  exact ⟨by simp; omega, unveil HBE _⟩
        · cases A
          · go_wp2_with fail
            go_ret
            exact ⟨by simp, unveil HBE _⟩
          · cases S
            · go_wp2_with fail
              go_ret
              exact ⟨by simp, unveil HBE _⟩
            · go_wp2_with fail
              go_ret
              exact ⟨by simp, unveil HBE _⟩
      · cases A
        · go_wp2_with fail
          go_ret
          exact ⟨by simp, unveil HBE _⟩
        · cases S
          · go_wp2_with fail
            go_ret
            exact ⟨by simp, unveil HBE _⟩
          · go_wp2_with (go_at_call 49; refine (unveil HS _).mono ?_; rintro e w' ⟨rfl, hw'⟩; obtain rfl := hw'.symm)
            go_ret
            exact ⟨by simp, unveil HBE _⟩
end Go.Proofs.Ytgomlfaekfabpaa
