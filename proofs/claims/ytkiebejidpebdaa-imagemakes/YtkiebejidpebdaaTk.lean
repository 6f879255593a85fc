/-
  burinref11.HasUnion.
-/
import Derived.Test.YtkiebejidpebdaaZ6
import Derived.Test.YtkiebejidpebdaaZ5
import Derived.Test.YtkiebejidpebdaaOj
namespace Go.Proofs.Ytkiebejidpebdaa
open Go Go.RowKit Go.Shelf
set_option linter.unusedVariables false
set_option linter.unusedSimpArgs false

/-- Is there a union within a type? -/
def huM : Nat → ShT → Bool
  | 0, _ => false
  | d + 1, t => t.sh == 5 || t.of.any (huM d) || t.fs.any (fun f => huM d f.t)
set_option maxRecDepth 100000 in
set_option maxHeartbeats 20000000 in
theorem hasUnion_step (d : Nat) (t : ShT) (w : World) (hin : t.In w.heap.size w) (hol : t.of.length ≤ 1) (hfl : t.fs.length ≤ 40)
    (ih : ∀ (x : ShT) (W : World), x ∈ t.parts → x.In W.heap.size W → Calls Try.prog 38 #[x.v] W fun e w' => e = .returned (.bool (huM d x)) ∧ Below W.heap.size W w') :
    Calls Try.prog 38 #[t.v] w fun e w' => e = .returned (.bool (huM (d + 1) t)) ∧ Below w.heap.size w w' := by
  have HT0 := veil (And.intro (TyB.new w t) ((Below.refl _ w).alloc (Nat.le_refl _) (.cells t.cs 25)))
  have HOF : Hid (∀ k (hk : k < t.of.length), ∀ W, Below w.heap.size w W → ∃ g o, t.op = some ⟨g, o, none⟩ ∧ g < W.heap.size ∧ (∀ (j : Nat), j < 7 → W.cell? ⟨g, o + k * 7 + j, none⟩ = t.of[k].cs[j]?) ∧ Hid (Calls Try.prog 38 #[t.of[k].v] W fun e w' => e = .returned (.bool (huM d t.of[k])) ∧ Below W.heap.size W w')) := fun k hk W hb => by
    obtain ⟨g, o, e, hg, hc, hx⟩ := (hin.below hb).of k hk
    exact ⟨g, o, e, Nat.lt_of_lt_of_le hg hb.size, hc, ih t.of[k] W (by unfold ShT.parts; exact List.mem_append_left _ (List.getElem_mem hk)) (hx.mono hb.size)⟩
  have HFS : Hid (∀ k (hk : k < t.fs.length), ∀ W, Below w.heap.size w W → ∃ g o, t.fp = some ⟨g, o, none⟩ ∧ g < W.heap.size ∧ (∀ (j : Nat), j < 9 → W.cell? ⟨g, o + k * 9 + j, none⟩ = t.fs[k].cs[j]?) ∧ Hid (Calls Try.prog 38 #[t.fs[k].t.v] W fun e w' => e = .returned (.bool (huM d t.fs[k].t)) ∧ Below W.heap.size W w')) := fun k hk W hb => by
    obtain ⟨g, o, e, hg, hc, _, hx⟩ := (hin.below hb).fs k hk
    exact ⟨g, o, e, Nat.lt_of_lt_of_le hg hb.size, hc, ih t.fs[k].t W (fs_part (List.getElem_mem hk)) (hx.mono hb.size)⟩
  clear hin ih
  cases h5 : t.sh == 5
  · have HHU : Hid (huM (d + 1) t = (t.of.any (huM d) || t.fs.any (fun f => huM d f.t))) := by rw [Hid, huM, h5, Bool.false_or]
    generalize huM (d + 1) t = R at *
    unfold ShT.v ShT.cs at *
    go_enter Try.func38, Try.ntmps38
    go_upto_region 1 with fail
    generalize (w.alloc (.cells #[.int .i64 t.sh, .int .i64 t.k, .int .i64 t.n, .slice t.op t.of.length t.oc, .slice t.fp t.fs.length t.fc, .bool t.pk, .int .i64 t.al] 25)) = W0 at HT0 ⊢
    obtain ⟨y0, y1, y2, y3, y4, y5, y6⟩ := (unveil HT0).1.seven
    have hbl := (unveil HT0).1.lt
    go_upto_region 4 with fail
    clear y0 y1 y2 y3 y4 y5 y6
    go_loopg [3] t.of.length (fun gk i wr => ∃ (k : Nat), gk = t.of.length - k ∧ i = .int .i64 k ∧ k ≤ t.of.length ∧ Hid (TyB wr w.heap.size t ∧ Below w.heap.size w wr) ∧ Hid (∀ j (hj : j < t.of.length), j < k → huM d t.of[j] = false))
    case atStart => exact ⟨0, rfl, rfl, Nat.zero_le _, HT0, fun j hj h => absurd h (Nat.not_lt_zero _)⟩
    case round =>
      obtain ⟨k, rfl, rfl, hk, hT, hno⟩ := hrel
      obtain ⟨y0, y1, y2, y3, y4, y5, y6⟩ := (unveil hT).1.seven
      have hbl := (unveil hT).1.lt
      by_cases hkl : k < t.of.length
      · have hki : (k : Int) < (t.of.length : Int) := by omega
        obtain ⟨g, o, hop, hg, hc, hcl⟩ := unveil HOF k hkl wr (unveil hT).2
        obtain ⟨q0, q1, q2, q3, q4, q5, q6⟩ := seven hc
        rw [hop] at y3
        have HK : Hid (t.of[k] = t.of[k]) := rfl
        have HXK : Hid (∀ x, t.of[k] = x → huM d t.of[k] = huM d x) := fun x e => by rw [e]
        have HKK : Hid (∀ B, huM d t.of[k] = B → (B = false → ∀ j (hj : j < t.of.length), j < k + 1 → huM d t.of[j] = false) ∧ (B = true → R = true)) := fun B hB => ⟨fun hf j hj hjk => by
          rcases Nat.lt_or_ge j k with h | h
          · exact unveil hno j hj h
          · obtain rfl : j = k := by omega
            rw [hB, hf], fun ht => by
          rw [unveil HHU]
          have : t.of.any (huM d) = true := List.any_eq_true.2 ⟨t.of[k], List.getElem_mem hkl, by rw [hB, ht]⟩
          rw [this, Bool.true_or]⟩
        obtain ⟨B, hB⟩ : ∃ B, huM d t.of[k] = B := ⟨_, rfl⟩
        obtain ⟨k1, k2⟩ := unveil HKK B hB
        have K1 := veil k1
        have K2 := veil k2
        rw [hB] at hcl
        clear hop HK HXK HKK hB k1 k2
        generalize t.of[k] = x at *
        cases B
        · go_wp2_with (go_at_call 38; refine (unveil hcl).mono ?_; rintro e W9 ⟨rfl, hb9⟩; have HT9 := veil (And.intro ((unveil hT).1.below hb9) ((unveil hT).2.trans (hb9.mono (unveil hT).2.size))); clear hb9)
          go_roundg (t.of.length - (k + 1))
          case measure => omega
          case rel => exact ⟨k + 1, rfl, by go_num, by omega, HT9, by first | exact unveil K1 rfl | exact unveil K1 trivial⟩
        · have hR : R = true := unveil K2 rfl
          subst hR
          go_wp2_with (go_at_call 38; refine (unveil hcl).mono ?_; rintro e W9 ⟨rfl, hb9⟩; have HT9 := veil ((unveil hT).2.trans (hb9.mono (unveil hT).2.size)); clear hb9)
          go_ret
          exact ⟨rfl, unveil HT9⟩
      · have hnk : ¬ (k : Int) < (t.of.length : Int) := by omega
        have HOA : Hid (t.of.any (huM d) = false) := by
          rw [Hid, List.any_eq_false]
          intro x hx
          obtain ⟨j, hj, e⟩ := List.mem_iff_getElem.1 hx
          rw [← e, unveil hno j hj (by omega)]
          simp
        rw [unveil HOA, Bool.false_or] at HHU
        go_upto_region 9 with fail
        clear y0 y1 y2 y3 y4 y5 y6
        go_loopg [4] t.fs.length (fun gk i ws => ∃ (m : Nat), gk = t.fs.length - m ∧ i = .int .i64 m ∧ m ≤ t.fs.length ∧ Hid (TyB ws w.heap.size t ∧ Below w.heap.size w ws) ∧ Hid (∀ j (hj : j < t.fs.length), j < m → huM d t.fs[j].t = false))
        case atStart => exact ⟨0, rfl, rfl, Nat.zero_le _, hT, fun j hj h => absurd h (Nat.not_lt_zero _)⟩
        case round =>
          rename World => ws
          obtain ⟨m, rfl, rfl, hm, hT2, hno2⟩ := hrel
          obtain ⟨y0, y1, y2, y3, y4, y5, y6⟩ := (unveil hT2).1.seven
          have hbl2 := (unveil hT2).1.lt
          by_cases hml : m < t.fs.length
          · have hmi : (m : Int) < (t.fs.length : Int) := by omega
            obtain ⟨g, o, hop, hg, hc, hcl⟩ := unveil HFS m hml ws (unveil hT2).2
            obtain ⟨q0, q1, q2, q3, q4, q5, q6, q7, q8⟩ := nine (f := t.fs[m]) hc
            clear hc
            rw [hop] at y4
            have HKK : Hid (∀ B, huM d t.fs[m].t = B → (B = false → ∀ j (hj : j < t.fs.length), j < m + 1 → huM d t.fs[j].t = false) ∧ (B = true → R = true)) := fun B hB => ⟨fun hf j hj hjk => by
              rcases Nat.lt_or_ge j m with h | h
              · exact unveil hno2 j hj h
              · obtain rfl : j = m := by omega
                rw [hB, hf], fun ht => by
              rw [unveil HHU]
              exact List.any_eq_true.2 ⟨t.fs[m], List.getElem_mem hml, by rw [hB, ht]⟩⟩
            obtain ⟨B, hB⟩ : ∃ B, huM d t.fs[m].t = B := ⟨_, rfl⟩
            obtain ⟨k1, k2⟩ := unveil HKK B hB
            have K1 := veil k1
            have K2 := veil k2
            rw [hB] at hcl
            clear hop HKK hB k1 k2
            generalize t.fs[m] = x at *
            cases B
            · go_wp2_with (go_at_call 38; refine (unveil hcl).mono ?_; rintro e W9 ⟨rfl, hb9⟩; have HT9 := veil (And.intro ((unveil hT2).1.below hb9) ((unveil hT2).2.trans (hb9.mono (unveil hT2).2.size))); clear hb9)
              go_roundg (t.fs.length - (m + 1))
              case measure => omega
              case rel => exact ⟨m + 1, rfl, by go_num, by omega, HT9, by first | exact unveil K1 rfl | exact unveil K1 trivial⟩
            · have hR : R = true := unveil K2 rfl
              subst hR
              go_wp2_with (go_at_call 38; refine (unveil hcl).mono ?_; rintro e W9 ⟨rfl, hb9⟩; have HT9 := veil ((unveil hT2).2.trans (hb9.mono (unveil hT2).2.size)); clear hb9)
              go_ret
              exact ⟨rfl, unveil HT9⟩
          · have hnk2 : ¬ (m : Int) < (t.fs.length : Int) := by omega
            have HOB : R = false := by
              rw [unveil HHU, List.any_eq_false]
              intro x hx
              obtain ⟨j, hj, e⟩ := List.mem_iff_getElem.1 hx
              rw [← e, unveil hno2 j hj (by omega)]
              simp
            subst HOB
            have HBF : Hid (Below w.heap.size w ws) := (unveil hT2).2
            go_wp2_with fail
            go_ret
            exact ⟨rfl, unveil HBF⟩
  · have HHU : Hid (huM (d + 1) t = true) := by rw [Hid, huM, h5, Bool.true_or, Bool.true_or]
    rw [unveil HHU]
    clear HHU
    unfold ShT.v ShT.cs at *
    go_enter Try.func38, Try.ntmps38
    go_upto_region 1 with fail
    generalize (w.alloc (.cells #[.int .i64 t.sh, .int .i64 t.k, .int .i64 t.n, .slice t.op t.of.length t.oc, .slice t.fp t.fs.length t.fc, .bool t.pk, .int .i64 t.al] 25)) = W0 at HT0 ⊢
    obtain ⟨y0, y1, y2, y3, y4, y5, y6⟩ := (unveil HT0).1.seven
    have HBF : Hid (Below w.heap.size w W0) := (unveil HT0).2
    go_wp2_with fail
    go_ret
    exact ⟨rfl, unveil HBF⟩
theorem hasUnion_any : ∀ (d : Nat) (t : ShT) (w : World), rigM d t = true → t.In w.heap.size w → Calls Try.prog 38 #[t.v] w fun e w' => e = .returned (.bool (huM d t)) ∧ Below w.heap.size w w'
  | 0, _, _, h, _ => by cases h
  | d + 1, t, w, h, hin => by
    obtain ⟨hf, hp⟩ := rig_form h
    obtain ⟨h1, h2⟩ := form_few hf
    exact hasUnion_step d t w hin h1 h2 (fun x W hx hxi => hasUnion_any d x W (hp x hx) hxi)
/-- Without unions none is met on a path. -/
theorem fol_nou : ∀ (p : List Int) (d : Nat) (x : ShT × Int × Int) (fr : Int), d ≤ 6 → GdN d x → huM d x.1 = false → ∀ st ∈ (folM x fr p).1, (st.1.1.sh == 5) = false
  | [], _, _, _, _, _, _, st, h => by simp [folM] at h
  | s :: r, d, x, fr, hd, hg, hu, st, h => by
    cases hs : stpM x s with
    | none => rw [fol_no hs] at h; cases h
    | some q =>
      obtain ⟨j, y, b⟩ := q
      rw [fol_yes hs] at h
      obtain ⟨d', rfl, hgy, _, hyp, hb, hbb⟩ := hg.step hd hs
      rw [huM] at hu
      simp only [Bool.or_eq_false_iff] at hu
      obtain ⟨⟨u1, u2⟩, u3⟩ := hu
      rcases List.mem_cons.1 h with rfl | h
      · exact u1
      · refine fol_nou r d' y (fr + b) (by omega) hgy ?_ st h
        unfold ShT.parts at hyp
        rcases List.mem_append.1 hyp with h1 | h1
        · have := List.any_eq_false.1 u2 _ h1
          simpa using this
        · obtain ⟨f, hf, e⟩ := List.mem_map.1 h1
          have := List.any_eq_false.1 u3 _ hf
          rw [← e]
          simpa using this
end Go.Proofs.Ytkiebejidpebdaa
