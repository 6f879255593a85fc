/-
  ShapeArrays: the numbers.
  burinlaw10.ShapeArrays: its walk.
-/
import Derived.Test.YtkiebejidpebdaaZ9
import Derived.Test.YtkiebejidpebdaaZ6
namespace Go.Proofs.Ytkiebejidpebdaa
open Go Go.RowKit Go.Shelf
set_option linter.unusedVariables false
set_option linter.unusedSimpArgs false

/-- A spot, so many bits on. -/
def shM (s : Int) (m : Mb) : Mb := ⟨m.bit + s, m.bits, m.k, m.al⟩
theorem lea_shift : ∀ (d : Nat) (t : ShT) (fr s : Int), leaM d t (fr + s) = (leaM d t fr).map (shM s)
  | 0, _, _, _ => rfl
  | d + 1, t, fr, s => by
    rw [leaM, leaM]
    split
    · rfl
    · split
      · rfl
      · split
        · cases t.of with
          | nil => rfl
          | cons x r =>
            simp only
            rw [List.map_flatMap]
            congr 1
            funext i
            rw [← lea_shift d x]
            congr 1
            omega
        · rw [List.map_flatMap]
          congr 1
          funext x
          split
          · rfl
          · split
            · simp only [List.map_cons, List.map_nil, shM]
              congr 2
              omega
            · rw [← lea_shift d x.1.t]
              congr 1
              omega
theorem flat_congr {α β : Type} {f g : α → List β} : ∀ (l : List α), (∀ x ∈ l, f x = g x) → l.flatMap f = l.flatMap g
  | [], _ => rfl
  | x :: r, h => by rw [List.flatMap_cons, List.flatMap_cons, h x (by simp), flat_congr r (fun y hy => h y (by simp [hy]))]
theorem lea_up : ∀ (d : Nat) (t : ShT) (fr : Int), rigM d t = true → leaM (d + 1) t fr = leaM d t fr
  | 0, _, _, h => by cases h
  | d + 1, t, fr, h => by
    obtain ⟨hf, hp⟩ := rig_form h
    rw [leaM, leaM]
    split
    · rfl
    · split
      · rfl
      · split
        · cases hof : t.of with
          | nil => rfl
          | cons x r =>
            have hx := hp x (by unfold ShT.parts; rw [hof]; simp)
            simp only
            congr 1
            funext i
            rw [(rig_up d x hx).2, lea_up d x _ hx]
        · have hml : t.ml (meaM (d + 1)) = t.ml (meaM d) := by
            unfold ShT.ml
            exact ml_congr _ _ _ _ (fun f hfm => (rig_up d f.t (hp _ (fs_part hfm))).2)
          rw [hml]
          refine flat_congr _ (fun x hx => ?_)
          have hxm : x.1 ∈ t.fs := by
            have := ml_fst (meaM d) t.pk (t.sh == 4) t.fs 0
            rw [← this]
            exact List.mem_map.2 ⟨x, hx, rfl⟩
          split
          · rfl
          · split
            · rfl
            · exact lea_up d _ _ (hp _ (fs_part hxm))
theorem lea_bnd : ∀ (d : Nat) (t : ShT) (fr : Int), rigM d t = true → (meaM d t).1 ≤ 65536 → ∀ m ∈ leaM d t fr, fr ≤ m.bit ∧ m.bit ≤ fr + 33554432 * d
  | 0, _, _, h, _ => by cases h
  | d + 1, t, fr, h, hsm => by
    obtain ⟨hfo, hpt⟩ := rig_form h
    intro m hm
    rw [meaM] at hsm
    rw [leaM] at hm
    cases h1 : t.sh == 1
    · cases h2 : t.sh == 2
      · cases h3 : t.sh == 3
        · simp only [h1, h2, h3, Bool.false_eq_true, if_false] at hm hsm
          obtain ⟨_, _, _, _, ha, hs⟩ := form_struct hfo h1 h2 h3
          obtain ⟨f1, f2, f3, _⟩ := ffs_all hs
          have hok : ∀ f ∈ t.fs, FOk f (meaM d f.t) := fun f hfm => fok_of (mea_ok d) (f3 f hfm) (hpt _ (fs_part hfm))
          obtain ⟨x, hx, hmx⟩ := List.mem_flatMap.1 hm
          have hxm : x.1 ∈ t.fs := by
            have := ml_fst (meaM d) t.pk (t.sh == 4) t.fs 0
            rw [← this]
            exact List.mem_map.2 ⟨x, hx, rfl⟩
          obtain ⟨m1, m2, m3, _, _⟩ := ml_ok (meaM d) t.pk (t.sh == 4) t.fs 0 0 hok (by omega) (by omega) (by omega) x hx
          split at hmx
          · cases hmx
          · split at hmx
            · simp only [List.mem_singleton] at hmx
              subst hmx
              simp only
              push_cast
              omega
            · have hsx : (meaM d x.1.t).1 ≤ 65536 := by
                apply Classical.byContradiction
                intro hc
                have := big_mem hok f1 (ali_le ha).2 hxm (by omega)
                omega
              have := lea_bnd d x.1.t _ (hpt _ (fs_part hxm)) hsx m hmx
              push_cast
              omega
        · simp only [h1, h2, h3, Bool.false_eq_true, if_false, if_true] at hm hsm
          obtain ⟨_, q1, q2, _⟩ := form_arr hfo h3
          obtain ⟨x, hof⟩ := List.length_eq_one_iff.1 q2
          rw [hof] at hm hsm
          simp only at hm hsm
          have hx : rigM d x = true := hpt x (by unfold ShT.parts; rw [hof]; simp)
          have hz := mea_pos d x hx
          obtain ⟨a1, a2, a3⟩ := arr_small q1 hz hsm
          obtain ⟨i, hi, hmi⟩ := List.mem_flatMap.1 hm
          have hin : (i : Int) < t.n := by have := List.mem_range.1 hi; omega
          have hi2 := a3 i (by omega) hin
          have hi3 : 0 ≤ (i : Int) * (8 * (meaM d x).1) := Int.mul_nonneg (by omega) (by omega)
          have := lea_bnd d x _ hx a2 m hmi
          push_cast
          omega
      · simp only [h1, h2, Bool.false_eq_true, if_false, if_true, List.mem_singleton] at hm
        subst hm
        simp only
        push_cast
        omega
    · simp only [h1, if_true, List.mem_singleton] at hm
      subst hm
      simp only
      push_cast
      omega
/-- Lists laid one behind the other. -/
theorem flat_len (O : List Mb) (f : Nat → Mb → Mb) : ∀ M, ((List.range M).flatMap (fun i => O.map (f i))).length = O.length * M
  | 0 => by simp
  | M + 1 => by
    rw [List.range_succ, List.flatMap_append, List.length_append, flat_len O f M]
    simp [Nat.mul_add]
theorem flat_get (O : List Mb) (f : Nat → Mb → Mb) (hO : 0 < O.length) : ∀ (M i : Nat), i < O.length * M → ((List.range M).flatMap (fun i => O.map (f i)))[i]? = (O[i % O.length]?).map (f (i / O.length))
  | 0, i, h => by simp at h
  | M + 1, i, h => by
    rw [List.range_succ, List.flatMap_append]
    by_cases hi : i < O.length * M
    · rw [List.getElem?_append_left (by rw [flat_len]; exact hi), flat_get O f hO M i hi]
    · rw [List.getElem?_append_right (by rw [flat_len]; omega), flat_len]
      simp only [List.flatMap_cons, List.flatMap_nil, List.append_nil, List.getElem?_map]
      have h1 : i - O.length * M < O.length := by rw [Nat.mul_add, Nat.mul_one] at h; omega
      have h2 : i = (i - O.length * M) + O.length * M := by omega
      have h3 : i % O.length = i - O.length * M := by
        rw [h2, Nat.add_mul_mod_self_left, Nat.mod_eq_of_lt h1]
        omega
      have h4 : i / O.length = M := by
        rw [h2, Nat.add_mul_div_left _ _ hO, Nat.div_eq_of_lt h1, Nat.zero_add]
      rw [h3, h4]
def arrT (g : Nat) (m : Int) (t : ShT) : ShT := .mk 3 0 m (some ⟨g, 0, none⟩) 1 [t] none 0 [] false 0
theorem arr_all {g : Nat} {m : Int} {t : ShT} (h : ((chkM (arrT g m t)).2 == 0) = true) : leaM 6 (arrT g m t) 0 = (List.range m.toNat).flatMap (fun (i : Nat) => (leaM 6 t 0).map (shM ((i : Int) * (8 * (meaM 6 t).1)))) := by
  obtain ⟨hfo, hpt⟩ := rig_form (chk_ok h)
  have hx : rigM 5 t = true := hpt t (by unfold ShT.parts arrT; simp [ShT.of, ShT.fs])
  show (List.range m.toNat).flatMap (fun (i : Nat) => leaM 5 t (0 + (i : Int) * (8 * (meaM 5 t).1))) = _
  congr 1
  funext i
  rw [lea_shift, (rig_up 5 t hx).2, lea_up 5 t _ hx]
theorem arr_in {g : Nat} {m : Int} {t : ShT} {B : Nat} {W : World} (hc : ∀ j, j < 7 → W.cell? ⟨g, j, none⟩ = t.cs[j]?) (hg : g < B) (hin : t.In B W) : (arrT g m t).In B W
  | 0 => trivial
  | d + 1 => by
    refine ⟨fun i hi => ?_, fun i hi => absurd hi (Nat.not_lt_zero _)⟩
    have hi0 : i = 0 := by
      have : i < 1 := hi
      omega
    subst hi0
    refine ⟨g, 0, rfl, hg, fun j hj => ?_, hin d⟩
    rw [show 0 + 0 * 7 + j = j by omega]
    exact hc j hj
end Go.Proofs.Ytkiebejidpebdaa
namespace Go.Proofs.Ytkiebejidpebdaa
open Go Go.RowKit Go.Shelf
set_option linter.unusedVariables false
set_option linter.unusedSimpArgs false

theorem lea_ok {t : ShT} (h : ((leaL t).2 == 0) = true) : ((chkM t).2 == 0) = true ∧ (leaM 6 t 0).length ≤ 2000 ∧ (leaL t).1 = leaM 6 t 0 := by
  unfold leaL at h ⊢
  split at h
  · rename_i hc
    split at h
    · rename_i hl
      exact ⟨hc, hl, by rw [if_pos hc, if_pos hl]⟩
    · simp at h
  · rename_i hc
    simp only at h
    exact absurd h hc
/-- What the law asks of both lists. -/
structure ArF (O A : List Mb) (m n : Int) : Prop where
  len : A.length = O.length * m.toNat
  few : A.length ≤ 2000 ∧ O.length ≤ 2000
  nb : 1 ≤ n ∧ n ≤ 65536
  one : ∀ (i : Nat), i < A.length → 0 < O.length ∧ ∃ (a b : Mb), O[i % O.length]? = some a ∧ A[i]? = some b ∧ b = shM (((i / O.length : Nat) : Int) * (8 * n)) a ∧ 0 ≤ a.bit ∧ a.bit ≤ 201326592 ∧ ((i / O.length : Nat) : Int) ≤ 20
theorem arf_of {g : Nat} {m : Int} {t : ShT} (hm1 : 1 ≤ m) (hm2 : m ≤ 20) (h1 : ((leaL t).2 == 0) = true) (h2 : ((leaL (arrT g m t)).2 == 0) = true) : ArF (leaL t).1 (leaL (arrT g m t)).1 m (chkM t).1.1 := by
  obtain ⟨c1, l1, e1⟩ := lea_ok h1
  obtain ⟨c2, l2, e2⟩ := lea_ok h2
  have hn : (chkM t).1.1 = (meaM 6 t).1 := by
    have hsm := chk_small c1
    unfold chkM
    rw [if_pos (chk_ok c1), if_neg (by omega)]
  have hA := arr_all c2
  rw [e1, e2, hn]
  have hlen := flat_len (leaM 6 t 0) (fun i => shM ((i : Int) * (8 * (meaM 6 t).1))) m.toNat
  rw [← hA] at hlen
  refine ⟨hlen, ⟨l2, l1⟩, ⟨mea_pos 6 t (chk_ok c1), chk_small c1⟩, fun i hi => ?_⟩
  have hO : 0 < (leaM 6 t 0).length := by
    rcases Nat.eq_zero_or_pos (leaM 6 t 0).length with h | h
    · rw [hlen, h, Nat.zero_mul] at hi; omega
    · exact h
  have hg := flat_get (leaM 6 t 0) (fun i => shM ((i : Int) * (8 * (meaM 6 t).1))) hO m.toNat i (by rw [← hlen]; exact hi)
  rw [← hA] at hg
  have hr : i % (leaM 6 t 0).length < (leaM 6 t 0).length := Nat.mod_lt _ hO
  rw [List.getElem?_eq_getElem hr, Option.map_some] at hg
  have hb := lea_bnd 6 t 0 (chk_ok c1) (chk_small c1) _ (List.getElem_mem hr)
  have hq : i / (leaM 6 t 0).length < m.toNat := (Nat.div_lt_iff_lt_mul hO).2 (by rw [Nat.mul_comm, ← hlen]; exact hi)
  exact ⟨hO, _, _, List.getElem?_eq_getElem hr, hg, rfl, by omega, by push_cast at hb; omega, by omega⟩
set_option maxRecDepth 100000 in
set_option maxHeartbeats 20000000 in
theorem arrays_out (t : ShT) (m : Int) (w : World) (hm : m < 1 ∨ m > 20) :
    Calls Try.prog 8 #[t.v, .int .i64 m] w fun e w' => e = .returned (.bool true) ∧ Below w.heap.size w w' := by
  have HSH := veil shown_any
  have HB0 := veil ((Below.refl _ w).alloc (Nat.le_refl _) (.cells t.cs 25))
  unfold ShT.v ShT.cs at *
  rcases hm with hm | hm
  · go_enter Try.func8, Try.ntmps8
    go_wp2_with (go_at_call 17; refine (unveil HSH _).mono ?_; rintro e W1 ⟨rfl, hb1⟩; have HB1 := veil ((unveil HB0).trans (hb1.mono (unveil HB0).size)); clear hb1)
    go_ret
    exact ⟨rfl, unveil HB1⟩
  · have hm1 : ¬ m < 1 := by omega
    go_enter Try.func8, Try.ntmps8
    go_wp2_with (go_at_call 17; refine (unveil HSH _).mono ?_; rintro e W1 ⟨rfl, hb1⟩; have HB1 := veil ((unveil HB0).trans (hb1.mono (unveil HB0).size)); clear hb1)
    go_ret
    exact ⟨rfl, unveil HB1⟩
set_option maxRecDepth 100000 in
set_option maxHeartbeats 40000000 in
theorem arrays_in (t : ShT) (m : Int) (w : World) (hin : t.In w.heap.size w) (hm1 : 1 ≤ m) (hm2 : m ≤ 20) :
    Calls Try.prog 8 #[t.v, .int .i64 m] w fun e w' => e = .returned (.bool true) ∧ Below w.heap.size w w' := by
  have HSH := veil shown_any
  have HZ : Hid (∀ W, Below w.heap.size w W → Calls Try.prog 18 #[t.v] W fun r w' => r = .returned (.tuple #[.int .i64 (chkM t).1.1, .int .i64 (chkM t).1.2, .int .i64 (chkM t).2]) ∧ Below W.heap.size W w') := fun W h => Size10_any t W ((hin.below h).mono h.size)
  have HL : Hid (∀ W, Below w.heap.size w W → Calls Try.prog 24 #[t.v] W fun e w' => MbP W (leaL t).1 (leaL t).2 e w') := fun W h => Leaves_any t W ((hin.below h).mono h.size)
  have HA : Hid (∀ W, Below w.heap.size w W → Calls Try.prog 24 #[(arrT W.heap.size m t).v] (W.alloc (.cells t.cs 25)) fun e w' => MbP (W.alloc (.cells t.cs 25)) (leaL (arrT W.heap.size m t)).1 (leaL (arrT W.heap.size m t)).2 e w') := fun W h => by
    refine Leaves_any _ _ (arr_in (fun j hj => (Bk.new W 25 t.cs).cell j) (by simp) ?_)
    exact (hin.below (h.alloc h.size _)).mono (by have := h.size; simp; omega)
  have HF := veil (fun g h1 h2 => arf_of (g := g) hm1 hm2 (t := t) h1 h2)
  have HT0 := veil (And.intro (TyB.new w t) ((Below.refl _ w).alloc (Nat.le_refl _) (.cells t.cs 25)))
  have hva : ∀ g, (arrT g m t).v = .agg #[.int .i64 3, .int .i64 0, .int .i64 m, .slice (some ⟨g, 0, none⟩) 1 1, .slice none 0 0, .bool false, .int .i64 0] := fun g => rfl
  simp only [hva] at HA
  clear hva hin
  generalize chkM t = CK at *
  obtain ⟨⟨n, a⟩, ec⟩ := CK
  generalize leaL t = LO at *
  obtain ⟨O, eo⟩ := LO
  simp only at *
  unfold ShT.v ShT.cs at *
  have hm3 : ¬ m < 1 := by omega
  have hm4 : ¬ m > 20 := by omega
  go_enter Try.func8, Try.ntmps8
  go_upto_region 1 with fail
  generalize (w.alloc (.cells #[.int .i64 t.sh, .int .i64 t.k, .int .i64 t.n, .slice t.op t.of.length t.oc, .slice t.fp t.fs.length t.fc, .bool t.pk, .int .i64 t.al] 25)) = W0 at HT0 ⊢
  go_upto_region 4 with (go_at_call 17; refine (unveil HSH _).mono ?_; rintro e W1 ⟨rfl, hb1⟩; have HT1 := veil (And.intro ((unveil HT0).1.below hb1) ((unveil HT0).2.trans (hb1.mono (unveil HT0).2.size))); clear hb1)
  obtain ⟨y0, y1, y2, y3, y4, y5, y6⟩ := (unveil HT1).1.seven
  go_upto_region 5 with (go_at_call 18; refine (unveil HZ _ (unveil HT1).2).mono ?_; rintro e W2 ⟨rfl, hb2⟩; have HT2 := veil (And.intro ((unveil HT1).1.below hb2) ((unveil HT1).2.trans (hb2.mono (unveil HT1).2.size))); clear hb2)
  clear y0 y1 y2 y3 y4 y5 y6
  obtain ⟨y0, y1, y2, y3, y4, y5, y6⟩ := (unveil HT2).1.seven
  go_upto_region 6 with (go_at_call 24; refine (unveil HL _ (unveil HT2).2).mono ?_; rintro e W3 ⟨v3, rfl, hr3, hb3⟩; have HT3 := veil (And.intro ((unveil HT2).1.below hb3) ((unveil HT2).2.trans (hb3.mono (unveil HT2).2.size))); obtain ⟨q3, c3, rfl⟩ := row_slice hr3; have HR3 := veil hr3; clear hb3 hr3)
  clear y0 y1 y2 y3 y4 y5 y6
  obtain ⟨y0, y1, y2, y3, y4, y5, y6⟩ := (unveil HT3).1.seven
  have HA3 := veil (unveil HA W3 (unveil HT3).2)
  have HF3 := veil (unveil HF W3.heap.size)
  generalize leaL (arrT W3.heap.size m t) = LA at *
  obtain ⟨AL, ea⟩ := LA
  simp only at HA3 HF3
  have HRB : Hid (∀ W, Below (W3.alloc (.cells #[.int .i64 t.sh, .int .i64 t.k, .int .i64 t.n, .slice t.op t.of.length t.oc, .slice t.fp t.fs.length t.fc, .bool t.pk, .int .i64 t.al] 25)).heap.size (W3.alloc (.cells #[.int .i64 t.sh, .int .i64 t.k, .int .i64 t.n, .slice t.op t.of.length t.oc, .slice t.fp t.fs.length t.fc, .bool t.pk, .int .i64 t.al] 25)) W → W.ownsRow W2.heap.size 42 3 (.slice q3 O.length c3) O.length (spCs O) ∧ Below w.heap.size w W) := fun W h => by
    have h4 : Below W3.heap.size W3 W := ((Below.refl _ W3).alloc (Nat.le_refl _) _).trans (h.mono (by simp))
    exact ⟨ownsRow_belowS (unveil HR3) h4, (unveil HT3).2.trans (h4.mono (unveil HT3).2.size)⟩
  clear HA HF HL HZ HSH
  go_upto_region 7 with (go_at_call 24; refine (unveil HA3).mono ?_; rintro e W4 ⟨v4, rfl, hr4, hb4⟩; obtain ⟨hR4, hB4⟩ := unveil HRB W4 hb4; have HR4 := veil hR4; have HB4 := veil hB4; obtain ⟨q4, c4, rfl⟩ := row_slice hr4; have HA4 := veil hr4; clear hb4 hr4 hR4 hB4)
  clear y0 y1 y2 y3 y4 y5 y6 HRB HA3
  cases hec : ec == 0
  · have hec' : (ec != 0) = true := by simp only [bne, hec]; rfl
    go_wp2_with fail
    go_ret
    exact ⟨rfl, unveil HB4⟩
  · obtain rfl : ec = 0 := by simpa using hec
    cases heo : eo == 0
    · have heo' : (eo != 0) = true := by simp only [bne, heo]; rfl
      go_wp2_with fail
      go_ret
      exact ⟨rfl, unveil HB4⟩
    · cases hea : ea == 0
      · obtain rfl : eo = 0 := by simpa using heo
        have hea' : (ea != 0) = true := by simp only [bne, hea]; rfl
        go_wp2_with fail
        go_ret
        exact ⟨rfl, unveil HB4⟩
      · have HAF := veil (unveil HF3 heo hea)
        obtain rfl : eo = 0 := by simpa using heo
        obtain rfl : ea = 0 := by simpa using hea
        clear heo hea hec HF3
        obtain ⟨f1, f2⟩ := (unveil HAF).few
        obtain ⟨n1, n2⟩ := (unveil HAF).nb
        have hlen : ((AL.length : Nat) : Int) = (O.length : Int) * m := by
          have h9 := (unveil HAF).len
          rw [h9]
          push_cast
          rw [Int.toNat_of_nonneg (by omega)]
        have hle0 : 0 ≤ (O.length : Int) * m := by rw [← hlen]; omega
        have hle1 : (O.length : Int) * m ≤ 2000 := by rw [← hlen]; omega
        have hne : (((AL.length : Nat) : Int) != (O.length : Int) * m) = false := by rw [hlen]; simp
        have HLEN := veil (And.intro hlen (And.intro hle0 hle1))
        clear hlen hle0 hle1 hne
        go_upto_region 9 with fail
        go_cut [59] (fun c wx => c = .bool false ∧ wx = W4)
        case first =>
          go_wp2_with fail
          go_meet
          case rel =>
            refine ⟨?_, rfl⟩
            obtain ⟨g1, g2, g3⟩ := unveil HLEN
            generalize (O.length : Int) * m = Q at *
            have hw : wrap64 Q = Q := by unfold wrap64; omega
            rw [hw, g1]
            simp
        case rest =>
          obtain ⟨rfl, rfl⟩ := hcut
          clear HLEN
          go_wp2_with fail
          go_loopw [13] (fun i wr => ∃ k : Nat, i = .int .i64 k ∧ k ≤ AL.length ∧ Hid (Below wc.heap.size wc wr)) (fun i wr => AL.length - (intOf i).toNat)
          case atStart => exact ⟨0, rfl, Nat.zero_le _, Below.refl _ _⟩
          case round =>
            obtain ⟨k, rfl, hk, hbk⟩ := hrel
            by_cases hlt : k < AL.length
            · obtain ⟨hO, xa, xb, ha, hb, hsh, ha0, ha1, hkq⟩ := (unveil HAF).one k hlt
              obtain ⟨hr, har⟩ := List.getElem?_eq_some_iff.1 ha
              obtain ⟨hr2, hbr⟩ := List.getElem?_eq_some_iff.1 hb
              obtain ⟨_, hc3, g3, rfl, _, hg3, o0, o1, o2⟩ := row_at (ownsRow_belowS (unveil HR4) (unveil hbk)) hr
              obtain ⟨_, hc4, g4, rfl, _, hg4, p0, p1, p2⟩ := row_at (ownsRow_belowS (unveil HA4) (unveil hbk)) hr2
              rw [har] at o0 o1 o2
              rw [hbr, hsh] at p0 p1 p2
              have hki : (k : Int) < (AL.length : Int) := by omega
              clear hm1 hm2 hm3 hm4 har hbr ha hb
              have hOz : ((O.length : Int) == 0) = false := beq_eq_false_iff_ne.2 (by omega)
              go_upto_region 14 with fail
              go_upto_region 15 with fail
              have HX0 := veil (Bk.new wr 42 #[.int .i64 xa.bit, .int .i64 xa.bits, .int .i64 xa.k])
              have HBW : Hid (Below wc.heap.size wc (wr.alloc (.cells #[.int .i64 xa.bit, .int .i64 xa.bits, .int .i64 xa.k] 42))) := (unveil hbk).alloc (unveil hbk).size _
              have HP4 : Hid ((wr.alloc (.cells #[.int .i64 xa.bit, .int .i64 xa.bits, .int .i64 xa.k] 42)).cell? ⟨g4, k * 3, none⟩ = some (.int .i64 (shM (((k / O.length : Nat) : Int) * (8 * n)) xa).bit) ∧ (wr.alloc (.cells #[.int .i64 xa.bit, .int .i64 xa.bits, .int .i64 xa.k] 42)).cell? ⟨g4, k * 3 + 1, none⟩ = some (.int .i64 (shM (((k / O.length : Nat) : Int) * (8 * n)) xa).bits) ∧ (wr.alloc (.cells #[.int .i64 xa.bit, .int .i64 xa.bits, .int .i64 xa.k] 42)).cell? ⟨g4, k * 3 + 2, none⟩ = some (.int .i64 (shM (((k / O.length : Nat) : Int) * (8 * n)) xa).k)) := by
                have hbl : Below wr.heap.size wr (wr.alloc (.cells #[.int .i64 xa.bit, .int .i64 xa.bits, .int .i64 xa.k] 42)) := (Below.refl _ wr).alloc (Nat.le_refl _) _
                exact ⟨(hbl.cell (p := ⟨g4, k * 3, none⟩) hg4).trans p0, (hbl.cell (p := ⟨g4, k * 3 + 1, none⟩) hg4).trans p1, (hbl.cell (p := ⟨g4, k * 3 + 2, none⟩) hg4).trans p2⟩
              have hne4 : g4 ≠ wr.heap.size := by omega
              have hB0w : wc.heap.size ≤ wr.heap.size := (unveil hbk).size
              generalize (wr.alloc (.cells #[.int .i64 xa.bit, .int .i64 xa.bits, .int .i64 xa.k] 42)) = W5 at *
              generalize wr.heap.size = X at *
              clear o0 o1 o2 p0 p1 p2 hg3 hc3
              obtain ⟨xbit, xbits, xk, xal⟩ := xa
              simp only [shM] at *
              obtain ⟨D, hD⟩ : ∃ D : Int, ((k / O.length : Nat) : Int) = D := ⟨_, rfl⟩
              rw [hD] at hkq HP4
              have hDD : (k : Int) / (O.length : Int) = D := by rw [← hD]; push_cast; rfl
              have hD0 : 0 ≤ D := by rw [← hD]; exact Int.natCast_nonneg _
              have hmul : 8 * n * D = D * (8 * n) := Int.mul_comm _ _
              have hmb0 : 0 ≤ D * (8 * n) := Int.mul_nonneg hD0 (by omega)
              have hmb1 : D * (8 * n) ≤ 20 * (8 * 65536) := Int.mul_le_mul hkq (by omega) (by omega) (by omega)
              obtain ⟨E, hE⟩ : ∃ E : Int, D * (8 * n) = E := ⟨_, rfl⟩
              rw [hE] at hmul hmb0 hmb1 HP4
              have HDD := veil hDD
              have HMU := veil hmul
              clear hD hDD hmul hE hsh
              refine wp_region_noPanic (wpIn_wide.1 (wpIn_region_mix (ro := none) (n := 0) (fun w' => Hid (w' = W5.drew))
                [(0, true), (1, true), (2, true), (3, true), (4, true), (5, true), (6, true), (7, true), (8, true), (9, true), (10, true)]
                11 hmixL (by kernel_rfl) (by kernel_rfl) (by kernel_rfl) (by kernel_rfl) (by kernel_rfl) (by kernel_rfl) (fun _ _ _ _ h => h) (veil rfl) ?_))
              have x0 := (unveil HX0).cell 0
              simp only [List.getElem?_toArray, List.getElem?_cons_zero] at x0
              iterate 3 (
                refine mix_pure _ rfl _ (.inl ⟨rfl, fun W hS => (by obtain rfl := (unveil hS).symm; go_simp; rfl)⟩) (fun B hB => ?_)
                simp only [Act.put, List.setIfInBounds_toArray, List.set_cons_zero, List.set_cons_succ] at hB
                subst hB)
              refine mix_pure _ rfl (.int .i64 (8 * n)) (.inl ⟨rfl, fun W hS => (by go_simp; rw [IntKind.wrap_i64]; omega)⟩) (fun B hB => ?_)
              simp only [List.getElem_toArray, List.getElem_cons_zero, List.getElem_cons_succ, Act.put, List.setIfInBounds_toArray, List.set_cons_zero, List.set_cons_succ] at hB
              subst hB
              refine mix_pure _ rfl (.int .i64 k) (.inl ⟨rfl, fun W hS => (by go_simp)⟩) (fun B hB => ?_)
              simp only [List.getElem_toArray, List.getElem_cons_zero, List.getElem_cons_succ, Act.put, List.setIfInBounds_toArray, List.set_cons_zero, List.set_cons_succ] at hB
              subst hB
              refine mix_pure _ rfl (.slice (some ⟨g3, 0, none⟩) O.length c3) (.inl ⟨rfl, fun W hS => (by go_simp)⟩) (fun B hB => ?_)
              simp only [List.getElem_toArray, List.getElem_cons_zero, List.getElem_cons_succ, Act.put, List.setIfInBounds_toArray, List.set_cons_zero, List.set_cons_succ] at hB
              subst hB
              refine mix_pure _ rfl (.int .i64 O.length) (.inl ⟨rfl, fun W hS => (by go_simp)⟩) (fun B hB => ?_)
              simp only [List.getElem_toArray, List.getElem_cons_zero, List.getElem_cons_succ, Act.put, List.setIfInBounds_toArray, List.set_cons_zero, List.set_cons_succ] at hB
              subst hB
              refine mix_pure _ rfl (.int .i64 D) (.inl ⟨rfl, fun W hS => ?_⟩) (fun B hB => ?_)
              · go_simp
                have hwD : IntKind.i64.wrap D = D := by rw [IntKind.wrap_i64]; omega
                rw [if_neg (fun h => by rw [h] at hO; simp at hO), unveil HDD, hwD]
              simp only [List.getElem_toArray, List.getElem_cons_zero, List.getElem_cons_succ, Act.put, List.setIfInBounds_toArray, List.set_cons_zero, List.set_cons_succ] at hB
              subst hB
              refine mix_pure _ rfl (.int .i64 E) (.inl ⟨rfl, fun W hS => (by go_simp; rw [unveil HMU, IntKind.wrap_i64]; omega)⟩) (fun B hB => ?_)
              simp only [List.getElem_toArray, List.getElem_cons_zero, List.getElem_cons_succ, Act.put, List.setIfInBounds_toArray, List.set_cons_zero, List.set_cons_succ] at hB
              subst hB
              refine mix_pure _ rfl (.int .i64 (xbit + E)) (.inl ⟨rfl, fun W hS => (by go_simp; rw [IntKind.wrap_i64]; omega)⟩) (fun B hB => ?_)
              simp only [List.getElem_toArray, List.getElem_cons_zero, List.getElem_cons_succ, Act.put, List.setIfInBounds_toArray, List.set_cons_zero, List.set_cons_succ] at hB
              subst hB
              refine mix_pure _ rfl (.pointer (some ⟨X, 0, none⟩)) (.inl ⟨rfl, fun W hS => (by go_simp)⟩) (fun B hB => ?_)
              simp only [List.getElem_toArray, List.getElem_cons_zero, List.getElem_cons_succ, Act.put, List.setIfInBounds_toArray, List.set_cons_zero, List.set_cons_succ] at hB
              subst hB
              refine mix_nil ?_
              have HX6 : Hid (Bk (W5.drew.setCell ⟨X, 0, none⟩ (.int .i64 (xbit + E))) X 42 #[.int .i64 (xbit + E), .int .i64 xbits, .int .i64 xk]) := Bk.set (W := W5.drew) (unveil HX0) 0 _
              have HB6 : Hid (Below wc.heap.size wc (W5.drew.setCell ⟨X, 0, none⟩ (.int .i64 (xbit + E)))) := (unveil HBW).drew.setCell (p := ⟨X, 0, none⟩) hB0w _
              have HP6 : Hid ((W5.drew.setCell ⟨X, 0, none⟩ (.int .i64 (xbit + E))).cell? ⟨g4, k * 3, none⟩ = some (.int .i64 (xbit + E)) ∧ (W5.drew.setCell ⟨X, 0, none⟩ (.int .i64 (xbit + E))).cell? ⟨g4, k * 3 + 1, none⟩ = some (.int .i64 xbits) ∧ (W5.drew.setCell ⟨X, 0, none⟩ (.int .i64 (xbit + E))).cell? ⟨g4, k * 3 + 2, none⟩ = some (.int .i64 xk)) := by
                have hh := Below.heap_setCell W5.drew ⟨X, 0, none⟩ (.int .i64 (xbit + E)) g4 hne4
                obtain ⟨r0, r1, r2⟩ := unveil HP4
                have hcc : ∀ j, (W5.drew.setCell ⟨X, 0, none⟩ (.int .i64 (xbit + E))).cell? ⟨g4, j, none⟩ = W5.cell? ⟨g4, j, none⟩ := fun j => by
                  unfold World.cell?
                  simp only
                  rw [hh]
                  rfl
                exact ⟨(hcc _).trans r0, (hcc _).trans r1, (hcc _).trans r2⟩
              have xf0 := (unveil HX0).frozen 0
              refine listIn_last rfl (fun K hK => ?_)
              go_simp
              refine hK _ _ ?_
              clear hK K x0 xf0
              have HX7 : Hid (Bk (W5.setCell ⟨X, 0, none⟩ (.int .i64 (xbit + E))).drew X 42 #[.int .i64 (xbit + E), .int .i64 xbits, .int .i64 xk]) := HX6
              have HB7 : Hid (Below wc.heap.size wc (W5.setCell ⟨X, 0, none⟩ (.int .i64 (xbit + E))).drew) := HB6
              have HP7 : Hid ((W5.setCell ⟨X, 0, none⟩ (.int .i64 (xbit + E))).drew.cell? ⟨g4, k * 3, none⟩ = some (.int .i64 (xbit + E)) ∧ (W5.setCell ⟨X, 0, none⟩ (.int .i64 (xbit + E))).drew.cell? ⟨g4, k * 3 + 1, none⟩ = some (.int .i64 xbits) ∧ (W5.setCell ⟨X, 0, none⟩ (.int .i64 (xbit + E))).drew.cell? ⟨g4, k * 3 + 2, none⟩ = some (.int .i64 xk)) := HP6
              generalize (W5.setCell ⟨X, 0, none⟩ (.int .i64 (xbit + E))).drew = W7 at HX7 HB7 HP7 ⊢
              clear HX6 HB6 HP6 HX0 HBW HP4
              obtain ⟨p0, p1, p2⟩ := unveil HP7
              have x0 := (unveil HX7).cell 0
              have x1 := (unveil HX7).cell 1
              have x2 := (unveil HX7).cell 2
              have lx := (unveil HX7).lt
              simp only [List.getElem?_toArray, List.getElem?_cons_zero, List.getElem?_cons_succ] at x0 x1 x2
              have hneq := fun W => spot_neq (xbit + E) xbits xk (xbit + E) xbits xk W
              simp only [and_self, decide_true, Bool.not_true] at hneq
              have HLT := veil hlt
              go_upto_region 16 with fail
              go_quiet (fail)
              go_wp2_with fail
              go_roundw
              case rel => exact ⟨k + 1, by go_num, unveil HLT, below_drewS (unveil HB7) _⟩
              case measure => have := unveil HLT; simp [intOf]; omega
            · have hki : ¬ (k : Int) < (AL.length : Int) := by omega
              have HB5 := veil ((unveil HB4).trans ((unveil hbk).mono (unveil HB4).size))
              go_wp2_with fail
              go_ret
              exact ⟨rfl, unveil HB5⟩
end Go.Proofs.Ytkiebejidpebdaa
