/-
  ShapeArrays: the numbers.
-/
import Derived.Test.YtgomlfaekfabpaaMh
namespace Go.Proofs.Ytgomlfaekfabpaa
open Go Go.RowKit Go.Shelf
set_option linter.unusedVariables false
set_option linter.unusedSimpArgs false

/-- A spot, so many bits on. -/
def shM (s : Int) (m : Mb) : Mb := ⟨m.bit + s, m.bits, m.k, m.al⟩
theorem lea_shift : ∀ (d : Nat) (t : ShT) (fr s : Int), leaM d t (fr + s) = (leaM d t fr).map (shM s)
  | 0, _, _, _ => rfl
  | d + 1, t, fr, s => by
    rw [leaM, leaM]
    split
    · rfl
    · split
      · rfl
      · split
        · cases t.of with
          | nil => rfl
          | cons x r =>
            simp only
            rw [List.map_flatMap]
            congr 1
            funext i
            rw [← lea_shift d x]
            congr 1
            omega
        · rw [List.map_flatMap]
          congr 1
          funext x
          split
          · rfl
          · split
            · simp only [List.map_cons, List.map_nil, shM]
              congr 2
              omega
            · rw [← lea_shift d x.1.t]
              congr 1
              omega
theorem flat_congr {α β : Type} {f g : α → List β} : ∀ (l : List α), (∀ x ∈ l, f x = g x) → l.flatMap f = l.flatMap g
  | [], _ => rfl
  | x :: r, h => by rw [List.flatMap_cons, List.flatMap_cons, h x (by simp), flat_congr r (fun y hy => h y (by simp [hy]))]
theorem lea_up : ∀ (d : Nat) (t : ShT) (fr : Int), rigM d t = true → leaM (d + 1) t fr = leaM d t fr
  | 0, _, _, h => by cases h
  | d + 1, t, fr, h => by
    obtain ⟨hf, hp⟩ := rig_form h
    rw [leaM, leaM]
    split
    · rfl
    · split
      · rfl
      · split
        · cases hof : t.of with
          | nil => rfl
          | cons x r =>
            have hx := hp x (by unfold ShT.parts; rw [hof]; simp)
            simp only
            congr 1
            funext i
            rw [(rig_up d x hx).2, lea_up d x _ hx]
        · have hml : t.ml (meaM (d + 1)) = t.ml (meaM d) := by
            unfold ShT.ml
            exact ml_congr _ _ _ _ (fun f hfm => (rig_up d f.t (hp _ (fs_part hfm))).2)
          rw [hml]
          refine flat_congr _ (fun x hx => ?_)
          have hxm : x.1 ∈ t.fs := by
            have := ml_fst (meaM d) t.pk (t.sh == 4) t.fs 0
            rw [← this]
            exact List.mem_map.2 ⟨x, hx, rfl⟩
          split
          · rfl
          · split
            · rfl
            · exact lea_up d _ _ (hp _ (fs_part hxm))
theorem lea_bnd : ∀ (d : Nat) (t : ShT) (fr : Int), rigM d t = true → (meaM d t).1 ≤ 65536 → ∀ m ∈ leaM d t fr, fr ≤ m.bit ∧ m.bit ≤ fr + 33554432 * d
  | 0, _, _, h, _ => by cases h
  | d + 1, t, fr, h, hsm => by
    obtain ⟨hfo, hpt⟩ := rig_form h
    intro m hm
    rw [meaM] at hsm
    rw [leaM] at hm
    cases h1 : t.sh == 1
    · cases h2 : t.sh == 2
      · cases h3 : t.sh == 3
        · simp only [h1, h2, h3, Bool.false_eq_true, if_false] at hm hsm
          obtain ⟨_, _, _, _, ha, hs⟩ := form_struct hfo h1 h2 h3
          obtain ⟨f1, f2, f3, _⟩ := ffs_all hs
          have hok : ∀ f ∈ t.fs, FOk f (meaM d f.t) := fun f hfm => fok_of (mea_ok d) (f3 f hfm) (hpt _ (fs_part hfm))
          obtain ⟨x, hx, hmx⟩ := List.mem_flatMap.1 hm
          have hxm : x.1 ∈ t.fs := by
            have := ml_fst (meaM d) t.pk (t.sh == 4) t.fs 0
            rw [← this]
            exact List.mem_map.2 ⟨x, hx, rfl⟩
          obtain ⟨m1, m2, m3, _, _⟩ := ml_ok (meaM d) t.pk (t.sh == 4) t.fs 0 0 hok (by omega) (by omega) (by omega) x hx
          split at hmx
          · cases hmx
          · split at hmx
            · simp only [List.mem_singleton] at hmx
              subst hmx
              simp only
              push_cast
              omega
            · have hsx : (meaM d x.1.t).1 ≤ 65536 := by
                apply Classical.byContradiction
                intro hc
                have := big_mem hok f1 (ali_le ha).2 hxm (by omega)
                omega
              have := lea_bnd d x.1.t _ (hpt _ (fs_part hxm)) hsx m hmx
              push_cast
              omega
        · simp only [h1, h2, h3, Bool.false_eq_true, if_false, if_true] at hm hsm
          obtain ⟨_, q1, q2, _⟩ := form_arr hfo h3
          obtain ⟨x, hof⟩ := List.length_eq_one_iff.1 q2
          rw [hof] at hm hsm
          simp only at hm hsm
          have hx : rigM d x = true := hpt x (by unfold ShT.parts; rw [hof]; simp)
          have hz := mea_pos d x hx
          obtain ⟨a1, a2, a3⟩ := arr_small q1 hz hsm
          obtain ⟨i, hi, hmi⟩ := List.mem_flatMap.1 hm
          have hin : (i : Int) < t.n := by have := List.mem_range.1 hi; omega
          have hi2 := a3 i (by omega) hin
          have hi3 : 0 ≤ (i : Int) * (8 * (meaM d x).1) := Int.mul_nonneg (by omega) (by omega)
          have := lea_bnd d x _ hx a2 m hmi
          push_cast
          omega
      · simp only [h1, h2, Bool.false_eq_true, if_false, if_true, List.mem_singleton] at hm
        subst hm
        simp only
        push_cast
        omega
    · simp only [h1, if_true, List.mem_singleton] at hm
      subst hm
      simp only
      push_cast
      omega
/-- Lists laid one behind the other. -/
theorem flat_len (O : List Mb) (f : Nat → Mb → Mb) : ∀ M, ((List.range M).flatMap (fun i => O.map (f i))).length = O.length * M
  | 0 => by simp
  | M + 1 => by
    rw [List.range_succ, List.flatMap_append, List.length_append, flat_len O f M]
    simp [Nat.mul_add]
theorem flat_get (O : List Mb) (f : Nat → Mb → Mb) (hO : 0 < O.length) : ∀ (M i : Nat), i < O.length * M → ((List.range M).flatMap (fun i => O.map (f i)))[i]? = (O[i % O.length]?).map (f (i / O.length))
  | 0, i, h => by simp at h
  | M + 1, i, h => by
    rw [List.range_succ, List.flatMap_append]
    by_cases hi : i < O.length * M
    · rw [List.getElem?_append_left (by rw [flat_len]; exact hi), flat_get O f hO M i hi]
    · rw [List.getElem?_append_right (by rw [flat_len]; omega), flat_len]
      simp only [List.flatMap_cons, List.flatMap_nil, List.append_nil, List.getElem?_map]
      have h1 : i - O.length * M < O.length := by rw [Nat.mul_add, Nat.mul_one] at h; omega
      have h2 : i = (i - O.length * M) + O.length * M := by omega
      have h3 : i % O.length = i - O.length * M := by
        rw [h2, Nat.add_mul_mod_self_left, Nat.mod_eq_of_lt h1]
        omega
      have h4 : i / O.length = M := by
        rw [h2, Nat.add_mul_div_left _ _ hO, Nat.div_eq_of_lt h1, Nat.zero_add]
      rw [h3, h4]
def arrT (g : Nat) (m : Int) (t : ShT) : ShT := .mk 3 0 m (some ⟨g, 0, none⟩) 1 [t] none 0 [] false 0
theorem arr_all {g : Nat} {m : Int} {t : ShT} (h : ((chkM (arrT g m t)).2 == 0) = true) : leaM 6 (arrT g m t) 0 = (List.range m.toNat).flatMap (fun (i : Nat) => (leaM 6 t 0).map (shM ((i : Int) * (8 * (meaM 6 t).1)))) := by
  obtain ⟨hfo, hpt⟩ := rig_form (chk_ok h)
  have hx : rigM 5 t = true := hpt t (by unfold ShT.parts arrT; simp [ShT.of, ShT.fs])
  show (List.range m.toNat).flatMap (fun (i : Nat) => leaM 5 t (0 + (i : Int) * (8 * (meaM 5 t).1))) = _
  congr 1
  funext i
  rw [lea_shift, (rig_up 5 t hx).2, lea_up 5 t _ hx]
theorem arr_in {g : Nat} {m : Int} {t : ShT} {B : Nat} {W : World} (hc : ∀ j, j < 7 → W.cell? ⟨g, j, none⟩ = t.cs[j]?) (hg : g < B) (hin : t.In B W) : (arrT g m t).In B W
  | 0 => trivial
  | d + 1 => by
    refine ⟨fun i hi => ?_, fun i hi => absurd hi (Nat.not_lt_zero _)⟩
    have hi0 : i = 0 := by
      have : i < 1 := hi
      omega
    subst hi0
    refine ⟨g, 0, rfl, hg, fun j hj => ?_, hin d⟩
    rw [show 0 + 0 * 7 + j = j by omega]
    exact hc j hj
end Go.Proofs.Ytgomlfaekfabpaa
