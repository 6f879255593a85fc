/-
  burinlaw11.ImageMakes in numbers: unions that lie at one place.
-/
import Derived.Test.YtkiebejidpebdaaTo
import Derived.Test.YtkiebejidpebdaaTg
namespace Go.Proofs.Ytkiebejidpebdaa
open Go Go.RowKit Go.Shelf
set_option linter.unusedVariables false
set_option linter.unusedSimpArgs false

/-- What a path leads to, and where that begins. -/
def nodA (x : ShT × Int × Int) (fr : Int) : List Int → Option ((ShT × Int × Int) × Int)
  | [] => some (x, fr)
  | s :: r => match stpM x s with
    | none => none
    | some (_, y, b) => nodA y (fr + b) r
theorem nod_no {x : ShT × Int × Int} {s : Int} (h : stpM x s = none) (fr : Int) (r : List Int) : nodA x fr (s :: r) = none := by rw [nodA, h]
theorem nod_yes {x y : ShT × Int × Int} {s b : Int} {j : Nat} (h : stpM x s = some (j, y, b)) (fr : Int) (r : List Int) : nodA x fr (s :: r) = nodA y (fr + b) r := by rw [nodA, h]
theorem nod_fol : ∀ (p : List Int) (x : ShT × Int × Int) (fr : Int), (folM x fr p).1.length = p.length → nodA x fr p = some (folM x fr p).2
  | [], _, _, _ => rfl
  | s :: r, x, fr, h => by
    cases hs : stpM x s with
    | none => rw [fol_no hs] at h; simp at h
    | some q =>
      obtain ⟨j, y, b⟩ := q
      rw [fol_yes hs] at h ⊢
      rw [nod_yes hs]
      exact nod_fol r y (fr + b) (by simpa using h)
theorem nod_app : ∀ (p q : List Int) (x : ShT × Int × Int) (fr : Int), nodA x fr (p ++ q) = (nodA x fr p).bind fun y => nodA y.1 y.2 q
  | [], q, x, fr => rfl
  | s :: r, q, x, fr => by
    cases hs : stpM x s with
    | none => rw [List.cons_append, nod_no hs, nod_no hs]; rfl
    | some z =>
      obtain ⟨j, y, b⟩ := z
      rw [List.cons_append, nod_yes hs, nod_yes hs]
      exact nod_app r q y (fr + b)
theorem nod_in : ∀ (p : List Int) (d : Nat) (x y : ShT × Int × Int) (fr f : Int), d ≤ 6 → GdN d x → nodA x fr p = some (y, f) → ∃ d', d' ≤ 6 ∧ GdN d' y ∧ fr ≤ f ∧ f + y.2.2 ≤ fr + x.2.2
  | [], d, x, y, fr, f, hd, h, e => by
    obtain ⟨rfl, rfl⟩ : x = y ∧ fr = f := by simpa [nodA] using e
    exact ⟨d, hd, h, Int.le_refl _, Int.le_refl _⟩
  | s :: r, d, x, y, fr, f, hd, h, e => by
    cases hs : stpM x s with
    | none => rw [nod_no hs] at e; cases e
    | some q =>
      obtain ⟨j, z, b⟩ := q
      rw [nod_yes hs] at e
      obtain ⟨d', rfl, hg, _, _, h0, h1⟩ := h.step hd hs
      obtain ⟨d2, a1, a2, a3, a4⟩ := nod_in r d' z y (fr + b) f (by omega) hg e
      exact ⟨d2, a1, a2, by omega, by omega⟩
theorem up_eight (n a : Int) : upM n (8 * a) % 8 = 0 := by
  unfold upM
  rw [Int.mul_comm 8 a, ← Int.mul_assoc]
  exact Int.mul_emod_left _ _
theorem mem_whole {d : Nat} {x : ShT × Int × Int} {z : FdOf ShT × Mb} (h : RiN (d + 1) x) (hs : x.1.sh = 4 ∨ x.1.sh = 5) (hz : z ∈ x.1.ml (meaM d)) (hb : z.1.bits < 0) : z.2.bit % 8 = 0 := by
  obtain ⟨hf, hp⟩ := rig_form h.1
  have h3 : (x.1.sh == 3) = false := by simp; omega
  obtain ⟨_, _, _, _, ha, hfs⟩ := form_struct hf (by simp; omega) (by simp; omega) h3
  obtain ⟨f1, f2, f3, _⟩ := ffs_all hfs
  have hok : ∀ f ∈ x.1.fs, FOk f (meaM d f.t) := fun f hfm => fok_of (mea_ok d) (f3 f hfm) (hp _ (fs_part hfm))
  obtain ⟨hxm, en, h0, _, he⟩ := ml_mem (meaM d) x.1.pk (x.1.sh == 4) x.1.fs 0 (by omega) hok z hz
  rw [he]
  unfold layM
  rw [if_neg (by omega)]
  exact up_eight _ _
/-- A union lies at whole bytes. -/
theorem nod_al : ∀ (p : List Int) (d : Nat) (x y : ShT × Int × Int) (fr f : Int), d ≤ 6 → RiN d x → fr % 8 = 0 → nodA x fr p = some (y, f) → y.1.sh = 5 → f % 8 = 0 ∧ ∃ z, y.2.2 = 8 * z ∧ 1 ≤ z
  | [], d, x, y, fr, f, hd, h, ha, e, _ => by
    obtain ⟨rfl, rfl⟩ : x = y ∧ fr = f := by simpa [nodA] using e
    exact ⟨ha, _, h.2.1, mea_pos d x.1 h.1⟩
  | s :: r, 0, x, y, fr, f, hd, h, ha, e, _ => by have := h.1; cases this
  | s :: r, d + 1, x, y, fr, f, hd, h, ha, e, h5 => by
    cases hs : stpM x s with
    | none => rw [nod_no hs] at e; cases e
    | some q =>
      obtain ⟨j, z, b⟩ := q
      rw [nod_yes hs] at e
      have hg : GdN (d + 1) x := .inl h
      cases h3 : x.1.sh == 3
      · have h45 := stp_sh hs h3
        have hs' : x.1.sh = 4 ∨ x.1.sh = 5 := by simpa using h45
        obtain ⟨hk, rfl, hb, rfl, hy, hme, hfl, _⟩ := stp_str_yes hd hg h45 hs
        have hprt : prtM x = ptsM x.1 := by unfold prtM; rw [if_neg (by rw [h3]; simp)]
        rw [hprt] at hy
        obtain ⟨m, hm, ez, ey, hneg, hpos⟩ := h.mem (by omega) hs' hk hy
        have hb' : (m.1.bits == 0) = false := by rw [ez]; exact hb
        by_cases hp : m.1.bits > 0
        · obtain ⟨p1, _⟩ := hpos hp
          have hy1 : z.1.sh = 1 := by rw [ey]; exact p1
          cases r with
          | nil =>
            obtain ⟨rfl, _⟩ : z = y ∧ _ := by simpa [nodA] using e
            rw [hy1] at h5
            cases h5
          | cons c r2 =>
            have hno : stpM z c = none := by
              unfold stpM
              rw [hy1]
              rfl
            rw [nod_no hno] at e
            cases e
        · have hb0 : m.1.bits ≠ 0 := by simpa using hb'
          have hwb := mem_whole h hs' hm (by omega)
          have hz1 : z.2.1 = m.2.bit := by rw [ey]
          exact nod_al r d z y _ f (by omega) (hneg (by omega)) (by omega) e h5
      · obtain ⟨d', z', e', hof, hn', hn1, hp, hgz, hm⟩ := hg.arr hd h3
        obtain rfl : d = d' := by omega
        obtain ⟨z2, hof', h0, h1, _, _, _, _, rfl, rfl⟩ := stp_arr_yes hd hg h3 hs
        obtain ⟨_, _, _, hj, _, _, _⟩ := hg.step hd hs
        rw [hp] at hj
        obtain rfl : (z', 0, x.2.2 / x.1.n) = z := by simpa using hj
        have hri : RiN d (z', 0, x.2.2 / x.1.n) := RiN.arr h h3 hof
        have hdiv : x.2.2 / x.1.n = 8 * (meaM d z').1 := hri.2.1
        refine nod_al r d _ y _ f (by omega) hri ?_ e h5
        rw [hdiv, Int.mul_left_comm]
        omega
theorem ends_le {l : List (FdOf ShT × Mb)} (h : ∀ (i : Nat) (hi : i < l.length), atM l i ≤ l[i].2.bit ∧ 0 ≤ l[i].2.bits) : ∀ (j i : Nat) (hj : j < l.length) (hij : i < j), (l[i]'(by omega)).2.bit + (l[i]'(by omega)).2.bits ≤ l[j].2.bit
  | 0, i, hj, hij => absurd hij (Nat.not_lt_zero _)
  | j + 1, i, hj, hij => by
    have h1 := (h (j + 1) hj).1
    unfold atM at h1
    rw [dif_pos ⟨by omega, by simp; omega⟩] at h1
    simp only [Nat.add_sub_cancel] at h1
    rcases Nat.lt_or_ge i j with hl | hl
    · have h2 := ends_le h j i (by omega) hl
      have h3 := (h j (by omega)).2
      omega
    · obtain rfl : i = j := by omega
      exact h1
/-- The parts of what is no union share no bit. -/
theorem stp_apart {d : Nat} {x y1 y2 : ShT × Int × Int} {a b b1 b2 : Int} {j1 j2 : Nat} (hd : d ≤ 6) (h : GdN d x) (h5 : x.1.sh ≠ 5) (hab : a ≠ b) (h1 : stpM x a = some (j1, y1, b1)) (h2 : stpM x b = some (j2, y2, b2)) :
    b1 + y1.2.2 ≤ b2 ∨ b2 + y2.2.2 ≤ b1 := by
  cases h3 : x.1.sh == 3
  · have h45 := stp_sh h1 h3
    have h4 : x.1.sh = 4 := by
      have : x.1.sh = 4 ∨ x.1.sh = 5 := by simpa using h45
      omega
    obtain ⟨k1, rfl, e1, rfl, p1, _, _, _⟩ := stp_str_yes hd h h45 h1
    obtain ⟨k2, rfl, e2, rfl, p2, _, _, _⟩ := stp_str_yes hd h h45 h2
    have hprt : prtM x = ptsM x.1 := by unfold prtM; rw [if_neg (by rw [h3]; simp)]
    rw [hprt] at p1 p2
    rcases h with ⟨hr, hz2, hz⟩ | ⟨_, hx, _⟩
    · obtain ⟨hc, h6⟩ := chk_of hd hr hz
      obtain ⟨_, _, _, _, _, _, hfl, hll, hli⟩ := lies_facts x.1 h6 (.inl h4) _ _ hc
      have hen := @ends_le (x.1.ml (meaM 5)) (fun i hi => by
        obtain ⟨_, L⟩ := hli i (by omega) hi
        exact ⟨L.st h4, L.s0⟩)
      have g : ∀ (j : Nat) (y : ShT × Int × Int) (hj : j < x.1.fs.length), (ptsM x.1)[j]? = some y → ∃ hj' : j < (x.1.ml (meaM 5)).length, y.2.1 = (x.1.ml (meaM 5))[j].2.bit ∧ y.2.2 = (x.1.ml (meaM 5))[j].2.bits := fun j y hj e => by
        have hj' : j < (x.1.ml (meaM 5)).length := by omega
        unfold ptsM at e
        rw [List.getElem?_map, List.getElem?_eq_getElem hj', Option.map_some] at e
        obtain rfl := Option.some.inj e
        exact ⟨hj', rfl, rfl⟩
      obtain ⟨q1, q2, q3⟩ := g j1 y1 k1 p1
      obtain ⟨r1, r2, r3⟩ := g j2 y2 k2 p2
      rw [q2, q3, r2, r3]
      rcases Nat.lt_trichotomy j1 j2 with hl | hl | hl
      · exact .inl (hen j2 j1 r1 hl)
      · subst hl; exact absurd rfl hab
      · exact .inr (hen j1 j2 q1 hl)
    · rw [hx] at h4; cases h4
  · obtain ⟨d', z', e', hof, hn', hn1, hp, hgz, hm⟩ := h.arr hd h3
    obtain ⟨_, _, _, _, _, _, _, _, rfl, rfl⟩ := stp_arr_yes hd h h3 h1
    obtain ⟨_, _, _, _, _, _, _, _, rfl, rfl⟩ := stp_arr_yes hd h h3 h2
    obtain ⟨_, _, _, i1, _, _, _⟩ := h.step hd h1
    obtain ⟨_, _, _, i2, _, _, _⟩ := h.step hd h2
    rw [hp] at i1 i2
    obtain rfl : (z', 0, x.2.2 / x.1.n) = y1 := by simpa using i1
    obtain rfl : (z', 0, x.2.2 / x.1.n) = y2 := by simpa using i2
    have hq := hgz.bits
    simp only at hq ⊢
    generalize x.2.2 / x.1.n = Q at *
    rcases Int.lt_or_gt_of_ne hab with hl | hl
    · have := Int.mul_le_mul_of_nonneg_right (show a + 1 ≤ b by omega) (show 0 ≤ Q by omega)
      rw [Int.add_mul] at this
      exact .inl (by omega)
    · have := Int.mul_le_mul_of_nonneg_right (show b + 1 ≤ a by omega) (show 0 ≤ Q by omega)
      rw [Int.add_mul] at this
      exact .inr (by omega)
/-- Two that share a bit, and of which none leads to the other, part at a union. -/
theorem nod_part : ∀ (p1 p2 : List Int) (d : Nat) (x y1 y2 : ShT × Int × Int) (fr f1 f2 : Int), d ≤ 6 → GdN d x → nodA x fr p1 = some (y1, f1) → nodA x fr p2 = some (y2, f2) → ¬ f1 + y1.2.2 ≤ f2 → ¬ f2 + y2.2.2 ≤ f1 → ¬ p1 <+: p2 → ¬ p2 <+: p1 →
    ∃ c a r1 b r2 u fu, p1 = c ++ a :: r1 ∧ p2 = c ++ b :: r2 ∧ a ≠ b ∧ nodA x fr c = some (u, fu) ∧ u.1.sh = 5
  | [], p2, d, x, y1, y2, fr, f1, f2, hd, h, e1, e2, o1, o2, n1, n2 => absurd List.nil_prefix n1
  | a :: r1, [], d, x, y1, y2, fr, f1, f2, hd, h, e1, e2, o1, o2, n1, n2 => absurd List.nil_prefix n2
  | a :: r1, b :: r2, d, x, y1, y2, fr, f1, f2, hd, h, e1, e2, o1, o2, n1, n2 => by
    cases hs : stpM x a with
    | none => rw [nod_no hs] at e1; cases e1
    | some q =>
    obtain ⟨j, z, bb⟩ := q
    by_cases hab : a = b
    · subst hab
      rw [nod_yes hs] at e1 e2
      obtain ⟨d', rfl, hg, _, _, h0, h1⟩ := h.step hd hs
      obtain ⟨c, a', q1, b', q2, u, fu, g1, g2, g3, g4, g5⟩ := nod_part r1 r2 d' z y1 y2 (fr + bb) f1 f2 (by omega) hg e1 e2 o1 o2 (fun hh => n1 (List.cons_prefix_cons.2 ⟨rfl, hh⟩)) (fun hh => n2 (List.cons_prefix_cons.2 ⟨rfl, hh⟩))
      exact ⟨a :: c, a', q1, b', q2, u, fu, by rw [g1]; rfl, by rw [g2]; rfl, g3, by rw [nod_yes hs]; exact g4, g5⟩
    · by_cases h5 : x.1.sh = 5
      · exact ⟨[], a, r1, b, r2, x, fr, rfl, rfl, hab, rfl, h5⟩
      · cases hs2 : stpM x b with
        | none => rw [nod_no hs2] at e2; cases e2
        | some q2 =>
          obtain ⟨j2, z2, bb2⟩ := q2
          rw [nod_yes hs] at e1
          rw [nod_yes hs2] at e2
          obtain ⟨d1, rfl, hg1, _, _, h01, h11⟩ := h.step hd hs
          obtain ⟨d2, ed, hg2, _, _, h02, h12⟩ := h.step hd hs2
          obtain ⟨_, _, _, m1, m2⟩ := nod_in r1 d1 z y1 _ f1 (by omega) hg1 e1
          obtain ⟨_, _, _, m3, m4⟩ := nod_in r2 d2 z2 y2 _ f2 (by omega) hg2 e2
          have := stp_apart hd h h5 hab hs hs2
          exfalso
          omega
end Go.Proofs.Ytkiebejidpebdaa
