/-
  burinlaw11.ImageLeaves in numbers: what a path leads to is among the numbers of shape.
-/
import Derived.Test.YtkiebejidpebdaaZ10
import Derived.Test.YtkiebejidpebdaaZ12
namespace Go.Proofs.Ytkiebejidpebdaa
open Go Go.RowKit Go.Shelf
set_option linter.unusedVariables false
set_option linter.unusedSimpArgs false

/-- A node of a right type. -/
def RiN (d : Nat) (x : ShT × Int × Int) : Prop := rigM d x.1 = true ∧ x.2.2 = 8 * (meaM d x.1).1 ∧ (meaM d x.1).1 ≤ 65536
theorem ml_same {d : Nat} {t : ShT} (hd : d ≤ 5) (h : rigM (d + 1) t = true) : t.ml (meaM 5) = t.ml (meaM d) := by
  unfold ShT.ml
  exact ml_congr _ _ _ _ (fun f hf => (rig_le hd ((rig_form h).2 f.t (fs_part hf))).2)
/-- The member at a place: its node, and how it lies. -/
theorem RiN.mem {d : Nat} {x y : ShT × Int × Int} {k : Nat} (hd : d ≤ 5) (h : RiN (d + 1) x) (hs : x.1.sh = 4 ∨ x.1.sh = 5) (hk : k < x.1.fs.length) (hy : (ptsM x.1)[k]? = some y) :
    ∃ z, z ∈ x.1.ml (meaM d) ∧ z.1 = x.1.fs[k] ∧ y = (z.1.t, z.2.bit, z.2.bits) ∧ (z.1.bits < 0 → RiN d y) ∧ (0 < z.1.bits → z.1.t.sh = 1 ∧ z.2.k = z.1.t.k) := by
  obtain ⟨h1, h2, hz⟩ := h
  obtain ⟨hc, h6⟩ := chk_of (by omega) h1 hz
  obtain ⟨_, _, _, _, _, _, hfl, hll, hli⟩ := lies_facts x.1 h6 hs _ _ hc
  have hk' : k < (x.1.ml (meaM 5)).length := by omega
  obtain ⟨e1, L⟩ := hli k hk hk'
  have hmem : (x.1.ml (meaM 5))[k] ∈ x.1.ml (meaM 5) := List.getElem_mem hk'
  obtain ⟨hf, hp⟩ := rig_form h1
  have h3 : (x.1.sh == 3) = false := by simp; omega
  have hff : ffsM x.1.fs = true := (form_struct hf (by simp; omega) (by simp; omega) h3).2.2.2.2.2
  have hok : ∀ f ∈ x.1.fs, FOk f (meaM 5 f.t) := fun f hfm => by
    have hr5 : rigM 5 f.t = true := (rig_le (by omega) (hp f.t (fs_part hfm))).1
    exact fok_of (d := 5) (fun x hx => mea_ok 5 x hx) ((ffs_all hff).2.2.1 f hfm) hr5
  obtain ⟨_, en, h0, _, hlay⟩ := ml_mem (meaM 5) x.1.pk (x.1.sh == 4) x.1.fs 0 (Int.le_refl 0) hok _ hmem
  have hy' : y = ((x.1.ml (meaM 5))[k].1.t, (x.1.ml (meaM 5))[k].2.bit, (x.1.ml (meaM 5))[k].2.bits) := by
    unfold ptsM at hy
    rw [List.getElem?_map, List.getElem?_eq_getElem hk', Option.map_some] at hy
    exact (Option.some.inj hy).symm
  refine ⟨(x.1.ml (meaM 5))[k], by rw [← ml_same hd h1]; exact hmem, e1, hy', fun hneg => ?_, fun hpos => ?_⟩
  · have hfm : x.1.fs[k] ∈ x.1.fs := List.getElem_mem hk
    have hrd := hp _ (fs_part hfm)
    obtain ⟨hr5, hm5⟩ := rig_le (e := 5) (by omega) hrd
    have hc5 := L.chk
    rw [hy']
    unfold RiN
    simp only
    rw [e1] at hneg ⊢
    refine ⟨hrd, ?_, ?_⟩
    · rw [hlay, e1]
      unfold layM
      rw [if_neg (by omega), hm5]
    · rw [← hm5]
      obtain ⟨_, e6⟩ := rig_le (e := 6) (by omega) hr5
      have hz5 : (chkM x.1.fs[k].t).2 = 0 := by rw [hc5]
      have hsm := chk_small (t := x.1.fs[k].t) (by rw [hz5]; rfl)
      rw [← e6]
      exact hsm
  · have hffk := (ffs_all hff).2.2.1 _ (List.getElem_mem hk)
    rw [e1] at hpos
    unfold ffM at hffk
    rw [if_neg (by omega), if_neg (by simp; intro h; omega)] at hffk
    simp only [Bool.and_eq_true, beq_iff_eq, decide_eq_true_eq] at hffk
    refine ⟨by rw [e1]; exact hffk.1, ?_⟩
    rw [hlay]
    unfold layM layB
    rw [e1, if_pos (by omega)]
theorem RiN.arr {d : Nat} {x : ShT × Int × Int} {y : ShT} (h : RiN (d + 1) x) (h3 : (x.1.sh == 3) = true) (hy : x.1.of = [y]) : RiN d (y, 0, x.2.2 / x.1.n) := by
  have h3' : x.1.sh = 3 := by simpa using h3
  obtain ⟨h1, h2, hz⟩ := h
  obtain ⟨hf, hp⟩ := rig_form h1
  obtain ⟨_, hn, hl, _, _, _⟩ := form_arr hf h3
  have hry : rigM d y = true := hp y (by unfold ShT.parts; rw [hy]; simp)
  have hpos := mea_pos d y hry
  have hup := (mea_ok d y hry).2.1
  have hmea : meaM (d + 1) x.1 = (min (min x.1.n 65537 * (meaM d y).1) 65537, (meaM d y).2) := by
    rw [meaM, if_neg (by rw [h3']; decide), if_neg (by rw [h3']; decide), if_pos h3, hy]
  rw [hmea] at h2 hz
  simp only at h2 hz
  have hbig := big_arr hn hpos hup
  rw [show decide (65536 < min (min x.1.n 65537 * (meaM d y).1) 65537) = false by simp; omega] at hbig
  have hbg := hbig.symm
  simp only [Bool.or_eq_false_iff, decide_eq_false_iff_not] at hbg
  obtain ⟨⟨q1, q2⟩, q3⟩ := hbg
  rw [small_arr hn hpos (by omega) (by omega)] at h2
  have hdiv : x.2.2 / x.1.n = 8 * (meaM d y).1 := by
    rw [h2, show 8 * ((meaM d y).1 * x.1.n) = (8 * (meaM d y).1) * x.1.n by rw [Int.mul_assoc]]
    exact Int.mul_ediv_cancel _ (by omega)
  exact ⟨hry, hdiv, Int.not_lt.1 q1⟩
def spOf (m : Mb) : Int × Int × Int := (m.bit, m.bits, m.k)
theorem fol_leaf : ∀ (p : List Int) (d : Nat) (x : ShT × Int × Int) (fr : Int), d ≤ 6 → RiN d x → (folM x fr p).1.length = p.length → (nuM (folM x fr p).2.1.1 (folM x fr p).2.1.2.2 (folM x fr p).2.2).2 = true →
    (nuM (folM x fr p).2.1.1 (folM x fr p).2.1.2.2 (folM x fr p).2.2).1 ∈ (leaM d x.1 fr).map spOf
  | [], 0, x, fr, hd, h, _, hn => by have := h.1; cases this
  | [], d + 1, x, fr, hd, h, _, hn => by
    unfold folM at hn ⊢
    simp only at hn ⊢
    obtain ⟨h1, h2, h3⟩ := h
    unfold nuM at hn ⊢
    rw [leaM]
    rw [meaM] at h2
    split at hn
    · rename_i hs
      rw [if_pos hs] at h2 ⊢
      rw [if_pos hs]
      simp [spOf, h2]
    · rename_i hs
      split at hn
      · rename_i hs2
        rw [if_neg hs, if_pos hs2] at h2 ⊢
        rw [if_neg hs, if_pos hs2]
        simp [spOf, h2]
      · cases hn
  | s :: r, 0, x, fr, hd, h, _, hn => by have := h.1; cases this
  | s :: r, d + 1, x, fr, hd, h, hl, hn => by
    cases hst : stpM x s with
    | none => rw [fol_no hst] at hl; simp at hl
    | some q =>
      obtain ⟨j, y, b⟩ := q
      rw [fol_yes hst] at hl hn ⊢
      simp only [List.length_cons, Nat.add_right_cancel_iff] at hl hn ⊢
      have hg : GdN (d + 1) x := .inl h
      rw [leaM]
      cases h3 : x.1.sh == 3
      · have h45 := stp_sh hst h3
        have hs' : x.1.sh = 4 ∨ x.1.sh = 5 := by simpa using h45
        obtain ⟨hk, rfl, hb, rfl, hy, hme, hfl, _⟩ := stp_str_yes hd hg h45 hst
        have hprt : prtM x = ptsM x.1 := by unfold prtM; rw [if_neg (by rw [h3]; simp)]
        rw [hprt] at hy
        obtain ⟨z, hz, ez, ey, hneg, hpos⟩ := h.mem (by omega) hs' hk hy
        have hb' : (z.1.bits == 0) = false := by rw [ez]; exact hb
        rw [if_neg (by simp; omega), if_neg (by simp; omega), if_neg (by simp)]
        rw [List.map_flatMap, List.mem_flatMap]
        refine ⟨z, hz, ?_⟩
        rw [hb']
        simp only [Bool.false_eq_true, if_false]
        by_cases hp : z.1.bits > 0
        · obtain ⟨p1, p2⟩ := hpos hp
          rw [if_pos hp]
          have hy1 : y.1.sh = 1 := by rw [ey]; exact p1
          cases r with
          | nil =>
            unfold folM nuM
            simp only [hy1]
            rw [ey]
            simp [spOf, p2]
            exact Int.add_comm _ _
          | cons s2 r2 =>
            have hno : stpM y s2 = none := by
              unfold stpM
              rw [hy1]
              rfl
            rw [fol_no hno] at hl
            simp at hl
        · rw [if_neg hp]
          have hb0 : z.1.bits ≠ 0 := by simpa using hb'
          have ih := fol_leaf r d y (fr + y.2.1) (by omega) (hneg (by omega)) hl hn
          rw [show fr + y.2.1 = z.2.bit + fr by rw [ey]; exact Int.add_comm _ _] at ih
          rw [show fr + y.2.1 = z.2.bit + fr by rw [ey]; exact Int.add_comm _ _]
          rw [show z.1.t = y.1 by rw [ey]]
          exact ih
      · obtain ⟨d', z, e, hof, hn', hn1, hp, hgz, hm⟩ := hg.arr hd h3
        obtain rfl : d = d' := by omega
        obtain ⟨z', hof', h0, h1, _, _, _, _, rfl, rfl⟩ := stp_arr_yes hd hg h3 hst
        rw [hof] at hof'
        obtain rfl : z = z' := by simpa using hof'
        obtain ⟨_, _, _, hj, _, _, _⟩ := hg.step hd hst
        rw [hp] at hj
        obtain rfl : (z, 0, x.2.2 / x.1.n) = y := by simpa using hj
        have h3' : x.1.sh = 3 := by simpa using h3
        have hrz : rigM d z = true := (rig_form h.1).2 z (by unfold ShT.parts; rw [hof]; simp)
        have hri : RiN d (z, 0, x.2.2 / x.1.n) := RiN.arr h h3 hof
        have hdiv : x.2.2 / x.1.n = 8 * (meaM d z).1 := hri.2.1
        rw [if_neg (by rw [h3']; decide), if_neg (by rw [h3']; decide), if_pos (by simp), hof]
        simp only
        rw [List.map_flatMap, List.mem_flatMap]
        refine ⟨s.toNat, List.mem_range.2 (by omega), ?_⟩
        have ih := fol_leaf r d (z, 0, x.2.2 / x.1.n) (fr + s * (x.2.2 / x.1.n)) (by omega) hri hl hn
        rw [hdiv] at ih ⊢
        rw [show ((s.toNat : Nat) : Int) = s by omega]
        exact ih
theorem RiN.whole {t : ShT} (h : ((chkM t).2 == 0) = true) : RiN 6 (x0M t) := by
  have h6 := chk_ok h
  have hs := chk_small h
  obtain ⟨hc, _⟩ := chk_of (Nat.le_refl 6) h6 hs
  refine ⟨h6, ?_, hs⟩
  show 8 * (chkM t).1.1 = 8 * (meaM 6 t).1
  rw [hc]
theorem sp_leaf {t : ShT} {path : List Int} (hc : ((chkM t).2 == 0) = true) (ho : okP t path = true) : spP t path ∈ (leaM 6 t 0).map spOf := by
  obtain ⟨h1, h2⟩ := okP_iff.1 ho
  exact fol_leaf path 6 (x0M t) 0 (Nat.le_refl 6) (RiN.whole hc) h1 h2
end Go.Proofs.Ytkiebejidpebdaa
