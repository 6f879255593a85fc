/-
  Package image: nodes in numbers: where a step leads.
-/
import Derived.Test.YtkiebejidpebdaaZ8
import Derived.Test.YtkiebejidpebdaaZ4
import Derived.Test.YtkiebejidpebdaaZ9
namespace Go.Proofs.Ytkiebejidpebdaa
open Go Go.RowKit Go.Shelf
set_option linter.unusedVariables false
set_option linter.unusedSimpArgs false

/-- Where a step leads from a node: the place among its parts, the part, how far it lies from the node's beginning. -/
def stpM (x : ShT × Int × Int) (s : Int) : Option (Nat × (ShT × Int × Int) × Int) :=
  if x.1.sh == 3 then (if s < 0 then none else if s ≥ x.1.n then none else (prtM x)[0]?.map (fun y => (0, y, s * (x.2.2 / x.1.n))))
  else if x.1.sh == 4 || x.1.sh == 5 then (if memB x.1 s then (prtM x)[s.toNat]?.map (fun y => (s.toNat, y, y.2.1)) else none)
  else none
/-- A path that is gone: what it comes through, and what it comes to. -/
def folM (x : ShT × Int × Int) (fr : Int) : List Int → List ((ShT × Int × Int) × Int × Int) × (ShT × Int × Int) × Int
  | [] => ([], x, fr)
  | s :: r => match stpM x s with
    | none => ([], x, fr)
    | some (_, y, b) => ((x, fr, s) :: (folM y (fr + b) r).1, (folM y (fr + b) r).2)
theorem fol_no {x : ShT × Int × Int} {s : Int} (h : stpM x s = none) (fr : Int) (r : List Int) : folM x fr (s :: r) = ([], x, fr) := by rw [folM, h]
theorem fol_yes {x y : ShT × Int × Int} {s b : Int} {j : Nat} (h : stpM x s = some (j, y, b)) (fr : Int) (r : List Int) : folM x fr (s :: r) = ((x, fr, s) :: (folM y (fr + b) r).1, (folM y (fr + b) r).2) := by rw [folM, h]
theorem rig_le {t : ShT} : ∀ {e d : Nat}, d ≤ e → rigM d t = true → rigM e t = true ∧ meaM e t = meaM d t
  | 0, d, h, hr => by
    obtain rfl : d = 0 := by omega
    exact ⟨hr, rfl⟩
  | e + 1, d, h, hr => by
    rcases Nat.lt_or_ge e d with hl | hl
    · obtain rfl : d = e + 1 := by omega
      exact ⟨hr, rfl⟩
    · obtain ⟨h1, h2⟩ := rig_le hl hr
      obtain ⟨h3, h4⟩ := rig_up e t h1
      exact ⟨h3, h4.trans h2⟩
/-- A node as it may be: of a right type, or a bit-field. -/
def GdN (d : Nat) (x : ShT × Int × Int) : Prop :=
  (rigM d x.1 = true ∧ x.2.2 = 8 * (meaM d x.1).1 ∧ (meaM d x.1).1 ≤ 65536) ∨ (1 ≤ d ∧ x.1.sh = 1 ∧ 0 < x.2.2 ∧ x.2.2 ≤ 64)
theorem chk_of {d : Nat} {t : ShT} (hd : d ≤ 6) (h : rigM d t = true) (hz : (meaM d t).1 ≤ 65536) : chkM t = (meaM d t, 0) ∧ rigM 6 t = true := by
  obtain ⟨h6, hm⟩ := rig_le hd h
  refine ⟨?_, h6⟩
  unfold chkM
  rw [if_pos h6, hm, if_neg (by omega)]
theorem GdN.bits {d : Nat} {x : ShT × Int × Int} (h : GdN d x) : 0 < x.2.2 ∧ x.2.2 ≤ 524288 := by
  rcases h with ⟨h1, h2, h3⟩ | ⟨_, _, h2, h3⟩
  · have := mea_pos d x.1 h1
    omega
  · omega
/-- What element is asked. -/
theorem GdN.arr {d : Nat} {x : ShT × Int × Int} (hd : d ≤ 6) (h : GdN d x) (h3 : (x.1.sh == 3) = true) : ∃ d' y, d = d' + 1 ∧ x.1.of = [y] ∧ x.1.n ≤ 65536 ∧ 1 ≤ x.1.n ∧ prtM x = [(y, 0, x.2.2 / x.1.n)] ∧ GdN d' (y, 0, x.2.2 / x.1.n) ∧ x.2.2 = x.1.n * (x.2.2 / x.1.n) := by
  have h3' : x.1.sh = 3 := by simpa using h3
  rcases h with ⟨h1, h2, hz⟩ | ⟨_, h1, _⟩
  · cases d with
    | zero => cases h1
    | succ d =>
      obtain ⟨hf, hp⟩ := rig_form h1
      obtain ⟨_, hn, hl, _, _, _⟩ := form_arr hf h3
      obtain ⟨y, hy⟩ : ∃ y, x.1.of = [y] := by
        cases h : x.1.of with
        | nil => rw [h] at hl; cases hl
        | cons y r => cases r with
          | nil => exact ⟨y, rfl⟩
          | cons z r => rw [h] at hl; simp at hl
      have hry : rigM d y = true := hp y (by unfold ShT.parts; rw [hy]; simp)
      have hpos := mea_pos d y hry
      have hup := (mea_ok d y hry).2.1
      have hmea : meaM (d + 1) x.1 = (min (min x.1.n 65537 * (meaM d y).1) 65537, (meaM d y).2) := by
        rw [meaM, if_neg (by rw [h3']; decide), if_neg (by rw [h3']; decide), if_pos h3, hy]
      rw [hmea] at h2 hz
      simp only at h2 hz
      have hbig := big_arr hn hpos hup
      rw [show decide (65536 < min (min x.1.n 65537 * (meaM d y).1) 65537) = false by simp; omega] at hbig
      have hbg := hbig.symm
      simp only [Bool.or_eq_false_iff, decide_eq_false_iff_not] at hbg
      obtain ⟨⟨q1, q2⟩, q3⟩ := hbg
      rw [small_arr hn hpos (by omega) (by omega)] at h2
      have hdiv : x.2.2 / x.1.n = 8 * (meaM d y).1 := by
        rw [h2, show 8 * ((meaM d y).1 * x.1.n) = (8 * (meaM d y).1) * x.1.n by rw [Int.mul_assoc]]
        exact Int.mul_ediv_cancel _ (by omega)
      refine ⟨d, y, rfl, hy, by omega, hn, ?_, .inl ⟨hry, hdiv, Int.not_lt.1 q1⟩, ?_⟩
      · unfold prtM
        rw [if_pos h3, hy]
      · rw [hdiv, h2]
        rw [Int.mul_comm x.1.n, Int.mul_assoc]
  · omega
/-- What member is asked. -/
theorem GdN.str {d : Nat} {x : ShT × Int × Int} (hd : d ≤ 6) (h : GdN d x) (hs : (x.1.sh == 4 || x.1.sh == 5) = true) :
    ∃ d', d = d' + 1 ∧ memL x.1 = ((x.1.ml (meaM 5)).map Prod.snd, 0) ∧ x.1.fs.length ≤ 40 ∧ prtM x = ptsM x.1 ∧ (ptsM x.1).length = x.1.fs.length ∧ (x.1.sh == 3) = false ∧
      ∀ (k : Nat) (hk : k < x.1.fs.length), (x.1.fs[k].bits == 0) = false → ∃ y, (prtM x)[k]? = some y ∧ y.1 = x.1.fs[k].t ∧ GdN d' y ∧ 0 ≤ y.2.1 ∧ y.2.1 + y.2.2 ≤ x.2.2 := by
  have hs' : x.1.sh = 4 ∨ x.1.sh = 5 := by simpa using hs
  have h3 : (x.1.sh == 3) = false := by simp; omega
  rcases h with ⟨h1, h2, hz⟩ | ⟨_, h1, _⟩
  · obtain ⟨hc, h6⟩ := chk_of hd h1 hz
    have hme : memL x.1 = ((x.1.ml (meaM 5)).map Prod.snd, 0) := by
      unfold memL
      rw [hc]
      simp [hs]
    obtain ⟨_, _, _, _, _, _, hfl, hll, hli⟩ := lies_facts x.1 h6 hs' _ _ hc
    have hprt : prtM x = ptsM x.1 := by unfold prtM; rw [if_neg (by rw [h3]; simp)]
    have hpl : (ptsM x.1).length = x.1.fs.length := by unfold ptsM; rw [List.length_map, hll]
    cases d with
    | zero => cases h1
    | succ d =>
      obtain ⟨hf, hp⟩ := rig_form h1
      have hff : ffsM x.1.fs = true := (form_struct hf (by simp; omega) (by simp; omega) h3).2.2.2.2.2
      refine ⟨d, rfl, hme, hfl, hprt, hpl, h3, fun k hk hb => ?_⟩
      have hk' : k < (x.1.ml (meaM 5)).length := by omega
      obtain ⟨e1, L⟩ := hli k hk hk'
      have hmem : (x.1.ml (meaM 5))[k] ∈ x.1.ml (meaM 5) := List.getElem_mem hk'
      have hok : ∀ f ∈ x.1.fs, FOk f (meaM 5 f.t) := fun f hfm => by
        have hr5 : rigM 5 f.t = true := (rig_le (by omega) (hp f.t (fs_part hfm))).1
        exact fok_of (d := 5) (fun x hx => mea_ok 5 x hx) ((ffs_all hff).2.2.1 f hfm) hr5
      obtain ⟨_, en, h0, _, hlay⟩ := ml_mem (meaM 5) x.1.pk (x.1.sh == 4) x.1.fs 0 (Int.le_refl 0) hok _ hmem
      refine ⟨(x.1.fs[k].t, ((x.1.ml (meaM 5))[k]).2.bit, ((x.1.ml (meaM 5))[k]).2.bits), ?_, rfl, ?_, L.b0, ?_⟩
      · rw [hprt]
        unfold ptsM
        rw [List.getElem?_map, List.getElem?_eq_getElem hk', Option.map_some, e1]
      · have hfm : x.1.fs[k] ∈ x.1.fs := List.getElem_mem hk
        have hrd := hp _ (fs_part hfm)
        obtain ⟨hr5, hm5⟩ := rig_le (e := 5) (by omega) hrd
        have hc5 := L.chk
        have hffk := (ffs_all hff).2.2.1 _ hfm
        by_cases hneg : x.1.fs[k].bits < 0
        · refine .inl ⟨hrd, ?_, ?_⟩
          · show ((x.1.ml (meaM 5))[k]).2.bits = _
            rw [hlay, e1]
            unfold layM
            rw [if_neg (by omega), hm5]
          · rw [← hm5]
            obtain ⟨_, e6⟩ := rig_le (e := 6) (by omega) hr5
            have hz5 : (chkM x.1.fs[k].t).2 = 0 := by rw [hc5]
            have hsm := chk_small (t := x.1.fs[k].t) (by rw [hz5]; rfl)
            rw [← e6]
            exact hsm
        · have hb0 : x.1.fs[k].bits ≠ 0 := by simpa using hb
          unfold ffM at hffk
          rw [if_neg hneg, if_neg (by simp; intro h; exact absurd h hb0)] at hffk
          simp only [Bool.and_eq_true, beq_iff_eq, decide_eq_true_eq] at hffk
          obtain ⟨q1, q2⟩ := L.bi (by omega)
          have hsz := siz_cases x.1.fs[k].t.k
          cases d with
          | zero => cases hrd
          | succ d => exact .inr ⟨by omega, hffk.1, by show 0 < ((x.1.ml (meaM 5))[k]).2.bits; omega, by show ((x.1.ml (meaM 5))[k]).2.bits ≤ 64; omega⟩
      · have := L.le
        show ((x.1.ml (meaM 5))[k]).2.bit + ((x.1.ml (meaM 5))[k]).2.bits ≤ x.2.2
        omega
  · omega
/-- Each step leads to a node as it may be, within. -/
theorem GdN.step {d : Nat} {x y : ShT × Int × Int} {s b : Int} {j : Nat} (hd : d ≤ 6) (h : GdN d x) (hs : stpM x s = some (j, y, b)) :
    ∃ d', d = d' + 1 ∧ GdN d' y ∧ (prtM x)[j]? = some y ∧ y.1 ∈ x.1.parts ∧ 0 ≤ b ∧ b + y.2.2 ≤ x.2.2 := by
  unfold stpM at hs
  split at hs
  · rename_i h3
    split at hs
    · cases hs
    · split at hs
      · cases hs
      · rename_i hs0 hs1
        obtain ⟨d', z, rfl, hof, hn, hn1, hp, hg, hm⟩ := h.arr hd h3
        rw [hp] at hs
        simp only [List.getElem?_cons_zero, Option.map_some, Option.some.injEq, Prod.mk.injEq] at hs
        obtain ⟨rfl, rfl, rfl⟩ := hs
        have hb := hg.bits
        simp only at hb
        refine ⟨d', rfl, hg, by rw [hp]; rfl, by unfold ShT.parts; rw [hof]; simp, Int.mul_nonneg (by omega) (by omega), ?_⟩
        simp only
        have h1 : (s + 1) * (x.2.2 / x.1.n) ≤ x.1.n * (x.2.2 / x.1.n) := Int.mul_le_mul_of_nonneg_right (by omega) (by omega)
        rw [Int.add_mul, Int.one_mul] at h1
        omega
  · split at hs
    · rename_i h45
      split at hs
      · rename_i hmb
        obtain ⟨d', rfl, hme, hfl, hp, hpl, h3, hy⟩ := h.str hd h45
        unfold memB at hmb
        split at hmb
        · cases hmb
        · rename_i hs0
          cases hk : x.1.fs[s.toNat]? with
          | none => rw [hk] at hmb; cases hmb
          | some f =>
            obtain ⟨hkl, hfe⟩ := List.getElem?_eq_some_iff.1 hk
            rw [hk] at hmb
            simp only [Bool.not_eq_true'] at hmb
            obtain ⟨z, hz, hzt, hgz, hz0, hz1⟩ := hy s.toNat hkl (by rw [hfe]; exact hmb)
            rw [hz] at hs
            simp only [Option.map_some, Option.some.injEq, Prod.mk.injEq] at hs
            obtain ⟨rfl, rfl, rfl⟩ := hs
            refine ⟨d', rfl, hgz, hz, ?_, hz0, hz1⟩
            rw [hzt]
            exact fs_part (List.getElem_mem hkl)
      · cases hs
    · cases hs
theorem fol_len : ∀ (p : List Int) (x : ShT × Int × Int) (fr : Int), (folM x fr p).1.length ≤ p.length
  | [], _, _ => Nat.le_refl _
  | s :: r, x, fr => by
    unfold folM
    split
    · simp
    · rename_i y b _
      have := fol_len r y (fr + b)
      simp only [List.length_cons]
      omega
/-- What a path comes to is a node as it may be, and lies within. -/
theorem fol_end : ∀ (p : List Int) (d : Nat) (x : ShT × Int × Int) (fr : Int), d ≤ 6 → GdN d x → ∃ d', d' + (folM x fr p).1.length = d ∧ GdN d' (folM x fr p).2.1 ∧ fr ≤ (folM x fr p).2.2 ∧ (folM x fr p).2.2 + (folM x fr p).2.1.2.2 ≤ fr + x.2.2
  | [], d, x, fr, hd, h => ⟨d, rfl, h, Int.le_refl _, Int.le_refl _⟩
  | s :: r, d, x, fr, hd, h => by
    unfold folM
    split
    · exact ⟨d, rfl, h, Int.le_refl _, Int.le_refl _⟩
    · rename_i j y b hs
      obtain ⟨d', rfl, hg, _, _, hb, hbb⟩ := h.step hd hs
      obtain ⟨e, he, hge, h1, h2⟩ := fol_end r d' y (fr + b) (by omega) hg
      refine ⟨e, by simp only [List.length_cons]; omega, hge, ?_, ?_⟩
      · show fr ≤ (folM y (fr + b) r).2.2; omega
      · show (folM y (fr + b) r).2.2 + (folM y (fr + b) r).2.1.2.2 ≤ fr + x.2.2; omega
theorem stp_arr_no {d : Nat} {x : ShT × Int × Int} {s : Int} (hd : d ≤ 6) (h : GdN d x) (h3 : (x.1.sh == 3) = true) (hs : stpM x s = none) : s < 0 ∨ s ≥ x.1.n := by
  obtain ⟨d', z, rfl, hof, hn, hn1, hp, hg, hm⟩ := h.arr hd h3
  unfold stpM at hs
  rw [if_pos h3, hp] at hs
  split at hs
  · exact .inl (by assumption)
  · split at hs
    · exact .inr (by assumption)
    · cases hs
theorem stp_arr_yes {d : Nat} {x y : ShT × Int × Int} {s b : Int} {j : Nat} (hd : d ≤ 6) (h : GdN d x) (h3 : (x.1.sh == 3) = true) (hs : stpM x s = some (j, y, b)) :
    ∃ z, x.1.of = [z] ∧ 0 ≤ s ∧ s < x.1.n ∧ x.1.n ≤ 65536 ∧ 0 ≤ x.2.2 ∧ x.2.2 ≤ 524288 ∧ s * (x.2.2 / x.1.n) ≤ 524288 ∧ j = 0 ∧ b = s * (x.2.2 / x.1.n) := by
  obtain ⟨_, _, _, _, _, hb0, hb1⟩ := h.step hd hs
  obtain ⟨d', z, rfl, hof, hn, hn1, hp, hg, hm⟩ := h.arr hd h3
  have hb := h.bits
  have hgb := hg.bits
  simp only at hgb
  unfold stpM at hs
  rw [if_pos h3, hp] at hs
  split at hs
  · cases hs
  · split at hs
    · cases hs
    · simp only [List.getElem?_cons_zero, Option.map_some, Option.some.injEq, Prod.mk.injEq] at hs
      obtain ⟨rfl, rfl, rfl⟩ := hs
      refine ⟨z, hof, by omega, by omega, hn, by omega, hb.2, ?_, rfl, rfl⟩
      simp only at hb1
      omega
theorem stp_str_no {d : Nat} {x : ShT × Int × Int} {s : Int} (hd : d ≤ 6) (h : GdN d x) (hh : (x.1.sh == 4 || x.1.sh == 5) = true) (hs : stpM x s = none) : memB x.1 s = false := by
  obtain ⟨d', rfl, hme, hfl, hp, hpl, h3, hy⟩ := h.str hd hh
  unfold stpM at hs
  rw [if_neg (by rw [h3]; simp), if_pos hh] at hs
  cases hm : memB x.1 s
  · rfl
  · rw [if_pos hm] at hs
    unfold memB at hm
    split at hm
    · cases hm
    · cases hk : x.1.fs[s.toNat]? with
      | none => rw [hk] at hm; cases hm
      | some f =>
        obtain ⟨hkl, hfe⟩ := List.getElem?_eq_some_iff.1 hk
        rw [hk] at hm
        simp only [Bool.not_eq_true'] at hm
        obtain ⟨z, hz, _⟩ := hy s.toNat hkl (by rw [hfe]; exact hm)
        rw [hz] at hs
        cases hs
theorem stp_str_yes {d : Nat} {x y : ShT × Int × Int} {s b : Int} {j : Nat} (hd : d ≤ 6) (h : GdN d x) (hh : (x.1.sh == 4 || x.1.sh == 5) = true) (hs : stpM x s = some (j, y, b)) :
    ∃ hk : j < x.1.fs.length, s = (j : Int) ∧ (x.1.fs[j].bits == 0) = false ∧ b = y.2.1 ∧ (prtM x)[j]? = some y ∧ memL x.1 = ((x.1.ml (meaM 5)).map Prod.snd, 0) ∧ x.1.fs.length ≤ 40 ∧ (x.1.sh == 3) = false := by
  obtain ⟨d', rfl, hme, hfl, hp, hpl, h3, hy⟩ := h.str hd hh
  unfold stpM at hs
  rw [if_neg (by rw [h3]; simp), if_pos hh] at hs
  split at hs
  · rename_i hm
    unfold memB at hm
    split at hm
    · cases hm
    · rename_i hs0
      cases hk : x.1.fs[s.toNat]? with
      | none => rw [hk] at hm; cases hm
      | some f =>
        obtain ⟨hkl, hfe⟩ := List.getElem?_eq_some_iff.1 hk
        rw [hk] at hm
        simp only [Bool.not_eq_true'] at hm
        obtain ⟨z, hz, _⟩ := hy s.toNat hkl (by rw [hfe]; exact hm)
        rw [hz] at hs
        simp only [Option.map_some, Option.some.injEq, Prod.mk.injEq] at hs
        obtain ⟨rfl, rfl, rfl⟩ := hs
        exact ⟨hkl, by omega, by rw [hfe]; exact hm, rfl, hz, hme, hfl, h3⟩
  · cases hs
theorem stp_sh {x y : ShT × Int × Int} {s b : Int} {j : Nat} (hs : stpM x s = some (j, y, b)) (h3 : (x.1.sh == 3) = false) : (x.1.sh == 4 || x.1.sh == 5) = true := by
  unfold stpM at hs
  rw [if_neg (by rw [h3]; simp)] at hs
  split at hs
  · assumption
  · cases hs
end Go.Proofs.Ytkiebejidpebdaa
