/-
  Sets one behind the other, in a type without unions.
-/
import Derived.Test.YtkiebejidpebdaaTl
namespace Go.Proofs.Ytkiebejidpebdaa
open Go Go.RowKit Go.Shelf
set_option linter.unusedVariables false
set_option linter.unusedSimpArgs false

/-- One number written at the spot of a path. -/
def wr1 (t : ShT) (bs : List Int) (s : SetT) : List Int := (wrF bs s.v (bitL (spP t s.path).1.toNat (spP t s.path).2.1.toNat)).1
def wrL (t : ShT) (bs : List Int) (l : List SetT) : List Int := l.foldl (wr1 t) bs
theorem wr1_len (t : ShT) (bs : List Int) (s : SetT) : (wr1 t bs s).length = bs.length := wrF_len _ _ _
theorem wr1_ok (t : ShT) {bs : List Int} (h : OkB bs) (s : SetT) : OkB (wr1 t bs s) := wrF_ok h _ _
theorem wrL_len (t : ShT) : ∀ (l : List SetT) (bs : List Int), (wrL t bs l).length = bs.length
  | [], _ => rfl
  | s :: r, bs => (wrL_len t r (wr1 t bs s)).trans (wr1_len t bs s)
theorem wrL_ok (t : ShT) : ∀ (l : List SetT) {bs : List Int}, OkB bs → OkB (wrL t bs l)
  | [], _, h => h
  | s :: r, _, h => wrL_ok t r (wr1_ok t h s)
theorem wrL_snoc (t : ShT) (bs : List Int) (l : List SetT) (s : SetT) : wrL t bs (l ++ [s]) = wr1 t (wrL t bs l) s := by unfold wrL; rw [List.foldl_append]; rfl
theorem wrL_take (t : ShT) (bs : List Int) (l : List SetT) (k : Nat) (h : k < l.length) : wrL t bs (l.take (k + 1)) = wr1 t (wrL t bs (l.take k)) l[k] := by
  rw [List.take_succ_eq_append_getElem h, wrL_snoc]
theorem mkR_yes {t : ShT} (hc : ((chkM t).2 == 0) = true) (hu : huM 6 t = false) : ∀ (l : List SetT) (bs : List Int) (L : List Int → Option Int) (i : Nat), (∀ s ∈ l, okP t s.path = true) → (mkR t bs L i l).1 = some (wrL t bs l)
  | [], _, _, _, _ => rfl
  | s :: r, bs, L, i, h => by
    have h0 := h s (List.mem_cons_self ..)
    rw [mkR, if_pos h0, turM_nou _ _ _ _ (fol_nou s.path 6 (x0M t) 0 (Nat.le_refl 6) (GdN.whole hc) hu)]
    exact mkR_yes hc hu r _ L (i + 1) (fun x hx => h x (List.mem_cons_of_mem _ hx))
theorem mkR_ok {t : ShT} : ∀ (l : List SetT) (bs : List Int) (L : List Int → Option Int) (i : Nat), (mkR t bs L i l).1 ≠ none → ∀ s ∈ l, okP t s.path = true
  | [], _, _, _, _, s, hs => by cases hs
  | s0 :: r, bs, L, i, h, s, hs => by
    rw [mkR] at h
    by_cases h0 : okP t s0.path = true
    · rw [if_pos h0] at h
      rcases List.mem_cons.1 hs with rfl | hs
      · exact h0
      · exact mkR_ok r _ _ _ h s hs
    · rw [if_neg h0] at h
      exact absurd rfl h
/-- Where Make tells no error, all paths lead somewhere. -/
theorem mk_ok {t : ShT} {l : List SetT} (h : ((mkM t l).2.1 == 0) = true) : ((chkM t).2 == 0) = true ∧ ∀ s ∈ l, okP t s.path = true := by
  unfold mkM at h
  cases hc : (chkM t).2 == 0
  · rw [if_neg (by rw [hc]; simp)] at h
    simp only at h
    rw [hc] at h
    cases h
  · refine ⟨rfl, ?_⟩
    rw [if_pos hc] at h
    refine mkR_ok l (List.replicate (chkM t).1.1.toNat 0) (fun _ => none) 0 (fun hn => ?_)
    unfold mkE at h
    rw [hn] at h
    cases h
theorem mk_is {t : ShT} {l : List SetT} (hc : ((chkM t).2 == 0) = true) (hu : huM 6 t = false) (h : ∀ s ∈ l, okP t s.path = true) : mkM t l = (toB (wrL t (List.replicate (chkM t).1.1.toNat 0) l), 0, 0) := by
  unfold mkM
  rw [if_pos hc]
  unfold mkE
  rw [mkR_yes hc hu l _ _ _ h]
theorem wr1_bit {t : ShT} (hc : ((chkM t).2 == 0) = true) {s : SetT} (ho : okP t s.path = true) {bs : List Int} (hb : OkB bs) (hl : (bs.length : Int) = (chkM t).1.1) (c : Nat) :
    bL (wr1 t bs s) c = if (spP t s.path).1.toNat ≤ c ∧ c < (spP t s.path).1.toNat + (spP t s.path).2.1.toNat then oddB (s.v / 2 ^ (c - (spP t s.path).1.toNat)) else bL bs c := by
  obtain ⟨f1, f2, f3, f4⟩ := sp_fits hc ho
  exact wrF_bit hb s.v _ _ (by omega) c
/-- What is written later hides what was written at the same spot before. -/
theorem wrL_hides {t : ShT} (hc : ((chkM t).2 == 0) = true) (last : SetT) (v : Int) (p : Option Addr) (cap : Nat) (ho : okP t last.path = true) : ∀ (l : List SetT) (x y : List Int), (∀ s ∈ l, okP t s.path = true) → OkB x → OkB y → x.length = y.length → (x.length : Int) = (chkM t).1.1 →
    (∀ c, ¬ ((spP t last.path).1.toNat ≤ c ∧ c < (spP t last.path).1.toNat + (spP t last.path).2.1.toNat) → bL x c = bL y c) → wr1 t (wrL t x l) last = wr1 t (wrL t y l) last
  | [], x, y, _, hx, hy, hl, hn, he => by
    refine bits_ext (wr1_ok t hx _) (wr1_ok t hy _) (by rw [wr1_len, wr1_len]; exact hl) fun c => ?_
    show bL (wr1 t x last) c = bL (wr1 t y last) c
    rw [wr1_bit hc ho hx hn, wr1_bit hc ho hy (by rw [← hl]; exact hn)]
    split
    · rfl
    · rename_i h
      exact he c h
  | s :: r, x, y, h, hx, hy, hl, hn, he => by
    have h0 := h s (List.mem_cons_self ..)
    refine wrL_hides hc last v p cap ho r (wr1 t x s) (wr1 t y s) (fun z hz => h z (List.mem_cons_of_mem _ hz)) (wr1_ok t hx s) (wr1_ok t hy s) (by rw [wr1_len, wr1_len]; exact hl) (by rw [wr1_len]; exact hn) (fun c hd => ?_)
    rw [wr1_bit hc h0 hx hn, wr1_bit hc h0 hy (by rw [← hl]; exact hn)]
    split
    · rfl
    · exact he c hd
/-- The last set's path once more, ahead of all: nothing turns. -/
theorem wrL_again {t : ShT} (hc : ((chkM t).2 == 0) = true) (l : List SetT) (n : Nat) (hn : n + 1 = l.length) (h : ∀ s ∈ l, okP t s.path = true) (v : Int) (p : Option Addr) (cap : Nat) (z : List Int) (hz : OkB z) (hzl : (z.length : Int) = (chkM t).1.1) :
    wrL t z (⟨p, cap, l[n].path, v⟩ :: l) = wrL t z l := by
  have hl : l = l.take n ++ [l[n]] := by
    rw [← List.take_succ_eq_append_getElem (by omega), hn, List.take_length]
  have ho := h l[n] (List.getElem_mem (by omega))
  show wrL t (wr1 t z ⟨p, cap, l[n].path, v⟩) l = wrL t z l
  have key := wrL_hides hc l[n] v p cap ho (l.take n) (wr1 t z ⟨p, cap, l[n].path, v⟩) z (fun s hs => h s (List.mem_of_mem_take hs)) (wr1_ok t hz _) hz (wr1_len t z _) (by rw [wr1_len]; exact hzl) (fun c hd => by
    rw [wr1_bit (s := ⟨p, cap, l[n].path, v⟩) hc ho hz hzl, if_neg hd])
  generalize l[n] = x at *
  generalize l.take n = m at *
  rw [hl, wrL_snoc, wrL_snoc]
  exact key
/-- Put on bytes of the type's size. -/
theorem pt_on {t : ShT} (hc : ((chkM t).2 == 0) = true) {s : SetT} (ho : okP t s.path = true) {bs : List Int} (hb : OkB bs) (hl : (bs.length : Int) = (chkM t).1.1) : ptM t (toB bs) s.path s.v = (toB (wr1 t bs s), 0) := by
  unfold ptM
  rw [fi_of hc ho (by rw [toB_len]; exact hl), ofB_to hb]
  simp only [beq_self_eq_true, if_true]
  rfl
end Go.Proofs.Ytkiebejidpebdaa
