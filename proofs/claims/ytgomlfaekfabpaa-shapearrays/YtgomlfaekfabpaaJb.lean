/-
  Names of members, on lists: what named tells is that one has a name, and that none has another one's.
-/
import Derived.Test.YtgomlfaekfabpaaUl
namespace Go.Proofs.Ytgomlfaekfabpaa
open Go Go.RowKit
set_option linter.unusedVariables false
set_option linter.unusedSimpArgs false

/-- None that has a name has one that stands behind it. -/
def dsM : List (List UInt8) → Bool
  | [] => true
  | x :: r => !(!x.isEmpty && decide (x ∈ r)) && dsM r
def hasN (l : List (List UInt8)) : Bool := l.any fun x => !x.isEmpty
theorem nds_facts : ∀ l : List (List UInt8), 
    (nds l : Int) - (if ([] : List UInt8) ∈ l then 1 else 0) + (l.count [] : Nat) ≤ (l.length : Nat) ∧
    (((nds l : Int) - (if ([] : List UInt8) ∈ l then 1 else 0) + (l.count [] : Nat) = (l.length : Nat)) ↔ dsM l = true) ∧
    0 ≤ (nds l : Int) - (if ([] : List UInt8) ∈ l then 1 else 0) ∧
    ((0 < (nds l : Int) - (if ([] : List UInt8) ∈ l then 1 else 0)) ↔ hasN l = true)
  | [] => by simp [nds, dsM, hasN]
  | x :: r => by
    obtain ⟨h1, h2, h3, h4⟩ := nds_facts r
    unfold hasN at h4 ⊢
    simp only [nds, dsM, List.length_cons, List.any_cons]
    by_cases hx : x = []
    · subst hx
      simp only [List.isEmpty_nil, Bool.not_true, Bool.false_and, Bool.not_false, Bool.true_and, Bool.false_or, List.mem_cons_self, if_true, List.count_cons_self]
      by_cases hm : ([] : List UInt8) ∈ r
      · simp only [hm, if_true] at h1 h2 h3 h4 ⊢
        refine ⟨by omega, ?_, by omega, h4⟩
        rw [← h2]; omega
      · simp only [hm, if_false] at h1 h2 h3 h4 ⊢
        refine ⟨by omega, ?_, by omega, ?_⟩
        · rw [← h2]; omega
        · rw [← h4]; omega
    · have hxe : x.isEmpty = false := by cases x with | nil => exact absurd rfl hx | cons => rfl
      have hne : ¬ ([] : List UInt8) = x := fun h => hx h.symm
      have hc : List.count [] (x :: r) = List.count [] r := List.count_cons_of_ne (by simpa using hx)
      have hm0 : (([] : List UInt8) ∈ x :: r) = ([] ∈ r) := by simp [hne]
      simp only [hxe, Bool.not_false, Bool.true_and, Bool.true_or, hc, hm0, iff_true]
      generalize (if ([] : List UInt8) ∈ r then (1 : Int) else 0) = z at *
      by_cases hm : x ∈ r
      · simp only [hm, if_true, decide_true, Bool.not_true, Bool.false_and, Bool.false_eq_true, iff_false]
        have hany : (r.any fun x => !x.isEmpty) = true := List.any_eq_true.2 ⟨x, hm, by simp [hxe]⟩
        refine ⟨by omega, by omega, by omega, h4.2 hany⟩
      · simp only [hm, if_false, decide_false, Bool.not_false, Bool.true_and]
        refine ⟨by omega, ?_, by omega, by omega⟩
        rw [← h2]; omega
theorem nam_is (ns : List (List UInt8)) : namM ns = (hasN ns && dsM ns.reverse) := by
  obtain ⟨h1, h2, h3, h4⟩ := nds_facts ns.reverse
  have hh : hasN ns.reverse = hasN ns := by unfold hasN; simp
  simp only [List.mem_reverse, List.count_reverse, List.length_reverse, hh] at h1 h2 h3 h4
  unfold namM
  simp only
  congr 1
  · rw [Bool.eq_iff_iff, decide_eq_true_eq]; exact h4
  · rw [Bool.eq_iff_iff, beq_iff_eq]; exact h2
theorem ds_app : ∀ {a b : List (List UInt8)}, dsM b = false → dsM (a ++ b) = false
  | [], b, h => h
  | x :: r, b, h => by rw [List.cons_append, dsM, ds_app h, Bool.and_false]
/-- A name that came ahead. -/
theorem ds_no {ns : List (List UInt8)} {k m : Nat} (hk : k < ns.length) (hm : m < k) (he : ns[k].isEmpty = false) (h : ns[m] = ns[k]) : dsM ns.reverse = false := by
  have h1 : ns = ns.take k ++ ns[k] :: ns.drop (k + 1) := by
    rw [← List.drop_eq_getElem_cons hk, List.take_append_drop]
  have h2 : ns.reverse = (ns.drop (k + 1)).reverse ++ (ns[k] :: (ns.take k).reverse) := by
    conv => lhs; rw [h1]
    simp
  rw [h2]
  refine ds_app ?_
  rw [dsM, he]
  have : ns[k] ∈ (ns.take k).reverse := by
    rw [List.mem_reverse, ← h, List.mem_take_iff_getElem]
    exact ⟨m, by omega, rfl⟩
  simp [this]
theorem ds_step {ns : List (List UInt8)} {k : Nat} (hk : k < ns.length) (h0 : dsM (ns.take k).reverse = true) (h : ns[k].isEmpty = true ∨ ∀ m, (hm : m < k) → ns[m] ≠ ns[k]) : dsM (ns.take (k + 1)).reverse = true := by
  rw [List.take_succ_eq_append_getElem hk]
  simp only [List.reverse_append, List.reverse_cons, List.reverse_nil, List.nil_append, List.cons_append, dsM, h0, Bool.and_true]
  rcases h with h | h
  · simp [h]
  · have : ¬ ns[k] ∈ (ns.take k).reverse := by
      rw [List.mem_reverse, List.mem_take_iff_getElem]
      rintro ⟨m, hm, e⟩
      exact h m (by omega) e
    simp [this]
/-- What the document asks of members: each is right, and named so. -/
def rfM (d : Nat) (l : List (FdOf ShT)) : Bool := ffsM l && l.all fun f => rigM d f.t
theorem rf_bad {d : Nat} {l : List (FdOf ShT)} {f : FdOf ShT} (hf : f ∈ l) (h : (rigM d f.t && ffM f) = false) : rfM d l = false := by
  unfold rfM ffsM
  cases hr : rigM d f.t
  · have : (l.all fun f => rigM d f.t) = false := List.all_eq_false.2 ⟨f, hf, by simp [hr]⟩
    rw [this, Bool.and_false]
  · rw [hr, Bool.true_and] at h
    have : l.all ffM = false := List.all_eq_false.2 ⟨f, hf, by simp [h]⟩
    rw [this]; simp
theorem rf_dup {d : Nat} {l : List (FdOf ShT)} {k m : Nat} (hk : k < l.length) (hm : m < k) (he : l[k].nm.isEmpty = false) (h : l[m].nm = l[k].nm) : rfM d l = false := by
  unfold rfM ffsM
  rw [nam_is, ds_no (ns := l.map FdOf.nm) (k := k) (m := m) (by simpa using hk) hm (by simpa using he) (by simpa using h)]
  simp
theorem rf_end {d : Nat} {l : List (FdOf ShT)} (hall : ∀ x ∈ l, (rigM d x.t && ffM x) = true) (hd : dsM (l.map FdOf.nm).reverse = true) : rfM d l = (hasN (l.map FdOf.nm) && decide (l.length ≤ 40)) := by
  unfold rfM ffsM
  have h1 : l.all ffM = true := List.all_eq_true.2 fun x hx => by have := hall x hx; simp only [Bool.and_eq_true] at this; exact this.2
  have h2 : (l.all fun f => rigM d f.t) = true := List.all_eq_true.2 fun x hx => by have := hall x hx; simp only [Bool.and_eq_true] at this; exact this.1
  rw [h1, h2, nam_is, hd]
  simp only [Bool.and_true]
  cases l with
  | nil => simp [hasN]
  | cons x r => simp; rw [Bool.and_comm]
/-- Right types, shape by shape. -/
theorem rig_int {d : Nat} {t : ShT} (h : (t.sh == 1) = true) : rigM (d + 1) t = ((t.fs.length == 0 && !t.pk && t.al == 0) && kiM t.k && t.n == 0 && t.of.length == 0) := by
  unfold rigM formM formW ShT.parts
  rw [h]
  simp only [if_true]
  have hk : decide (0 < sizM t.k) = kiM t.k := by rcases siz_cases t.k with ⟨a, b⟩ | ⟨a, b⟩ <;> rw [b] <;> simp <;> omega
  rw [hk]
  cases h1 : t.fs.length == 0
  · simp
  · cases h2 : t.of.length == 0
    · simp
    · have e1 : t.fs = [] := by simpa using h1
      have e2 : t.of = [] := by simpa using h2
      rw [e1, e2]
      simp
      cases t.n == 0 <;> cases t.pk <;> cases t.al == 0 <;> cases kiM t.k <;> rfl
theorem rig_ptr {d : Nat} {t : ShT} (h1 : (t.sh == 1) = false) (h : (t.sh == 2) = true) : rigM (d + 1) t = ((t.fs.length == 0 && !t.pk && t.al == 0) && t.k == 0 && t.n == 0 && t.of.length == 0) := by
  unfold rigM formM formW ShT.parts
  rw [h1, h]
  simp only [if_true, Bool.false_eq_true, if_false]
  cases h1 : t.fs.length == 0
  · simp
  · cases h2 : t.of.length == 0
    · simp
    · have e1 : t.fs = [] := by simpa using h1
      have e2 : t.of = [] := by simpa using h2
      rw [e1, e2]
      simp
      cases t.n == 0 <;> cases t.pk <;> cases t.al == 0 <;> cases t.k == 0 <;> rfl
theorem rig_arr_no {d : Nat} {t : ShT} (h3 : (t.sh == 3) = true) (h : ((t.fs.length == 0 && !t.pk && t.al == 0) && t.k == 0 && decide (1 ≤ t.n) && t.of.length == 1) = false) : rigM (d + 1) t = false := by
  have hs : t.sh = 3 := by simpa using h3
  unfold rigM formM formW
  rw [hs]
  simp only [Int.reduceBEq, Bool.false_eq_true, if_false, if_true]
  rw [h, Bool.false_and]
theorem rig_arr {d : Nat} {t x : ShT} (h3 : (t.sh == 3) = true) (h : ((t.fs.length == 0 && !t.pk && t.al == 0) && t.k == 0 && decide (1 ≤ t.n) && t.of.length == 1) = true) (hx : t.of = [x]) : rigM (d + 1) t = rigM d x := by
  have hs : t.sh = 3 := by simpa using h3
  show (formM t && t.parts.all (rigM d)) = rigM d x
  unfold formM formW
  rw [hs]
  simp only [Int.reduceBEq, Bool.false_eq_true, if_false, if_true]
  rw [h, Bool.true_and]
  have e1 : t.fs = [] := by
    simp only [Bool.and_eq_true, beq_iff_eq, List.length_eq_zero_iff] at h
    exact h.1.1.1.1.1
  unfold ShT.parts
  rw [hx, e1]
  simp
theorem rig_mem {d : Nat} {t : ShT} (h : (t.sh == 4 || t.sh == 5) = true) : rigM (d + 1) t = (t.k == 0 && t.n == 0 && t.of.length == 0 && aliM t.al && rfM d t.fs) := by
  have hs : t.sh = 4 ∨ t.sh = 5 := by simpa using h
  unfold rigM formM formW rfM ShT.parts
  rw [h]
  have h1 : (t.sh == 1) = false := by simp; omega
  have h2 : (t.sh == 2) = false := by simp; omega
  have h3 : (t.sh == 3) = false := by simp; omega
  rw [h1, h2, h3]
  simp only [if_true, Bool.false_eq_true, if_false]
  cases h4 : t.of.length == 0
  · simp
  · have e2 : t.of = [] := by simpa using h4
    rw [e2]
    simp only [List.nil_append, List.all_map, Function.comp_def, Bool.and_true]
    cases t.n == 0 <;> cases t.k == 0 <;> cases aliM t.al <;> simp
theorem rig_none {d : Nat} {t : ShT} (h1 : (t.sh == 1) = false) (h2 : (t.sh == 2) = false) (h3 : (t.sh == 3) = false) (h4 : (t.sh == 4) = false) (h5 : (t.sh == 5) = false) : rigM (d + 1) t = false := by
  unfold rigM formM formW
  rw [h1, h2, h3, h4, h5]
  simp
end Go.Proofs.Ytgomlfaekfabpaa
