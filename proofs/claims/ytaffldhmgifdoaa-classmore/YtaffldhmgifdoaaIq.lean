/-
  The document's Classes.
-/
import Derived.Test.YtaffldhmgifdoaaIe
import Derived.Test.YtaffldhmgifdoaaIi
import Derived.Test.YtaffldhmgifdoaaMl
namespace Go.Proofs.Ytaffldhmgifdoaa
open Go Go.RowKit Go.Shelf
attribute [local go_sem] Oper.semAt_some
set_option linter.unusedVariables false
set_option linter.unusedSimpArgs false

theorem bk_madeI {W W' : World} {n : Nat} (h : W'.ownsRow W.heap.size 3 1 (.slice (some ⟨W.heap.size, 0, none⟩) n n) n (madeCells (Value.int .i64 0).cells (n * 1)).toList) : Bk W' W.heap.size 3 (inCs (List.replicate n 0)).toArray := by
  have hx : (madeCells (Value.int .i64 0).cells (n * 1)).toList = List.replicate n (.int .i64 0) := by
    rw [Nat.mul_one]
    exact toList_madeCells_one _ _
  rw [hx] at h
  rcases h.2 with ⟨h0, _⟩ | ⟨g, cap, cur, he, hb, hg, hc, hm, hs, ht⟩
  · cases h0
  · cases he
    unfold Bk
    rw [hg]
    congr 2
    apply Array.toList_inj.1
    rw [List.take_of_length_le (by rw [Array.length_toList]; omega)] at ht
    rw [ht]
    unfold inCs
    simp
/-- Marks so far: of the numbers in l, and of so many bits from b on. -/
def mrkM (l : List Mb) (b m : Nat) (j : Nat) : Int := if l.any (hereM (8 * (j : Int))) || (decide (0 < m) && decide (b < 64 * (j + 1)) && decide (64 * j < b + m)) then 1 else 0
def mrkL (l : List Mb) (b m n : Nat) : List Int := (List.range n).map (mrkM l b m)
theorem mrk_len (l : List Mb) (b m n : Nat) : (mrkL l b m n).length = n := by simp [mrkL]
theorem mrk_zero (l : List Mb) (b n : Nat) : mrkL l b 0 n = (List.range n).map (eiM l) := by
  unfold mrkL
  apply List.map_congr_left
  intro j _
  unfold mrkM eiM
  simp
theorem mrk_step (l : List Mb) (b m n : Nat) (h : (b + m) / 64 < n) : (mrkL l b m n).set ((b + m) / 64) 1 = mrkL l b (m + 1) n := by
  apply List.ext_getElem?
  intro j
  rw [List.getElem?_set]
  by_cases hj : (b + m) / 64 = j
  · subst hj
    rw [if_pos rfl, if_pos (by rw [mrk_len]; exact h)]
    unfold mrkL
    rw [List.getElem?_map, List.getElem?_range h]
    unfold mrkM
    have h1 : b < 64 * ((b + m) / 64 + 1) := by omega
    have h2 : 64 * ((b + m) / 64) < b + (m + 1) := by omega
    simp [h1, h2]
  · rw [if_neg hj]
    unfold mrkL
    rw [List.getElem?_map, List.getElem?_map]
    by_cases hn : j < n
    · rw [List.getElem?_range hn]
      simp only [Option.map_some]
      congr 1
      unfold mrkM
      congr 1
      have : (decide (0 < m) && decide (b < 64 * (j + 1)) && decide (64 * j < b + m)) = (decide (0 < m + 1) && decide (b < 64 * (j + 1)) && decide (64 * j < b + (m + 1))) := by
        rw [Bool.eq_iff_iff]
        simp only [Bool.and_eq_true, decide_eq_true_eq]
        omega
      rw [this]
    · rw [List.getElem?_eq_none (by simp; omega)]
      rfl
theorem mrk_done (l : List Mb) (k : Nat) (hk : k < l.length) (b m n : Nat) (hb : l[k].bit = (b : Int)) (hm : l[k].bits = (m : Int)) (h0 : 0 < m) : mrkL (l.take k) b m n = (List.range n).map (eiM (l.take (k + 1))) := by
  unfold mrkL
  apply List.map_congr_left
  intro j _
  unfold mrkM eiM
  rw [any_take _ l k hk]
  have : hereM (8 * (j : Int)) l[k] = (decide (0 < m) && decide (b < 64 * (j + 1)) && decide (64 * j < b + m)) := by
    unfold hereM
    rw [hb, hm, Bool.eq_iff_iff]
    simp only [Bool.and_eq_true, decide_eq_true_eq]
    omega
  rw [this]
theorem any_takeA (l : List Mb) (f : Mb → Bool) (k : Nat) (h : l.any f = false) : (l.take k).any f = false := by
  rw [List.any_eq_false] at h ⊢
  exact fun x hx => h x (List.mem_of_mem_take hx)
set_option maxRecDepth 100000 in
set_option maxHeartbeats 4000000 in
theorem full_any (k : Int) (w : World) : Calls Try.prog 78 #[.int .i64 k] w fun e w' => e = .returned (.int .i64 (8 * sizM k)) ∧ w' = w := by
  have HS := veil (RSize_any k)
  have hc := siz_cases k
  have hw : IntKind.i64.wrap (8 * sizM k) = 8 * sizM k := by rw [IntKind.wrap_i64]; omega
  have hz0 : 0 ≤ sizM k ∧ sizM k ≤ 8 := by omega
  obtain ⟨hz0, hz1⟩ := hz0
  clear hc
  generalize sizM k = z at *
  go_enter Try.func78, Try.ntmps78
  go_wp2_with (go_at_call 91; refine (unveil HS _).mono ?_; rintro e w' ⟨rfl, hw'⟩; obtain rfl := hw'.symm)
  go_ret
  exact ⟨rfl, rfl⟩
end Go.Proofs.Ytaffldhmgifdoaa
