/-
  Package macro: Names of a table; the reference's SameNames of two lists that are the same.
-/
import Derived.Test.YticiddcgafhkhaaDoorO1
namespace Go.Proofs.YticiddcgafhkhaaDoor
open Go Go.RowKit
set_option linter.unusedVariables false
set_option linter.unusedSimpArgs false

theorem TabD.size {W : World} {t mb n : Nat} {D : DataW Value} {es : List Mc} (hT : TabD W t mb n D es) (hnd : (es.map Mc.name).Nodup) : Maps.size D = es.length ∧ (es.map Mc.name).Perm (strKeys D) := by
  have hp := Collected.perm (D0 := D) (left := fun _ => false) (ss := es.map Mc.name) ⟨hnd, fun x => by rw [hT.has]; simp⟩ hT.tbl.2.1 (Maps.string_keyed und9s) und9s (fun _ => rfl)
  have hl := hp.length_eq
  refine ⟨?_, hp⟩
  obtain ⟨l, hl'⟩ := hT.tbl.2.1.isMap
  subst hl'
  simpa [strKeys, Maps.size_eq] using hl.symm

set_option maxRecDepth 100000 in
set_option maxHeartbeats 8000000 in
theorem Names_tab (t mb : Nat) (es : List Mc) (w : World) (hT : Tab w t mb es) (hnd : (es.map Mc.name).Nodup) (hes : es.length < 1000) :
    Calls Tryd.prog 26 #[.pointer (some ⟨t, 0, none⟩)] w fun e w' => ∃ v, e = .returned v ∧ w'.ownsRow w.heap.size 9 1 v es.length (sCells ((es.map Mc.name).mergeSort leB)) ∧ Below w.heap.size w w' := by
  obtain ⟨n, D, hT⟩ := hT
  obtain ⟨hsz, hperm⟩ := hT.size hnd
  have hown := hT.tbl.2.1
  have hce := hT.tbl.cell
  have hmax : Maps.size D ≤ maxLen := by unfold maxLen; omega
  have hbytes : Maps.size D * 16 ≤ 140737488355328 := by omega
  have HC := hide (Tryd.slices_Sorted_keys_45_46 mb n D rawE w hown hmax hbytes)
  have HP := hide hperm
  clear hmax hbytes hperm hown hT hnd
  refine (callsIn_wide (n := 6)).1 ?_
  have hfK : Fence.wide.fn 46 := trivial
  have hfS : Fence.wide.fn 45 := trivial
  refine callsIn_of_wp Tryd.func26 rfl trivial ?_ rfl
  simp only [Tryd.ntmps26, List.size_toArray, List.length_cons, List.length_nil, Nat.reduceAdd, Nat.reduceSub, Array.replicate_succ, Array.replicate_zero, List.push_toArray, List.append_toArray, List.nil_append, List.cons_append]
  gi_wp2_with (first
    | (gi_at_call 46; refine (Tryd.maps_Keys_46 _ _).mono ?_; rintro e w' ⟨rfl, rfl⟩)
    | (gi_at_call 45; refine (unhide HC).mono ?_; rintro e w' ⟨v, ss, rfl, hS, hrow, hnil, hb⟩))
  go_ret
  have hss : ss.length = es.length := by have := hS.length_eq; have := (unhide HP).length_eq; simp at this; omega
  refine ⟨v, rfl, ?_, ((Below.refl _ w).alloc (Nat.le_refl _) _).trans (hb.mono (by simp))⟩
  have e1 : (es.map Mc.name).mergeSort leB = ss.mergeSort leB := mergeSort_of_perm ((unhide HP).trans hS.symm)
  rw [e1, ← hss]
  exact ownsRow_base hrow (by simp)

set_option maxRecDepth 100000 in
set_option maxHeartbeats 8000000 in
theorem SameNames_eq (p q : Option Addr) (cp cq N : Nat) (l : List (List UInt8)) (w : World) (hN : l.length = N) (hl : N ≤ 1000) (hp : StG w.heap.size w (.slice p N cp) l) (hq : StG w.heap.size w (.slice q N cq) l) :
    Calls Tryd.prog 27 #[.slice p N cp, .slice q N cq] w fun e w' => e = .returned (.bool true) ∧ Below w.heap.size w w' := by
  subst hN
  have HA := hide hp
  have HB := hide hq
  clear hp hq
  go_enter Tryd.func27, Tryd.ntmps27
  go_wp2
  go_loopg [5] l.length (fun gk i wr => ∃ (k m : Nat), gk = l.length - k ∧ i = .int .i64 k ∧ k ≤ l.length ∧ Hid (wr = w.drewN m))
  case atStart => exact ⟨0, 0, rfl, rfl, by omega, rfl⟩
  case round =>
    obtain ⟨k, m, rfl, rfl, hk, hw⟩ := hrel
    have hww : ∀ a v, w.cell? a = some v → wr.cell? a = some v := fun a v h => by rw [unhide hw]; exact h
    by_cases hlt : k < l.length
    · have i1 : (k : Int) < (l.length : Int) := by omega
      obtain ⟨p', cap', hp', hcs⟩ := unhide HA
      obtain ⟨g, o, rfl, _, a0⟩ := hcs k hlt
      obtain ⟨rfl, rfl⟩ : p = some ⟨g, o, none⟩ ∧ cp = cap' := by simpa using hp'
      obtain ⟨q', cbp', hq', hcs'⟩ := unhide HB
      obtain ⟨g', o', rfl, _, b0⟩ := hcs' k hlt
      obtain ⟨rfl, rfl⟩ : q = some ⟨g', o', none⟩ ∧ cq = cbp' := by simpa using hq'
      replace a0 := hww _ _ a0
      replace b0 := hww _ _ b0
      generalize l[k] = x at *
      have hxe := beq_list x x
      rw [show decide (x = x) = true from decide_eq_true rfl] at hxe
      clear hcs hcs' hp' hq' hww
      go_upto_region 6 with fail
      go_quiet (fail)
      go_wp2
      go_roundg (l.length - (k + 1))
      case measure => omega
      case rel => exact ⟨k + 1, _, rfl, by go_num, by omega, hide (Hdrew hw)⟩
    · have i1 : ¬ (k : Int) < (l.length : Int) := by omega
      go_wp2
      go_ret
      exact ⟨rfl, by rw [unhide hw]; exact below_drewK (Below.refl _ w) _⟩
end Go.Proofs.YticiddcgafhkhaaDoor
