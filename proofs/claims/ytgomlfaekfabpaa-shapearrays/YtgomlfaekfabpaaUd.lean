/-
  Package shape: named, fieldsFormed.
-/
import Derived.Test.YtgomlfaekfabpaaUb
import Derived.Deep.CutRange
import Derived.Deep.DeepCutAuto
import Derived.Maps.OwnOps
import Derived.Maps.OwnSet
import Derived.Maps.Views
namespace Go.Proofs.Ytgomlfaekfabpaa
open Go Go.RowKit
set_option linter.unusedVariables false
set_option linter.unusedSimpArgs false

/-- How many different ones. -/
def nds : List (List UInt8) → Nat
  | [] => 0
  | x :: r => if x ∈ r then nds r else nds r + 1
def namM (ns : List (List UInt8)) : Bool :=
  let s : Int := (nds ns.reverse : Int) - (if ([] : List UInt8) ∈ ns then 1 else 0)
  decide (0 < s) && (s + (ns.count [] : Nat) == (ns.length : Nat))
theorem nds_le : ∀ l : List (List UInt8), nds l ≤ l.length
  | [] => Nat.le_refl _
  | x :: r => by have := nds_le r; simp only [nds, List.length_cons]; split <;> omega
theorem undM : Try.prog.underlying 143 = some (.map 9 3) := by kernel_rfl
theorem undS : Try.prog.underlying 9 = some .string := by kernel_rfl
theorem undI : Try.prog.underlying 3 = some (.int .i64) := by kernel_rfl
theorem keyS (s : List UInt8) (hs : s.length ≤ maxLen) : keyOf Try.prog 9 (.string ⟨s.toArray⟩) = some (.string s) := WideMaps.keyOf_string_mk undS (s := ⟨s.toArray⟩) (by show s.toArray.size ≤ _; simpa using hs)
/-- The members of a list of fields, in memory. -/
def FdG (B : Nat) (W : World) (p : Option Addr) (l : List (FdOf ShT)) : Prop :=
  ∀ (i : Nat) (h : i < l.length), ∃ g o, p = some ⟨g, o, none⟩ ∧ g < B ∧ (∀ (j : Nat), j < 9 → W.cell? ⟨g, o + i * 9 + j, none⟩ = l[i].cs[j]?) ∧ l[i].nm.length ≤ maxLen
theorem FdG.below {B : Nat} {W W' : World} {p : Option Addr} {l : List (FdOf ShT)} (h : FdG B W p l) (hb : Below B W W') : FdG B W' p l := fun i hi => by
  obtain ⟨g, o, e, hg, hc, hn⟩ := h i hi
  exact ⟨g, o, e, hg, fun j hj => (hb.cell (p := ⟨g, o + i * 9 + j, none⟩) hg).trans (hc j hj), hn⟩
theorem FdG.of {B : Nat} {W : World} {t : ShT} (h : t.In B W) : FdG B W t.fp t.fs := fun i hi => by
  obtain ⟨g, o, e, hg, hc, hn, _⟩ := h.fs i hi
  exact ⟨g, o, e, hg, hc, hn⟩
/-- The map of names, after these. -/
structure NmI (w W : World) (ns : List (List UInt8)) : Prop where
  owns : ∃ D, W.ownsMap (H := Unit) Try.prog 9 (plainElem Try.prog 3) w.heap.size ns.length D ∧ Maps.Tidy D ∧ (∀ x, Maps.has D (.string x) = decide (x ∈ ns)) ∧ Maps.size D = nds ns.reverse ∧
    (∀ x, D.atKey (.string x) (.lit (.int .i64 0)) = .lit (.int .i64 (ns.count x : Nat)))
  be : Below w.heap.size w W
  lt : w.heap.size < W.heap.size
def NmD (D : DataW Unit) (ns : List (List UInt8)) : Prop :=
  Maps.Tidy D ∧ (∀ x, Maps.has D (.string x) = decide (x ∈ ns)) ∧ Maps.size D = nds ns.reverse ∧ (∀ x, D.atKey (.string x) (.lit (.int .i64 0)) = .lit (.int .i64 (ns.count x : Nat)))
theorem NmD.put {D : DataW Unit} {ns : List (List UInt8)} (h : NmD D ns) (x : List UInt8) : NmD (D.put (.string x) (.lit (.int .i64 ((ns.count x : Nat) + 1)))) (ns ++ [x]) := by
  obtain ⟨h1, h2, h3, h4⟩ := h
  have hk : WideAt.IsKeyLit (.string x) := by trivial
  refine ⟨h1.put hk _, fun y => ?_, ?_, fun y => ?_⟩
  · by_cases hy : y = x
    · subst hy; rw [Maps.has_put_same h1.isMap hk]; simp
    · rw [Maps.has_put_other (by simpa using hy), h2]; simp [hy]
  · rw [Maps.size_put h1, h2, h3]
    simp only [List.reverse_append, List.reverse_cons, List.reverse_nil, List.nil_append, List.cons_append, nds, List.mem_reverse, decide_eq_true_eq]
  · by_cases hy : y = x
    · subst hy; rw [Maps.atKey_put_same h1.isMap hk]; simp
    · rw [Maps.atKey_put_other (by simpa using hy), h4]; simp [List.count_append, List.count_singleton, Ne.symm hy, hy]
set_option maxRecDepth 100000 in
theorem zI (W : World) : (zeroValue 3).run Try.prog W = .ok (.int .i64 0) W := by rfl
set_option maxRecDepth 100000 in
set_option maxHeartbeats 8000000 in
theorem named_any (p : Option Addr) (cap : Nat) (l : List (FdOf ShT)) (w : World) (hl : l.length ≤ 40) (hT : FdG w.heap.size w p l) :
    Calls Try.prog 95 #[.slice p l.length cap] w fun e w' => e = .returned (.bool (namM (l.map FdOf.nm))) ∧ Below w.heap.size w w' := by
  have HT := veil hT
  clear hT
  have hmm := @run_makeMap Try.prog
  obtain ⟨R, HR⟩ : ∃ R, Hid (namM (l.map FdOf.nm) = R) := ⟨_, rfl⟩
  rw [unveil HR]
  go_enter Try.func95, Try.ntmps95
  go_wp2_with fail
  go_loopw [10] (fun i wr => ∃ (k : Nat), i = .int .i64 k ∧ k ≤ l.length ∧ (∃ D, Hid (wr.ownsMap (H := Unit) Try.prog 9 (plainElem Try.prog 3) w.heap.size k D) ∧ Hid (NmD D ((l.take k).map FdOf.nm))) ∧ Hid (Below w.heap.size w wr) ∧ w.heap.size < wr.heap.size)
    (fun i wr => l.length - (intOf i).toNat)
  case atStart => exact ⟨0, rfl, Nat.zero_le _, ⟨_, World.ownsMap_made w _ _ _, Maps.tidy_empty, fun x => by simp [Maps.has], rfl, fun x => by rfl⟩, (Below.refl _ w).alloc (Nat.le_refl _) _, by simp⟩
  case round =>
    obtain ⟨k, rfl, hk, ⟨D, hown, hD⟩, hbe, hlt⟩ := hrel
    by_cases hkl : k < l.length
    · obtain ⟨g, o, rfl, hg, hc, hnl⟩ := ((unveil HT).below (unveil hbe)) k hkl
      obtain ⟨c0, c1, c2, c3, c4, c5, c6, c7, c8⟩ := nine (f := l[k]) hc
      have HKY := veil (keyS l[k].nm hnl)
      have HCL : Hid (((l.take k).map FdOf.nm).count l[k].nm ≤ 40) := by
        have := List.count_le_length (l := (l.take k).map FdOf.nm) (a := l[k].nm)
        rw [List.length_map, List.length_take] at this
        unfold Hid
        omega
      have HTK : Hid ((l.take (k + 1)).map FdOf.nm = (l.take k).map FdOf.nm ++ [l[k].nm]) := by unfold Hid; rw [List.take_succ_eq_append_getElem hkl, List.map_append]; rfl
      clear hc hnl
      generalize l[k].nm = nm at *
      generalize (l.take k).map FdOf.nm = ns at *
      generalize l[k].t.sh = a1 at *
      generalize l[k].t.k = a2 at *
      generalize l[k].t.n = a3 at *
      generalize l[k].t.op = a4 at *
      generalize l[k].t.of.length = a4l at *
      generalize l[k].t.oc = a4c at *
      generalize l[k].t.fp = a5 at *
      generalize l[k].t.fs.length = a5l at *
      generalize l[k].t.fc = a5c at *
      generalize l[k].t.pk = a6 at *
      generalize l[k].t.al = a7 at *
      generalize l[k].bits = a8 at *
      have HD4 : Hid (∀ c : Int, D.atKey (.string nm) (.lit (.int .i64 0)) = .lit (.int .i64 c) → c = (ns.count nm : Nat)) := fun c hc => by
        have := hc.symm.trans ((unveil hD).2.2.2 nm)
        simpa using this
      generalize hCN : ns.count nm = CN at *
      have HPE : Hid (plainElem (H := Unit) Try.prog 3 (.int .i64 ((CN : Nat) + 1)) = some (.lit (.int .i64 ((CN : Nat) + 1)), [])) := plainElem_int undI (WalkArith.wf_i64 (by have := unveil HCL; omega))
      have hcl40 : CN ≤ 40 := unveil HCL
      have HCN := veil hCN
      clear hCN HCL
      go_wp2_with (first
        | (at_lookup; refine wpList_lookup_own_int (H := Unit) _ rfl _ _ 143 rfl 9 3 .i64 (Maps.string_keyed undS) undM undI (zI _) w.heap.size k D rfl ((unveil hown).alloc _) _ (.string nm) rfl (unveil HKY) ?_; intro c hc hwc; obtain rfl := unveil HD4 c hc)
        | (at_mapUpdate; refine wpList_mapUpdate_own (H := Unit) _ rfl _ _ _ 143 rfl 9 3 (Maps.string_keyed undS) undM (plainElem Try.prog 3) w.heap.size k D rfl ((unveil hown).alloc _) (by unfold maxLen; omega) _ _ (.string nm) rfl rfl (unveil HKY) _ [] (unveil HPE) ?_; intro w1 hown1 hg1))
      go_roundw
      case rel =>
        refine ⟨k + 1, by go_num, by omega, ⟨_, hown1, ?_⟩, ?_, ?_⟩
        · rw [unveil HTK, ← unveil HCN]; exact (unveil hD).put nm
        · exact (((unveil hbe).alloc (Nat.le_of_lt hlt) _)).grown hg1 (by simp; omega) (fun r e => by cases e; exact Nat.le_refl _)
        · have := hg1.size; simp at this; omega
      case measure => simp [intOf]; omega
    · obtain rfl : k = l.length := by omega
      rw [List.take_length] at hD
      have HK0 := veil (keyS [] (by unfold maxLen; simp))
      have HD4 : Hid (∀ c : Int, D.atKey (.string []) (.lit (.int .i64 0)) = .lit (.int .i64 c) → c = ((l.map FdOf.nm).count [] : Nat)) := fun c hc => by
        have := hc.symm.trans ((unveil hD).2.2.2 [])
        simpa using this
      have HSZ : Hid (((Maps.size (D.del (.string [])) : Nat) : Int) = (nds (l.map FdOf.nm).reverse : Int) - (if ([] : List UInt8) ∈ l.map FdOf.nm then 1 else 0)) := by
        have := Maps.size_del (k := .string []) (unveil hD).1
        rw [(unveil hD).2.1, (unveil hD).2.2.1] at this
        unfold Hid
        rw [← this]
        by_cases hm : ([] : List UInt8) ∈ l.map FdOf.nm <;> simp [hm]
      have HND := nds_le (l.map FdOf.nm).reverse
      have HCT := List.count_le_length (l := l.map FdOf.nm) (a := [])
      simp only [List.length_reverse, List.length_map] at HND HCT
      have hR := unveil HR
      unfold namM at hR
      simp only [List.length_map] at hR
      rw [← unveil HSZ] at hR
      have hsz1 : Maps.size (D.del (.string [])) ≤ 40 := by
        have := Maps.size_del (k := .string []) (unveil hD).1
        rw [(unveil hD).2.2.1] at this
        omega
      generalize (l.map FdOf.nm).count [] = CN at *
      have HRR := veil hR
      clear HSZ HND hR HR
      generalize hDD : D.del (.string []) = D1 at *
      have HDD := veil hDD
      clear hDD
      have HLEN : Hid (∀ W, W.ownsMap (H := Unit) Try.prog 9 (plainElem Try.prog 3) w.heap.size l.length D1 → ∀ ty, (Builtin.len_ #[143] ty #[.map (some w.heap.size)]).run Try.prog W = .ok (.int .i64 (Maps.size D1)) W) := fun W h ty => h.len undM ty
      go_upto_region 9 with (first
        | (at_lookup; refine wpList_lookup_own_int (H := Unit) _ rfl _ _ 143 rfl 9 3 .i64 (Maps.string_keyed undS) undM undI (zI _) w.heap.size l.length D rfl (unveil hown) _ (.string []) rfl (unveil HK0) ?_; intro c hc hwc; obtain rfl := unveil HD4 c hc)
        | (at_delete; refine wpList_delete_own _ rfl _ _ 143 9 rfl 3 (Maps.string_keyed undS) undM _ w.heap.size l.length D rfl (unveil hown) _ _ rfl (unveil HK0) ?_; intro w1 hown1 hturn1))
      rw [unveil HDD] at hown1
      have hlen := unveil HLEN _ hown1
      have HBE1 : Hid (Below w.heap.size w w1) := (unveil hbe).grown hturn1.grown (Nat.le_of_lt hlt) (fun r e => by cases e; exact Nat.le_refl _)
      generalize Maps.size D1 = S1 at *
      clear HLEN hown hD HD4 HK0 hown1 hturn1 HDD HT hbe
      cases S1 with
      | zero =>
        go_wp2_with fail
        go_ret
        exact ⟨by rw [← unveil HRR]; simp, unveil HBE1⟩
      | succ S1 =>
        have h0 : (((S1 + 1 : Nat) : Int) > 0) := by omega
        go_wp2_with fail
        go_ret
        refine ⟨?_, unveil HBE1⟩
        rw [← unveil HRR]
        simp [h0]
end Go.Proofs.Ytgomlfaekfabpaa
