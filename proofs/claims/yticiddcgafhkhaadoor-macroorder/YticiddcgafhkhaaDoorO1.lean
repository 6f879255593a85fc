/-
  Package macro: a table that holds these macros, one a name: Define, Get, Names.
-/
import Derived.Test.YticiddcgafhkhaaDoorT6
import Derived.Test.YticiddcgafhkhaaDoorN1
namespace Go.Proofs.YticiddcgafhkhaaDoor
open Go Go.RowKit
set_option linter.unusedVariables false
set_option linter.unusedSimpArgs false

/-- A table that holds these macros. -/
structure TabD (W : World) (t mb n : Nat) (D : DataW Value) (es : List Mc) : Prop where
  tbl : Tbl W t mb n D
  few : n ≤ es.length
  has : ∀ x, Maps.has D (.string x) = decide (x ∈ es.map Mc.name)
  ent : ∀ m ∈ es, ∃ v, D.atKey (.string m.name) (.held (.agg zeroM)) = .held v ∧ McV W.heap.size W v m
def Tab (W : World) (t mb : Nat) (es : List Mc) : Prop := ∃ n D, TabD W t mb n D es
theorem Tab.lt {W : World} {t mb : Nat} {es : List Mc} (h : Tab W t mb es) : t < W.heap.size := by
  obtain ⟨n, D, h⟩ := h; exact h.tbl.lt
theorem Tab.ord {W : World} {t mb : Nat} {es : List Mc} (h : Tab W t mb es) : mb < t := by
  obtain ⟨n, D, h⟩ := h; exact h.tbl.2.2
theorem Tab.next {W W' : World} {t mb : Nat} {es : List Mc} (h : Tab W t mb es) (hb : Below W.heap.size W W') : Tab W' t mb es := by
  obtain ⟨n, D, h⟩ := h
  refine ⟨n, D, h.tbl.below hb h.tbl.lt, h.few, h.has, fun m hm => ?_⟩
  obtain ⟨v, h1, h2⟩ := h.ent m hm
  exact ⟨v, h1, h2.below hb⟩
theorem cell_map {W : World} {t mb n : Nat} {D : DataW Value} (h : Tbl W t mb n D) (j : Nat) (u : Value) : W.cell? ⟨mb, j, none⟩ ≠ some u := by
  obtain ⟨es, clock, e1, _⟩ := h.2.1
  rw [World.cell?, e1]
  simp
theorem McV.frM {W W' : World} {x : Value} {m : Mc} {t mb n : Nat} {D : DataW Value} (h : McV W.heap.size W x m) (hf : Fr W W' mb) (hT : Tbl W t mb n D) : McV W'.heap.size W' x m := by
  obtain ⟨pv, bv, e, a, b, c⟩ := h
  refine ⟨pv, bv, e, ?_, ?_, c⟩
  · obtain ⟨p, cap, rfl, hc⟩ := a
    refine ⟨p, cap, rfl, fun i hi => ?_⟩
    obtain ⟨g, o, rfl, h1, c0⟩ := hc i hi
    exact ⟨g, o, rfl, Nat.lt_of_lt_of_le h1 hf.1, (hf.cell h1 (fun e => cell_map hT _ _ (e ▸ c0))).trans c0⟩
  · obtain ⟨p, cap, rfl, hc⟩ := b
    refine ⟨p, cap, rfl, fun i hi => ?_⟩
    obtain ⟨g, o, rfl, h1, c0, c1, c2, c3, c4, c5⟩ := hc i hi
    have key : ∀ j u, W.cell? ⟨g, j, none⟩ = some u → W'.cell? ⟨g, j, none⟩ = some u := fun j u hu => (hf.cell h1 (fun e => cell_map hT _ _ (e ▸ c0))).trans hu
    exact ⟨g, o, rfl, Nat.lt_of_lt_of_le h1 hf.1, key _ _ c0, key _ _ c1, key _ _ c2, key _ _ c3, key _ _ c4, key _ _ c5⟩
/-- A table stays as it is where another one turns. -/
theorem Tab.other {W W' : World} {t mb t' mb' n' : Nat} {es : List Mc} {D' : DataW Value} (h : Tab W t mb es) (hf : Fr W W' mb') (hT : Tbl W t' mb' n' D') (h1 : t ≠ mb') (h2 : mb ≠ mb') : Tab W' t mb es := by
  obtain ⟨n, D, h⟩ := h
  refine ⟨n, D, h.tbl.fr hf h1 h2, h.few, h.has, fun m hm => ?_⟩
  obtain ⟨v, a, b⟩ := h.ent m hm
  exact ⟨v, a, b.frM hf hT⟩
theorem Tab.new {W : World} {t mb : Nat} (h : Tbl W t mb 0 (.map [])) : Tab W t mb [] :=
  ⟨0, _, h, Nat.le_refl _, fun x => rfl, fun m hm => by cases hm⟩
/-- What Define makes of a right macro whose name is not there. -/
def DefP (t mb : Nat) (es : List Mc) (w : World) (e : Ending) (w' : World) : Prop := e = .returned (.int .i64 0) ∧ Tab w' t mb es ∧ Below mb w w' ∧ Fr w w' mb
theorem Define_tab (t mb : Nat) (es : List Mc) (m : Mc) (q r : Option Addr) (c k : Nat) (w : World) (hf : McFits m) (hr : rightM m = true) (hT : Tab w t mb es) (hnew : m.name ∉ es.map Mc.name) (hes : es.length < 1000) (hnd : (es.map Mc.name).Nodup)
    (hx : McV w.heap.size w (.agg #[.string ⟨m.name.toArray⟩, .bool m.fn, .slice q m.ps.length c, .bool m.more, .slice r m.body.length k]) m) (hw0 : 1 < w.heap.size) (hsg : Sg w) :
    Calls Tryd.prog 23 #[.pointer (some ⟨t, 0, none⟩), .agg #[.string ⟨m.name.toArray⟩, .bool m.fn, .slice q m.ps.length c, .bool m.more, .slice r m.body.length k]] w fun e w' => DefP t mb (es ++ [m]) w e w' := by
  obtain ⟨n, D, hT⟩ := hT
  obtain ⟨pv, bv, e, s1, s2, s3⟩ := hx
  simp at e
  obtain ⟨rfl, rfl⟩ := e
  have hsm := rightM_small hr
  have hhas : Maps.has D (.string m.name) = false := by rw [hT.has]; exact decide_eq_false hnew
  have hsz : Maps.size D = es.length := by
    have hp := Collected.perm (D0 := D) (left := fun _ => false) (ss := es.map Mc.name) ⟨hnd, fun x => by rw [hT.has]; simp⟩ hT.tbl.2.1 (Maps.string_keyed und9s) und9s (fun _ => rfl)
    have hl := hp.length_eq
    obtain ⟨l, hl'⟩ := hT.tbl.2.1.isMap
    subst hl'
    simpa [strKeys, Maps.size_eq] using hl.symm
  have := Define_new t mb n D m q r c k w hf (s3 _ _ _ rfl) hr (by unfold maxLen; have := hT.few; omega) (by omega) (by omega) hT.tbl hhas (Maps.atKey_of_not_has hhas _) (by omega) s1 s2 hw0 hsg
  refine this.mono ?_
  rintro e w' ⟨pv', bv', rfl, hT', o1, o2, hb, hk⟩
  have hmb : mb < w.heap.size := Nat.lt_trans hT.tbl.2.2 hT.tbl.lt
  have hsz' : w.heap.size ≤ w'.heap.size := hb.size
  have hfr : Fr w w' mb := ⟨hsz', hk⟩
  refine ⟨rfl, ⟨n + 1, _, hT', by have := hT.few; simp; omega, fun x => ?_, fun m' hm' => ?_⟩, hb, hfr⟩
  · by_cases hx : x = m.name
    · subst hx
      rw [Maps.has_put_same hT.tbl.2.1.isMap (show WideAt.IsKeyLit (.string m.name) from trivial)]
      simp
    · rw [Maps.has_put_other (fun e => hx (by simpa using e)), hT.has]
      simp [hx]
  · rcases List.mem_append.1 hm' with hm' | hm'
    · obtain ⟨v, h1, h2⟩ := hT.ent m' hm'
      have hne : m'.name ≠ m.name := fun e => hnew (e ▸ List.mem_map_of_mem hm')
      exact ⟨v, by rw [Maps.atKey_put_other (fun e => hne (by simpa using e)), h1], h2.frM hfr hT.tbl⟩
    · obtain rfl : m' = m := by simpa using hm'
      exact ⟨_, Maps.atKey_put_same hT.tbl.2.1.isMap (show WideAt.IsKeyLit (.string m'.name) from trivial) _ _, McV.ofRows o1 o2⟩
theorem Get_tab (t mb : Nat) (es : List Mc) (m : Mc) (w : World) (hm : m ∈ es) (hf : McFits m) (hr : rightM m = true) (hT : Tab w t mb es) :
    Calls Tryd.prog 24 #[.pointer (some ⟨t, 0, none⟩), .string ⟨m.name.toArray⟩] w fun e w' => ∃ q c r k, e = .returned (.tuple #[.agg #[.string ⟨m.name.toArray⟩, .bool m.fn, .slice q m.ps.length c, .bool m.more, .slice r m.body.length k], .bool true]) ∧
      McV w'.heap.size w' (.agg #[.string ⟨m.name.toArray⟩, .bool m.fn, .slice q m.ps.length c, .bool m.more, .slice r m.body.length k]) m ∧ Below w.heap.size w w' := by
  obtain ⟨n, D, hT⟩ := hT
  have hsm := rightM_small hr
  obtain ⟨v, h1, h2⟩ := hT.ent m hm
  refine (Get_ent t mb n D m v w hf.name (by omega) (by omega) hT.tbl h1 (by rw [hT.has]; exact decide_eq_true (List.mem_map_of_mem hm)) h2).mono ?_
  rintro e w' ⟨q, c, r, k, rfl, o1, o2, hb⟩
  exact ⟨q, c, r, k, rfl, McV.ofRows o1 o2, hb⟩

set_option maxRecDepth 100000 in
set_option maxHeartbeats 8000000 in
/-- Define of what is no right macro. -/
theorem Define_bad (t : Nat) (w : World) (hw0 : 1 < w.heap.size) (hsg : Sg w) :
    Calls Tryd.prog 23 #[.pointer (some ⟨t, 0, none⟩), .agg zeroM] w fun e w' => e = .returned (.int .i64 2) ∧ Below w.heap.size w w' := by
  have hb0 : Below w.heap.size w (w.alloc (.cells #[.string ⟨#[]⟩, .bool false, .slice none 0 0, .bool false, .slice none 0 0] 25)) := (Below.refl _ w).alloc (Nat.le_refl _) _
  have hz0 : (w.alloc (.cells #[.string ⟨#[]⟩, .bool false, .slice none 0 0, .bool false, .slice none 0 0] 25)).heap.size = w.heap.size + 1 := by simp
  have hR := Right_any (.agg #[.string ⟨#[]⟩, .bool false, .slice none 0 0, .bool false, .slice none 0 0]) ⟨[], false, [], false, []⟩ _ ⟨by simp, by simp, by simp, by simp, fun _ => by simp [spG, spP]⟩ ⟨_, _, rfl, ⟨none, 0, rfl, fun i hi => by simp at hi⟩, ⟨none, 0, rfl, fun i hi => by simp at hi⟩, fun p n' c' e => by cases e; exact ⟨Nat.le_refl _, Nat.zero_le _⟩⟩ (by rw [hz0]; omega) (hsg.below hb0 hw0)
  have hr : rightM ⟨[], false, [], false, []⟩ = false := by kernel_rfl
  rw [hr] at hR
  have HR := hide hR
  have HB0 := hide hb0
  clear hR hb0 hsg hr
  rw [zero_agg]
  go_enter Tryd.func23, Tryd.ntmps23
  go_wp2_with fail
  refine (unhide HR).mono ?_
  rintro e W1 ⟨rfl, hb1⟩
  rw [hz0] at hb1
  have HB1 := hide ((unhide HB0).trans (hb1.mono (by omega)))
  go_wp2
  go_ret
  exact ⟨rfl, unhide HB1⟩
end Go.Proofs.YticiddcgafhkhaaDoor
