/-
  Package macro: a table that holds these macros, one a name: Define, Get, Names.
  Package macro: Names of a table; the reference's SameNames of two lists that are the same.
  What Parse tells of a line, as Define takes it; lists of lines and their macros.
-/
import Derived.Test.YticiddcgafhkhaaGreatDoorTa
import Derived.Test.YticiddcgafhkhaaGreatDoorN1
namespace Go.Proofs.YticiddcgafhkhaaGreatDoor
open Go Go.RowKit
set_option linter.unusedVariables false
set_option linter.unusedSimpArgs false

/-- A table that holds these macros. -/
structure TabD (W : World) (t mb n : Nat) (D : DataW Value) (es : List Mc) : Prop where
  tbl : Tbl W t mb n D
  few : n ≤ es.length
  has : ∀ x, Maps.has D (.string x) = decide (x ∈ es.map Mc.name)
  ent : ∀ m ∈ es, ∃ v, D.atKey (.string m.name) (.held (.agg zeroM)) = .held v ∧ McV W.heap.size W v m
def Tab (W : World) (t mb : Nat) (es : List Mc) : Prop := ∃ n D, TabD W t mb n D es
theorem Tab.lt {W : World} {t mb : Nat} {es : List Mc} (h : Tab W t mb es) : t < W.heap.size := by
  obtain ⟨n, D, h⟩ := h; exact h.tbl.lt
theorem Tab.ord {W : World} {t mb : Nat} {es : List Mc} (h : Tab W t mb es) : mb < t := by
  obtain ⟨n, D, h⟩ := h; exact h.tbl.2.2
theorem Tab.next {W W' : World} {t mb : Nat} {es : List Mc} (h : Tab W t mb es) (hb : Below W.heap.size W W') : Tab W' t mb es := by
  obtain ⟨n, D, h⟩ := h
  refine ⟨n, D, h.tbl.below hb h.tbl.lt, h.few, h.has, fun m hm => ?_⟩
  obtain ⟨v, h1, h2⟩ := h.ent m hm
  exact ⟨v, h1, h2.below hb⟩
theorem cell_map {W : World} {t mb n : Nat} {D : DataW Value} (h : Tbl W t mb n D) (j : Nat) (u : Value) : W.cell? ⟨mb, j, none⟩ ≠ some u := by
  obtain ⟨es, clock, e1, _⟩ := h.2.1
  rw [World.cell?, e1]
  simp
theorem McV.frM {W W' : World} {x : Value} {m : Mc} {t mb n : Nat} {D : DataW Value} (h : McV W.heap.size W x m) (hf : Fr W W' mb) (hT : Tbl W t mb n D) : McV W'.heap.size W' x m := by
  obtain ⟨pv, bv, e, a, b, c⟩ := h
  refine ⟨pv, bv, e, ?_, ?_, c⟩
  · obtain ⟨p, cap, rfl, hc⟩ := a
    refine ⟨p, cap, rfl, fun i hi => ?_⟩
    obtain ⟨g, o, rfl, h1, c0⟩ := hc i hi
    exact ⟨g, o, rfl, Nat.lt_of_lt_of_le h1 hf.1, (hf.cell h1 (fun e => cell_map hT _ _ (e ▸ c0))).trans c0⟩
  · obtain ⟨p, cap, rfl, hc⟩ := b
    refine ⟨p, cap, rfl, fun i hi => ?_⟩
    obtain ⟨g, o, rfl, h1, c0, c1, c2, c3, c4, c5⟩ := hc i hi
    have key : ∀ j u, W.cell? ⟨g, j, none⟩ = some u → W'.cell? ⟨g, j, none⟩ = some u := fun j u hu => (hf.cell h1 (fun e => cell_map hT _ _ (e ▸ c0))).trans hu
    exact ⟨g, o, rfl, Nat.lt_of_lt_of_le h1 hf.1, key _ _ c0, key _ _ c1, key _ _ c2, key _ _ c3, key _ _ c4, key _ _ c5⟩
/-- A table stays as it is where another one turns. -/
theorem Tab.other {W W' : World} {t mb t' mb' n' : Nat} {es : List Mc} {D' : DataW Value} (h : Tab W t mb es) (hf : Fr W W' mb') (hT : Tbl W t' mb' n' D') (h1 : t ≠ mb') (h2 : mb ≠ mb') : Tab W' t mb es := by
  obtain ⟨n, D, h⟩ := h
  refine ⟨n, D, h.tbl.fr hf h1 h2, h.few, h.has, fun m hm => ?_⟩
  obtain ⟨v, a, b⟩ := h.ent m hm
  exact ⟨v, a, b.frM hf hT⟩
theorem Tab.new {W : World} {t mb : Nat} (h : Tbl W t mb 0 (.map [])) : Tab W t mb [] :=
  ⟨0, _, h, Nat.le_refl _, fun x => rfl, fun m hm => by cases hm⟩
/-- What Define makes of a right macro whose name is not there. -/
def DefP (t mb : Nat) (es : List Mc) (w : World) (e : Ending) (w' : World) : Prop := e = .returned (.int .i64 0) ∧ Tab w' t mb es ∧ Below mb w w' ∧ Fr w w' mb
theorem Define_tab (t mb : Nat) (es : List Mc) (m : Mc) (q r : Option Addr) (c k : Nat) (w : World) (hf : McFits m) (hr : rightM m = true) (hT : Tab w t mb es) (hnew : m.name ∉ es.map Mc.name) (hes : es.length < 1000) (hnd : (es.map Mc.name).Nodup)
    (hx : McV w.heap.size w (.agg #[.string ⟨m.name.toArray⟩, .bool m.fn, .slice q m.ps.length c, .bool m.more, .slice r m.body.length k]) m) (hw0 : 1 < w.heap.size) (hsg : Sg w) :
    Calls Tryz.prog 8 #[.pointer (some ⟨t, 0, none⟩), .agg #[.string ⟨m.name.toArray⟩, .bool m.fn, .slice q m.ps.length c, .bool m.more, .slice r m.body.length k]] w fun e w' => DefP t mb (es ++ [m]) w e w' := by
  obtain ⟨n, D, hT⟩ := hT
  obtain ⟨pv, bv, e, s1, s2, s3⟩ := hx
  simp at e
  obtain ⟨rfl, rfl⟩ := e
  have hsm := rightM_small hr
  have hhas : Maps.has D (.string m.name) = false := by rw [hT.has]; exact decide_eq_false hnew
  have hsz : Maps.size D = es.length := by
    have hp := Collected.perm (D0 := D) (left := fun _ => false) (ss := es.map Mc.name) ⟨hnd, fun x => by rw [hT.has]; simp⟩ hT.tbl.2.1 (Maps.string_keyed und9s) und9s (fun _ => rfl)
    have hl := hp.length_eq
    obtain ⟨l, hl'⟩ := hT.tbl.2.1.isMap
    subst hl'
    simpa [strKeys, Maps.size_eq] using hl.symm
  have := Define_new t mb n D m q r c k w hf (s3 _ _ _ rfl) hr (by unfold maxLen; have := hT.few; omega) (by omega) (by omega) hT.tbl hhas (Maps.atKey_of_not_has hhas _) (by omega) s1 s2 hw0 hsg
  refine this.mono ?_
  rintro e w' ⟨pv', bv', rfl, hT', o1, o2, hb, hk⟩
  have hmb : mb < w.heap.size := Nat.lt_trans hT.tbl.2.2 hT.tbl.lt
  have hsz' : w.heap.size ≤ w'.heap.size := hb.size
  have hfr : Fr w w' mb := ⟨hsz', hk⟩
  refine ⟨rfl, ⟨n + 1, _, hT', by have := hT.few; simp; omega, fun x => ?_, fun m' hm' => ?_⟩, hb, hfr⟩
  · by_cases hx : x = m.name
    · subst hx
      rw [Maps.has_put_same hT.tbl.2.1.isMap (show WideAt.IsKeyLit (.string m.name) from trivial)]
      simp
    · rw [Maps.has_put_other (fun e => hx (by simpa using e)), hT.has]
      simp [hx]
  · rcases List.mem_append.1 hm' with hm' | hm'
    · obtain ⟨v, h1, h2⟩ := hT.ent m' hm'
      have hne : m'.name ≠ m.name := fun e => hnew (e ▸ List.mem_map_of_mem hm')
      exact ⟨v, by rw [Maps.atKey_put_other (fun e => hne (by simpa using e)), h1], h2.frM hfr hT.tbl⟩
    · obtain rfl : m' = m := by simpa using hm'
      exact ⟨_, Maps.atKey_put_same hT.tbl.2.1.isMap (show WideAt.IsKeyLit (.string m'.name) from trivial) _ _, McV.ofRows o1 o2⟩
theorem Get_tab (t mb : Nat) (es : List Mc) (m : Mc) (w : World) (hm : m ∈ es) (hf : McFits m) (hr : rightM m = true) (hT : Tab w t mb es) :
    Calls Tryz.prog 12 #[.pointer (some ⟨t, 0, none⟩), .string ⟨m.name.toArray⟩] w fun e w' => ∃ q c r k, e = .returned (.tuple #[.agg #[.string ⟨m.name.toArray⟩, .bool m.fn, .slice q m.ps.length c, .bool m.more, .slice r m.body.length k], .bool true]) ∧
      McV w'.heap.size w' (.agg #[.string ⟨m.name.toArray⟩, .bool m.fn, .slice q m.ps.length c, .bool m.more, .slice r m.body.length k]) m ∧ Below w.heap.size w w' := by
  obtain ⟨n, D, hT⟩ := hT
  have hsm := rightM_small hr
  obtain ⟨v, h1, h2⟩ := hT.ent m hm
  refine (Get_ent t mb n D m v w hf.name (by omega) (by omega) hT.tbl h1 (by rw [hT.has]; exact decide_eq_true (List.mem_map_of_mem hm)) h2).mono ?_
  rintro e w' ⟨q, c, r, k, rfl, o1, o2, hb⟩
  exact ⟨q, c, r, k, rfl, McV.ofRows o1 o2, hb⟩

set_option maxRecDepth 100000 in
set_option maxHeartbeats 8000000 in
/-- Define of what is no right macro. -/
theorem Define_bad (t : Nat) (w : World) (hw0 : 1 < w.heap.size) (hsg : Sg w) :
    Calls Tryz.prog 8 #[.pointer (some ⟨t, 0, none⟩), .agg zeroM] w fun e w' => e = .returned (.int .i64 2) ∧ Below w.heap.size w w' := by
  have hb0 : Below w.heap.size w (w.alloc (.cells #[.string ⟨#[]⟩, .bool false, .slice none 0 0, .bool false, .slice none 0 0] 33)) := (Below.refl _ w).alloc (Nat.le_refl _) _
  have hz0 : (w.alloc (.cells #[.string ⟨#[]⟩, .bool false, .slice none 0 0, .bool false, .slice none 0 0] 33)).heap.size = w.heap.size + 1 := by simp
  have hR := Right_any (.agg #[.string ⟨#[]⟩, .bool false, .slice none 0 0, .bool false, .slice none 0 0]) ⟨[], false, [], false, []⟩ _ ⟨by simp, by simp, by simp, by simp, fun _ => by simp [spG, spP]⟩ ⟨_, _, rfl, ⟨none, 0, rfl, fun i hi => by simp at hi⟩, ⟨none, 0, rfl, fun i hi => by simp at hi⟩, fun p n' c' e => by cases e; exact ⟨Nat.le_refl _, Nat.zero_le _⟩⟩ (by rw [hz0]; omega) (hsg.below hb0 hw0)
  have hr : rightM ⟨[], false, [], false, []⟩ = false := by kernel_rfl
  rw [hr] at hR
  have HR := hide hR
  have HB0 := hide hb0
  clear hR hb0 hsg hr
  rw [zero_agg]
  go_enter Tryz.func8, Tryz.ntmps8
  go_wp2_with fail
  refine (unhide HR).mono ?_
  rintro e W1 ⟨rfl, hb1⟩
  rw [hz0] at hb1
  have HB1 := hide ((unhide HB0).trans (hb1.mono (by omega)))
  go_wp2
  go_ret
  exact ⟨rfl, unhide HB1⟩
end Go.Proofs.YticiddcgafhkhaaGreatDoor
namespace Go.Proofs.YticiddcgafhkhaaGreatDoor
open Go Go.RowKit
set_option linter.unusedVariables false
set_option linter.unusedSimpArgs false

theorem TabD.size {W : World} {t mb n : Nat} {D : DataW Value} {es : List Mc} (hT : TabD W t mb n D es) (hnd : (es.map Mc.name).Nodup) : Maps.size D = es.length ∧ (es.map Mc.name).Perm (strKeys D) := by
  have hp := Collected.perm (D0 := D) (left := fun _ => false) (ss := es.map Mc.name) ⟨hnd, fun x => by rw [hT.has]; simp⟩ hT.tbl.2.1 (Maps.string_keyed und9s) und9s (fun _ => rfl)
  have hl := hp.length_eq
  refine ⟨?_, hp⟩
  obtain ⟨l, hl'⟩ := hT.tbl.2.1.isMap
  subst hl'
  simpa [strKeys, Maps.size_eq] using hl.symm

set_option maxRecDepth 100000 in
set_option maxHeartbeats 8000000 in
theorem Names_tab (t mb : Nat) (es : List Mc) (w : World) (hT : Tab w t mb es) (hnd : (es.map Mc.name).Nodup) (hes : es.length < 1000) :
    Calls Tryz.prog 16 #[.pointer (some ⟨t, 0, none⟩)] w fun e w' => ∃ v, e = .returned v ∧ w'.ownsRow w.heap.size 9 1 v es.length (sCells ((es.map Mc.name).mergeSort leB)) ∧ Below w.heap.size w w' := by
  obtain ⟨n, D, hT⟩ := hT
  obtain ⟨hsz, hperm⟩ := hT.size hnd
  have hown := hT.tbl.2.1
  have hce := hT.tbl.cell
  have hmax : Maps.size D ≤ maxLen := by unfold maxLen; omega
  have hbytes : Maps.size D * 16 ≤ 140737488355328 := by omega
  have HC := hide (Tryz.slices_Sorted_keys_45_46 mb n D rawE w hown hmax hbytes)
  have HP := hide hperm
  clear hmax hbytes hperm hown hT hnd
  refine (callsIn_wide (n := 6)).1 ?_
  have hfK : Fence.wide.fn 29 := trivial
  have hfS : Fence.wide.fn 28 := trivial
  refine callsIn_of_wp Tryz.func16 rfl trivial ?_ rfl
  simp only [Tryz.ntmps16, List.size_toArray, List.length_cons, List.length_nil, Nat.reduceAdd, Nat.reduceSub, Array.replicate_succ, Array.replicate_zero, List.push_toArray, List.append_toArray, List.nil_append, List.cons_append]
  gi_wp2_with (first
    | (gi_at_call 29; refine (Tryz.maps_Keys_46 _ _).mono ?_; rintro e w' ⟨rfl, rfl⟩)
    | (gi_at_call 28; refine (unhide HC).mono ?_; rintro e w' ⟨v, ss, rfl, hS, hrow, hnil, hb⟩))
  go_ret
  have hss : ss.length = es.length := by have := hS.length_eq; have := (unhide HP).length_eq; simp at this; omega
  refine ⟨v, rfl, ?_, ((Below.refl _ w).alloc (Nat.le_refl _) _).trans (hb.mono (by simp))⟩
  have e1 : (es.map Mc.name).mergeSort leB = ss.mergeSort leB := mergeSort_of_perm ((unhide HP).trans hS.symm)
  rw [e1, ← hss]
  exact ownsRow_base hrow (by simp)

set_option maxRecDepth 100000 in
set_option maxHeartbeats 8000000 in
theorem SameNames_eq (p q : Option Addr) (cp cq N : Nat) (l : List (List UInt8)) (w : World) (hN : l.length = N) (hl : N ≤ 1000) (hp : StG w.heap.size w (.slice p N cp) l) (hq : StG w.heap.size w (.slice q N cq) l) :
    Calls Tryz.prog 15 #[.slice p N cp, .slice q N cq] w fun e w' => e = .returned (.bool true) ∧ Below w.heap.size w w' := by
  subst hN
  have HA := hide hp
  have HB := hide hq
  clear hp hq
  go_enter Tryz.func15, Tryz.ntmps15
  go_wp2
  go_loopg [5] l.length (fun gk i wr => ∃ (k m : Nat), gk = l.length - k ∧ i = .int .i64 k ∧ k ≤ l.length ∧ Hid (wr = w.drewN m))
  case atStart => exact ⟨0, 0, rfl, rfl, by omega, rfl⟩
  case round =>
    obtain ⟨k, m, rfl, rfl, hk, hw⟩ := hrel
    have hww : ∀ a v, w.cell? a = some v → wr.cell? a = some v := fun a v h => by rw [unhide hw]; exact h
    by_cases hlt : k < l.length
    · have i1 : (k : Int) < (l.length : Int) := by omega
      obtain ⟨p', cap', hp', hcs⟩ := unhide HA
      obtain ⟨g, o, rfl, _, a0⟩ := hcs k hlt
      obtain ⟨rfl, rfl⟩ : p = some ⟨g, o, none⟩ ∧ cp = cap' := by simpa using hp'
      obtain ⟨q', cbp', hq', hcs'⟩ := unhide HB
      obtain ⟨g', o', rfl, _, b0⟩ := hcs' k hlt
      obtain ⟨rfl, rfl⟩ : q = some ⟨g', o', none⟩ ∧ cq = cbp' := by simpa using hq'
      replace a0 := hww _ _ a0
      replace b0 := hww _ _ b0
      generalize l[k] = x at *
      have hxe := beq_list x x
      rw [show decide (x = x) = true from decide_eq_true rfl] at hxe
      clear hcs hcs' hp' hq' hww
      go_upto_region 6 with fail
      go_quiet (fail)
      go_wp2
      go_roundg (l.length - (k + 1))
      case measure => omega
      case rel => exact ⟨k + 1, _, rfl, by go_num, by omega, hide (Hdrew hw)⟩
    · have i1 : ¬ (k : Int) < (l.length : Int) := by omega
      go_wp2
      go_ret
      exact ⟨rfl, by rw [unhide hw]; exact below_drewK (Below.refl _ w) _⟩
end Go.Proofs.YticiddcgafhkhaaGreatDoor
namespace Go.Proofs.YticiddcgafhkhaaGreatDoor
open Go Go.RowKit
set_option linter.unusedVariables false
set_option linter.unusedSimpArgs false

/-- The macro that a line defines. -/
def pmS (s : List UInt8) : Option Mc := parseM ((Tk.lex [(1, s)]).1.map Tk.T.g)
/-- A macro's value, or that of none. -/
def XV (W : World) (x : Value) (R : Option Mc) : Prop := (R = none ∧ x = .agg zeroM) ∨ ∃ m, R = some m ∧ McV W.heap.size W x m
theorem XV.next {W W' : World} {x : Value} {R : Option Mc} (h : XV W x R) (hb : Below W.heap.size W W') : XV W' x R := by
  rcases h with h | ⟨m, h1, h2⟩
  · exact .inl h
  · exact .inr ⟨m, h1, h2.below hb⟩
theorem XV.frM {W W' : World} {x : Value} {R : Option Mc} {t mb n : Nat} {D : DataW Value} (h : XV W x R) (hf : Fr W W' mb) (hT : Tbl W t mb n D) : XV W' x R := by
  rcases h with h | ⟨m, h1, h2⟩
  · exact .inl h
  · exact .inr ⟨m, h1, h2.frM hf hT⟩
def errOf (R : Option Mc) : Int := if R.isSome then 0 else 30
theorem ParseP.xv {w : World} {R : Option Mc} {e : Ending} {w' : World} (h : ParseP w R e w') : ∃ (s : ByteArray) (fn : Bool) (q : Option Addr) (n c : Nat) (more : Bool) (bp : Option Addr) (bn bc : Nat),
    e = .returned (.tuple #[.agg #[.string s, .bool fn, .slice q n c, .bool more, .slice bp bn bc], .int .i64 (errOf R)]) ∧ XV w' (.agg #[.string s, .bool fn, .slice q n c, .bool more, .slice bp bn bc]) R ∧ Below w.heap.size w w' := by
  obtain ⟨hb, (⟨rfl, rfl⟩ | ⟨m, x, rfl, rfl, hx, _⟩)⟩ := h
  · exact ⟨⟨#[]⟩, false, none, 0, 0, false, none, 0, 0, rfl, .inl ⟨rfl, rfl⟩, hb⟩
  · have hx' := hx
    obtain ⟨pv, bv, rfl, s1, s2, _⟩ := hx
    obtain ⟨pp, pc, rfl, _⟩ := s1
    obtain ⟨bp, bc, rfl, _⟩ := s2
    exact ⟨_, _, _, _, _, _, _, _, _, rfl, .inr ⟨m, rfl, hx'⟩, hb⟩
/-- lexed, and Parse of what it tells. -/
theorem lexS_any (s : List UInt8) (W : World) (hs : s.length ≤ 140737488351232) (hw0 : 1 < W.heap.size) (hsg : Sg W) :
    Calls Tryz.prog 7 #[.string ⟨s.toArray⟩] W fun e w' => ∃ q n c, e = .returned (.slice q n c) ∧ (∀ W', Below w'.heap.size w' W' → Calls Tryz.prog 6 #[.slice q n c] W' fun e2 w2 => ParseP W' (pmS s) e2 w2) ∧ Below W.heap.size W w' := by
  refine (lexedR_any ⟨s.toArray⟩ W (by show s.toArray.size ≤ _; simp; omega) hw0 hsg).mono ?_
  rintro e w' ⟨v, rfl, hrow, hb⟩
  obtain ⟨q, c, rfl⟩ := ownsRow_slice hrow
  refine ⟨q, _, c, rfl, fun W' hb' => ?_, hb⟩
  have := ParseLex_any 1 s _ _ W' hs (ownsRow_bel hrow hb') (Nat.lt_of_lt_of_le hw0 (Nat.le_trans hb.size hb'.size)) ((hsg.below hb hw0).below hb' (Nat.lt_of_lt_of_le hw0 hb.size))
  exact this
theorem pmS_fit {s : List UInt8} (hs : s.length ≤ 140737488351232) {m : Mc} (h : pmS s = some m) : rightM m = true ∧ McFits m := parseM_fit hs h
/-- What Define makes of what Parse told. -/
def DefQ (t mb : Nat) (es : List Mc) (w : World) (e : Ending) (w' : World) : Prop := (∃ z, e = .returned (.int .i64 z)) ∧ Tab w' t mb es ∧ Below mb w w' ∧ Fr w w' mb
theorem Define_opt (t mb : Nat) (es : List Mc) (R : Option Mc) (s : ByteArray) (fn more : Bool) (q bp : Option Addr) (n c bn bc : Nat) (w : World) (hR : ∀ m, R = some m → rightM m = true ∧ McFits m ∧ m.name ∉ es.map Mc.name) (hT : Tab w t mb es) (hes : es.length < 1000) (hnd : (es.map Mc.name).Nodup)
    (hx : XV w (.agg #[.string s, .bool fn, .slice q n c, .bool more, .slice bp bn bc]) R) (hw0 : 1 < w.heap.size) (hsg : Sg w) :
    Calls Tryz.prog 8 #[.pointer (some ⟨t, 0, none⟩), .agg #[.string s, .bool fn, .slice q n c, .bool more, .slice bp bn bc]] w fun e w' => DefQ t mb (es ++ R.toList) w e w' := by
  rcases hx with ⟨rfl, hx⟩ | ⟨m, rfl, hx⟩
  · rw [hx]
    refine (Define_bad t w hw0 hsg).mono ?_
    rintro e w' ⟨rfl, hb⟩
    have := hT.lt
    have := hT.ord
    exact ⟨⟨2, rfl⟩, by simpa using hT.next hb, hb.mono (by omega), Fr.of mb hb⟩
  · obtain ⟨h1, h2, h3⟩ := hR m rfl
    obtain ⟨pv, bv, e, s1, s2, s3⟩ := id hx
    obtain ⟨q', c', rfl, _⟩ := id s1
    obtain ⟨r', k', rfl, _⟩ := id s2
    have e' : s = ⟨m.name.toArray⟩ ∧ fn = m.fn ∧ (q = q' ∧ n = m.ps.length ∧ c = c') ∧ more = m.more ∧ (bp = r' ∧ bn = m.body.length ∧ bc = k') := by simpa using e
    obtain ⟨rfl, rfl, ⟨rfl, rfl, rfl⟩, rfl, ⟨rfl, rfl, rfl⟩⟩ := e'
    refine (Define_tab t mb es m q bp c bc w h2 h1 hT h3 hes hnd hx hw0 hsg).mono ?_
    rintro e w' ⟨rfl, a, b, c⟩
    exact ⟨⟨0, rfl⟩, a, b, c⟩
/-- The macros of lines, in order. -/
def msOf (ws : List (List UInt8)) : List Mc := ws.filterMap pmS
theorem msOf_take {ws : List (List UInt8)} {i : Nat} (h : i < ws.length) : msOf (ws.take (i + 1)) = msOf (ws.take i) ++ (pmS ws[i]).toList := by
  unfold msOf
  rw [List.take_add_one, List.getElem?_eq_getElem h, List.filterMap_append]
  cases hp : pmS ws[i] <;> simp [hp]
theorem msOf_rev (ws : List (List UInt8)) : msOf ws.reverse = (msOf ws).reverse := by
  unfold msOf; rw [List.filterMap_reverse]
theorem msOf_len (ws : List (List UInt8)) : (msOf ws).length ≤ ws.length := List.length_filterMap_le _ _
theorem msOf_fit {ws : List (List UInt8)} (hs : ∀ s ∈ ws, s.length ≤ 140737488351232) {m : Mc} (h : m ∈ msOf ws) : rightM m = true ∧ McFits m := by
  obtain ⟨s, h1, h2⟩ := List.mem_filterMap.1 h
  exact pmS_fit (hs s h1) h2
/-- One macro a name: the next one's name is not among those ahead. -/
theorem msOf_next {ws : List (List UInt8)} {i : Nat} (h : i < ws.length) (hnd : ((msOf ws).map Mc.name).Nodup) {m : Mc} (hm : pmS ws[i] = some m) : m.name ∉ (msOf (ws.take i)).map Mc.name ∧ ((msOf (ws.take i)).map Mc.name).Nodup := by
  have e : msOf ws = msOf (ws.take i) ++ m :: msOf (ws.drop (i + 1)) := by
    have : ws = ws.take i ++ ws[i] :: ws.drop (i + 1) := by rw [← List.drop_eq_getElem_cons h, List.take_append_drop]
    conv => lhs; rw [this]
    unfold msOf
    rw [List.filterMap_append, List.filterMap_cons, hm]
  rw [e, List.map_append, List.map_cons] at hnd
  have h1 := List.nodup_append.1 hnd
  exact ⟨fun h => h1.2.2 _ h _ (by simp) rfl, h1.1⟩
theorem msOf_take_nodup {ws : List (List UInt8)} (i : Nat) (hnd : ((msOf ws).map Mc.name).Nodup) : ((msOf (ws.take i)).map Mc.name).Nodup := by
  have e : msOf ws = msOf (ws.take i) ++ msOf (ws.drop i) := by
    conv => lhs; rw [← List.take_append_drop i ws]
    unfold msOf
    rw [List.filterMap_append]
  rw [e, List.map_append] at hnd
  exact (List.nodup_append.1 hnd).1
theorem ownsRow_frM {W W' : World} {base k n t mb nn : Nat} {D : DataW Value} {e : TypeId} {v : Value} {xs : List Value} (h : W.ownsRow base e k v n xs) (hf : Fr W W' mb) (hT : Tbl W t mb nn D) : W'.ownsRow base e k v n xs :=
  ownsRow_fr h hf (fun b cur hb e => by
    obtain ⟨es, clock, e1, _⟩ := hT.2.1
    subst e
    rw [hb] at e1
    cases e1)
end Go.Proofs.YticiddcgafhkhaaGreatDoor
