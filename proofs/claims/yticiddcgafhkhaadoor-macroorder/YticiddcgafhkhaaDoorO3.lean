/-
  What Parse tells of a line, as Define takes it; lists of lines and their macros.
-/
import Derived.Test.YticiddcgafhkhaaDoorO2
namespace Go.Proofs.YticiddcgafhkhaaDoor
open Go Go.RowKit
set_option linter.unusedVariables false
set_option linter.unusedSimpArgs false

/-- The macro that a line defines. -/
def pmS (s : List UInt8) : Option Mc := parseM ((Tk.lex [(1, s)]).1.map Tk.T.g)
/-- A macro's value, or that of none. -/
def XV (W : World) (x : Value) (R : Option Mc) : Prop := (R = none ∧ x = .agg zeroM) ∨ ∃ m, R = some m ∧ McV W.heap.size W x m
theorem XV.next {W W' : World} {x : Value} {R : Option Mc} (h : XV W x R) (hb : Below W.heap.size W W') : XV W' x R := by
  rcases h with h | ⟨m, h1, h2⟩
  · exact .inl h
  · exact .inr ⟨m, h1, h2.below hb⟩
theorem XV.frM {W W' : World} {x : Value} {R : Option Mc} {t mb n : Nat} {D : DataW Value} (h : XV W x R) (hf : Fr W W' mb) (hT : Tbl W t mb n D) : XV W' x R := by
  rcases h with h | ⟨m, h1, h2⟩
  · exact .inl h
  · exact .inr ⟨m, h1, h2.frM hf hT⟩
def errOf (R : Option Mc) : Int := if R.isSome then 0 else 30
theorem ParseP.xv {w : World} {R : Option Mc} {e : Ending} {w' : World} (h : ParseP w R e w') : ∃ (s : ByteArray) (fn : Bool) (q : Option Addr) (n c : Nat) (more : Bool) (bp : Option Addr) (bn bc : Nat),
    e = .returned (.tuple #[.agg #[.string s, .bool fn, .slice q n c, .bool more, .slice bp bn bc], .int .i64 (errOf R)]) ∧ XV w' (.agg #[.string s, .bool fn, .slice q n c, .bool more, .slice bp bn bc]) R ∧ Below w.heap.size w w' := by
  obtain ⟨hb, (⟨rfl, rfl⟩ | ⟨m, x, rfl, rfl, hx⟩)⟩ := h
  · exact ⟨⟨#[]⟩, false, none, 0, 0, false, none, 0, 0, rfl, .inl ⟨rfl, rfl⟩, hb⟩
  · have hx' := hx
    obtain ⟨pv, bv, rfl, s1, s2, _⟩ := hx
    obtain ⟨pp, pc, rfl, _⟩ := s1
    obtain ⟨bp, bc, rfl, _⟩ := s2
    exact ⟨_, _, _, _, _, _, _, _, _, rfl, .inr ⟨m, rfl, hx'⟩, hb⟩
/-- lexed, and Parse of what it tells. -/
theorem lexS_any (s : List UInt8) (W : World) (hs : s.length ≤ 140737488351232) (hw0 : 1 < W.heap.size) (hsg : Sg W) :
    Calls Tryd.prog 21 #[.string ⟨s.toArray⟩] W fun e w' => ∃ q n c, e = .returned (.slice q n c) ∧ (∀ W', Below w'.heap.size w' W' → Calls Tryd.prog 17 #[.slice q n c] W' fun e2 w2 => ParseP W' (pmS s) e2 w2) ∧ Below W.heap.size W w' := by
  refine (lexedR_any ⟨s.toArray⟩ W (by show s.toArray.size ≤ _; simp; omega) hw0 hsg).mono ?_
  rintro e w' ⟨v, rfl, hrow, hb⟩
  obtain ⟨q, c, rfl⟩ := ownsRow_slice hrow
  refine ⟨q, _, c, rfl, fun W' hb' => ?_, hb⟩
  have := ParseLex_any 1 s _ _ W' hs (ownsRow_bel hrow hb') (Nat.lt_of_lt_of_le hw0 (Nat.le_trans hb.size hb'.size)) ((hsg.below hb hw0).below hb' (Nat.lt_of_lt_of_le hw0 hb.size))
  exact this
theorem pmS_fit {s : List UInt8} (hs : s.length ≤ 140737488351232) {m : Mc} (h : pmS s = some m) : rightM m = true ∧ McFits m := parseM_fit hs h
/-- What Define makes of what Parse told. -/
def DefQ (t mb : Nat) (es : List Mc) (w : World) (e : Ending) (w' : World) : Prop := (∃ z, e = .returned (.int .i64 z)) ∧ Tab w' t mb es ∧ Below mb w w' ∧ Fr w w' mb
theorem Define_opt (t mb : Nat) (es : List Mc) (R : Option Mc) (s : ByteArray) (fn more : Bool) (q bp : Option Addr) (n c bn bc : Nat) (w : World) (hR : ∀ m, R = some m → rightM m = true ∧ McFits m ∧ m.name ∉ es.map Mc.name) (hT : Tab w t mb es) (hes : es.length < 1000) (hnd : (es.map Mc.name).Nodup)
    (hx : XV w (.agg #[.string s, .bool fn, .slice q n c, .bool more, .slice bp bn bc]) R) (hw0 : 1 < w.heap.size) (hsg : Sg w) :
    Calls Tryd.prog 23 #[.pointer (some ⟨t, 0, none⟩), .agg #[.string s, .bool fn, .slice q n c, .bool more, .slice bp bn bc]] w fun e w' => DefQ t mb (es ++ R.toList) w e w' := by
  rcases hx with ⟨rfl, hx⟩ | ⟨m, rfl, hx⟩
  · rw [hx]
    refine (Define_bad t w hw0 hsg).mono ?_
    rintro e w' ⟨rfl, hb⟩
    have := hT.lt
    have := hT.ord
    exact ⟨⟨2, rfl⟩, by simpa using hT.next hb, hb.mono (by omega), Fr.of mb hb⟩
  · obtain ⟨h1, h2, h3⟩ := hR m rfl
    obtain ⟨pv, bv, e, s1, s2, s3⟩ := id hx
    obtain ⟨q', c', rfl, _⟩ := id s1
    obtain ⟨r', k', rfl, _⟩ := id s2
    have e' : s = ⟨m.name.toArray⟩ ∧ fn = m.fn ∧ (q = q' ∧ n = m.ps.length ∧ c = c') ∧ more = m.more ∧ (bp = r' ∧ bn = m.body.length ∧ bc = k') := by simpa using e
    obtain ⟨rfl, rfl, ⟨rfl, rfl, rfl⟩, rfl, ⟨rfl, rfl, rfl⟩⟩ := e'
    refine (Define_tab t mb es m q bp c bc w h2 h1 hT h3 hes hnd hx hw0 hsg).mono ?_
    rintro e w' ⟨rfl, a, b, c⟩
    exact ⟨⟨0, rfl⟩, a, b, c⟩
/-- The macros of lines, in order. -/
def msOf (ws : List (List UInt8)) : List Mc := ws.filterMap pmS
theorem msOf_take {ws : List (List UInt8)} {i : Nat} (h : i < ws.length) : msOf (ws.take (i + 1)) = msOf (ws.take i) ++ (pmS ws[i]).toList := by
  unfold msOf
  rw [List.take_add_one, List.getElem?_eq_getElem h, List.filterMap_append]
  cases hp : pmS ws[i] <;> simp [hp]
theorem msOf_rev (ws : List (List UInt8)) : msOf ws.reverse = (msOf ws).reverse := by
  unfold msOf; rw [List.filterMap_reverse]
theorem msOf_len (ws : List (List UInt8)) : (msOf ws).length ≤ ws.length := List.length_filterMap_le _ _
theorem msOf_fit {ws : List (List UInt8)} (hs : ∀ s ∈ ws, s.length ≤ 140737488351232) {m : Mc} (h : m ∈ msOf ws) : rightM m = true ∧ McFits m := by
  obtain ⟨s, h1, h2⟩ := List.mem_filterMap.1 h
  exact pmS_fit (hs s h1) h2
/-- One macro a name: the next one's name is not among those ahead. -/
theorem msOf_next {ws : List (List UInt8)} {i : Nat} (h : i < ws.length) (hnd : ((msOf ws).map Mc.name).Nodup) {m : Mc} (hm : pmS ws[i] = some m) : m.name ∉ (msOf (ws.take i)).map Mc.name ∧ ((msOf (ws.take i)).map Mc.name).Nodup := by
  have e : msOf ws = msOf (ws.take i) ++ m :: msOf (ws.drop (i + 1)) := by
    have : ws = ws.take i ++ ws[i] :: ws.drop (i + 1) := by rw [← List.drop_eq_getElem_cons h, List.take_append_drop]
    conv => lhs; rw [this]
    unfold msOf
    rw [List.filterMap_append, List.filterMap_cons, hm]
  rw [e, List.map_append, List.map_cons] at hnd
  have h1 := List.nodup_append.1 hnd
  exact ⟨fun h => h1.2.2 _ h _ (by simp) rfl, h1.1⟩
theorem msOf_take_nodup {ws : List (List UInt8)} (i : Nat) (hnd : ((msOf ws).map Mc.name).Nodup) : ((msOf (ws.take i)).map Mc.name).Nodup := by
  have e : msOf ws = msOf (ws.take i) ++ msOf (ws.drop i) := by
    conv => lhs; rw [← List.take_append_drop i ws]
    unfold msOf
    rw [List.filterMap_append]
  rw [e, List.map_append] at hnd
  exact (List.nodup_append.1 hnd).1
theorem ownsRow_frM {W W' : World} {base k n t mb nn : Nat} {D : DataW Value} {e : TypeId} {v : Value} {xs : List Value} (h : W.ownsRow base e k v n xs) (hf : Fr W W' mb) (hT : Tbl W t mb nn D) : W'.ownsRow base e k v n xs :=
  ownsRow_fr h hf (fun b cur hb e => by
    obtain ⟨es, clock, e1, _⟩ := hT.2.1
    subst e
    rw [hb] at e1
    cases e1)
end Go.Proofs.YticiddcgafhkhaaDoor
