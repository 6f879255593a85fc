/-
  Lists of types that a call makes; steps of a schedule that make memory.
-/
import Derived.Test.YtaffldhmgifdoaaIzb
import Derived.Test.YtaffldhmgifdoaaIy
import Derived.Laws.AppendOwnNone
import Derived.Test.YtaffldhmgifdoaaNb
namespace Go.Proofs.Ytaffldhmgifdoaa
open Go Go.RowKit Go.Shelf
set_option linter.unusedVariables false
set_option linter.unusedSimpArgs false

section
variable {P : Program} {n : Nat} {w : World} {Q : Exit → Act → World → Prop}
theorem stepIn_make {F : Fence} {ops : Array Oper} {o : Oper} {a : Act} {K : Act → World → Prop} {E : Prop} (hg : o.guard = none) (l c : Operand) (t : TypeId) (hop : o.op = Op.makeSlice t l c)
    (base : Nat) (e : TypeId) (i : TypeInfo) (z : Value) (size : Nat) (h1 : P.underlying t = some (.slice e)) (h2 : P.info? e = some i) (h3 : i.zero = some z) (h4 : i.size = size)
    (kl kc : IntKind) (C : Int) (m : Nat) (hl : a.eval l = .int kl 0) (hc : a.eval c = .int kc C) (hC : C = (m : Int)) (b2 : i.bytes * m ≤ 281474976710656) (b3 : m ≤ maxLen) (b4 : base ≤ w.heap.size)
    (hK : ∀ w', w'.ownsRow base e size (.slice (some ⟨w.heap.size, 0, none⟩) 0 m) 0 [] → w.grownBy w' none → K (a.put o.dst (.slice (some ⟨w.heap.size, 0, none⟩) 0 m)) w') :
    if Region.wanted o (yielded ops a.tmps) = true then o.wpIn F n P a w K Q else E := by
  have hw : Region.wanted o (yielded ops a.tmps) = true := by simp [Region.wanted, hg]
  rw [if_pos hw]
  obtain ⟨w', hrun, r1, r2⟩ := run_make_own (P := P) w base t e i z size h1 h2 h3 h4 kl kc m b2 b3 b4
  subst hC
  unfold Oper.wpIn
  refine ⟨?_, ?_⟩
  · simp [Oper.about, hop]
  · rw [Oper.semAt_plain F _ _ (by rw [hop]; intro c hc'; cases hc')]
    simp [execOp, hop, hl, hc, hrun, Result.andThen]
    exact hK w' r1 r2
theorem stepIn_append_none {F : Fence} {ops : Array Oper} {o : Oper} {a : Act} {K : Act → World → Prop} {E : Prop} (hg : o.guard = none) (s x : Operand) (t : TypeId) (hop : o.op = Op.call { callee := Callee.builtin Builtin.append, args := #[s, x], argTypes := #[t, t] })
    (base : Nat) (e : TypeId) (i : TypeInfo) (size : Nat) (h1 : P.underlying t = some (.slice e)) (h2 : P.info? e = some i)
    (v : Value) (k : Nat) (xs : List Value) (hs : a.eval s = v) (hown : w.ownsRow base e size v k xs) (hx : a.eval x = .slice none 0 0) (hK : K (a.put o.dst v) w) :
    if Region.wanted o (yielded ops a.tmps) = true then o.wpIn F n P a w K Q else E := by
  have hw : Region.wanted o (yielded ops a.tmps) = true := by simp [Region.wanted, hg]
  rw [if_pos hw]
  have hrun := run_append_owned_none (P := P) (w := w) base t o.type e i size h1 h2 v k xs hown
  unfold Oper.wpIn
  refine ⟨?_, ?_⟩
  · simp [Oper.about, hop, resolve, Target.leads, Sem.run_pure]
  · rw [Oper.semAt_plain F _ _ (by rw [hop]; intro c hc'; cases hc')]
    simp [execOp, hop, resolve, invoke, builtin, hs, hx, hrun, Result.andThen]
    exact hK
theorem stepIn_append_src {F : Fence} {ops : Array Oper} {o : Oper} {a : Act} {K : Act → World → Prop} {E : Prop} (hg : o.guard = none) (s x : Operand) (t : TypeId) (hop : o.op = Op.call { callee := Callee.builtin Builtin.append, args := #[s, x], argTypes := #[t, t] })
    (base : Nat) (e : TypeId) (i : TypeInfo) (z : Value) (size bytes : Nat) (h1 : P.underlying t = some (.slice e)) (h2 : P.info? e = some i) (h3 : i.zero = some z) (h4 : i.size = size) (h5 : i.bytes = bytes) (h6 : z.cells.size = size) (h7 : 0 < size)
    (v : Value) (k : Nat) (xs : List Value) (hs : a.eval s = v) (hown : w.ownsRow base e size v k xs) (q : Option Addr) (m c : Nat) (news : List Value) (hx : a.eval x = .slice q m c) (hn : news.length = m * size)
    (hnil : q = none → m = 0 ∧ c = 0) (hc : ∀ ad, q = some ad → ∀ j u, news[j]? = some u → w.cell? (ad.add j) = some u) (h1c : ∀ u ∈ news, u.oneCell' = true) (b1 : k + m ≤ maxLen) (b2 : (k + m) * bytes ≤ 140737488355328) (b3 : base ≤ w.heap.size)
    (hK : ∀ v' w', w'.ownsRow base e size v' (k + m) (xs ++ news) → w.grownBy w' v.ownBlock → K (a.put o.dst v') w') :
    if Region.wanted o (yielded ops a.tmps) = true then o.wpIn F n P a w K Q else E := by
  cases q with
  | none =>
    obtain ⟨rfl, rfl⟩ := hnil rfl
    have hn0 : news = [] := List.length_eq_zero_iff.1 (by omega)
    subst hn0
    exact stepIn_append_none hg s x t hop base e i size h1 h2 v k xs hs hown hx (hK v w (by rw [List.append_nil]; exact hown) ⟨rfl, rfl, rfl, Nat.le_refl _, fun _ _ _ => rfl⟩)
  | some ad => exact stepIn_append hg s x t hop base e i z size bytes h1 h2 h3 h4 h5 h6 h7 v k xs hs hown ad m c news hx hn (hc ad rfl) h1c b1 b2 b3 hK
end
def tyCs (l : List ShT) : List Value := l.flatMap tyC
theorem tyC_len (t : ShT) : (tyC t).length = 7 := rfl
theorem tyCs_len : ∀ l : List ShT, (tyCs l).length = l.length * 7
  | [] => rfl
  | s :: r => by
    have := tyCs_len r
    show (tyC s ++ tyCs r).length = _
    rw [List.length_append, this, List.length_cons, tyC_len]
    omega
theorem tyCs_get : ∀ (l : List ShT) (i j : Nat) (h : i < l.length), j < 7 → (tyCs l)[i * 7 + j]? = l[i].cs[j]?
  | s :: r, 0, j, _, hj => by
    show (tyC s ++ tyCs r)[0 * 7 + j]? = _
    rw [Nat.zero_mul, Nat.zero_add, List.getElem?_append_left (by rw [tyC_len]; exact hj)]
    unfold tyC
    rw [Array.getElem?_toList]
    rfl
  | s :: r, i + 1, j, h, hj => by
    have := tyCs_get r i j (by simpa using h) hj
    show (tyC s ++ tyCs r)[(i + 1) * 7 + j]? = _
    rw [List.getElem?_append_right (by rw [tyC_len]; omega), tyC_len, show (i + 1) * 7 + j - 7 = i * 7 + j by omega]
    exact this
theorem tyCs_src {B : Nat} {W : World} {g o : Nat} {l : List ShT} (h : TyLs B W (some ⟨g, o, none⟩) l) : ∀ (j : Nat) (u : Value), (tyCs l)[j]? = some u → W.cell? ((⟨g, o, none⟩ : Addr).add j) = some u := fun j u e => by
  have hj : j < l.length * 7 := by
    have := (List.getElem?_eq_some_iff.1 e).1
    rw [tyCs_len] at this
    exact this
  have hi : j / 7 < l.length := by omega
  obtain ⟨g', o', eq, _, hc, _⟩ := h (j / 7) hi
  obtain ⟨rfl, rfl⟩ : g = g' ∧ o = o' := by cases eq; exact ⟨rfl, rfl⟩
  have hx := tyCs_get l (j / 7) (j % 7) hi (by omega)
  rw [show j / 7 * 7 + j % 7 = j by omega] at hx
  have hadd : (⟨g, o, none⟩ : Addr).add j = ⟨g, o + j, none⟩ := by unfold Addr.add; split <;> simp_all
  have hcc := hc (j % 7) (by omega)
  rw [show o + j / 7 * 7 + j % 7 = o + j by omega] at hcc
  rw [hadd, hcc, ← hx, e]
theorem tyCs_one : ∀ (l : List ShT) (u : Value), u ∈ tyCs l → u.oneCell' = true := fun l u h => by
  obtain ⟨s, _, hs⟩ := List.mem_flatMap.1 h
  unfold tyC ShT.cs at hs
  simp only [List.mem_cons, List.mem_nil_iff, or_false] at hs
  rcases hs with rfl | rfl | rfl | rfl | rfl | rfl | rfl <;> rfl
theorem tyC_one (t : ShT) : ∀ u ∈ tyC t, u.oneCell' = true := fun u hs => by
  unfold tyC ShT.cs at hs
  simp only [List.mem_cons, List.mem_nil_iff, or_false] at hs
  rcases hs with rfl | rfl | rfl | rfl | rfl | rfl | rfl <;> rfl
theorem tyC_src {W : World} {b : Nat} {T : TypeId} {t : ShT} (h : Bk W b T (tyC t).toArray) : ∀ (j : Nat) (u : Value), (tyC t)[j]? = some u → W.cell? ((⟨b, 0, none⟩ : Addr).add j) = some u := fun j u e => by
  have hadd : (⟨b, 0, none⟩ : Addr).add j = ⟨b, j, none⟩ := by unfold Addr.add; split <;> simp_all
  rw [hadd, h.cell, List.getElem?_toArray]
  exact e
theorem tyCs_snoc (l : List ShT) (t : ShT) : tyCs (l ++ [t]) = tyCs l ++ tyC t := by
  unfold tyCs
  rw [List.flatMap_append, List.flatMap_cons, List.flatMap_nil, List.append_nil]
theorem ty_row {W : World} {base n : Nat} {v : Value} {l : List ShT} (h : W.ownsRow base 25 7 v n (tyCs l)) (hn : n = l.length) (hp : ∀ t ∈ l, t.In W.heap.size W) : ∃ q c, v = .slice q l.length c ∧ TyLs W.heap.size W q l := by
  subst hn
  obtain ⟨q, c, rfl⟩ := row_slice h
  refine ⟨q, c, rfl, fun i hi => ?_⟩
  obtain ⟨m, hm⟩ : ∃ m, l.length = m + 1 := ⟨l.length - 1, by omega⟩
  rw [hm] at h
  obtain ⟨g, cp, he, h1, h2, h3, h4⟩ := row_cells h
  obtain ⟨rfl, _⟩ : q = some ⟨g, 0, none⟩ ∧ c = cp := by simpa using he
  refine ⟨g, 0, rfl, h2, fun j hj => ?_, hp _ (List.getElem_mem hi)⟩
  rw [Nat.zero_add]
  have hx := tyCs_get l i j hi hj
  have hlt : i * 7 + j < (tyCs l).length := by rw [tyCs_len]; omega
  rw [List.getElem?_eq_getElem hlt] at hx
  rw [← hx]
  exact h4 _ _ (List.getElem?_eq_getElem hlt)
theorem infoTy : (Try.prog.info? 25).map (fun i => (i.zero, i.size, i.bytes)) = some (some (.agg #[.int .i64 0, .int .i64 0, .int .i64 0, .slice none 0 0, .slice none 0 0, .bool false, .int .i64 0]), 7, 88) := by kernel_rfl
theorem row_cap {W : World} {base n size cap : Nat} {e : TypeId} {q : Option Addr} {xs : List Value} (h : W.ownsRow base e size (.slice q n cap) n xs) : n ≤ cap := by
  rcases h.2 with ⟨_, h0⟩ | ⟨g, cp, cur, he, _, _, hc, _⟩
  · omega
  · obtain ⟨_, _, rfl⟩ : q = some ⟨g, 0, none⟩ ∧ n = n ∧ cap = cp := by simpa using he
    exact hc
theorem open_typesN {H : Type} {enc : TypeId × Value → H} {W : World} {fuel : Nat} {cs : List Value} {x : DataW H × List MemPlace} (h : DataW.trod enc Try.prog W 0 (fun _ => true) true fuel 22 cs = some x) :
    ∃ (q : Option Addr) (cap : Nat) (l : List ShT), cs = [.slice q l.length cap] ∧ TyLs W.heap.size W q l ∧ (∀ t ∈ l, t.Len) ∧ l.length ≤ cap ∧ (cap ≤ maxLen ∧ (q = none → cap = 0)) := by
  obtain ⟨q, cap, l, h1, h2, h3, h4, h5⟩ := open_types h
  refine ⟨q, cap, l, h1, h2, h3, h4, h5, fun hq => ?_⟩
  rcases Go.Deep.open_slice Try.underlying22 h with ⟨hc, _⟩ | ⟨a, len, cap', m, n, D, Pl, hc, _⟩
  · rw [h1] at hc
    simp at hc
    exact hc.2.2
  · rw [h1, hq] at hc
    simp at hc
end Go.Proofs.Ytaffldhmgifdoaa
