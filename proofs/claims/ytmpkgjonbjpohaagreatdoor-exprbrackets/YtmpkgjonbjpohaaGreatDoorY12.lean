/-
  Two words compared; a list of words cut short; its cells.
  Tokens and words in rows that the call owns; append of a list, nil or not.
-/
import Derived.Test.YtmpkgjonbjpohaaGreatDoorY5
import Derived.Laws.StructEq
import Derived.Laws.AppendOwnNone
namespace Go.Proofs.YtmpkgjonbjpohaaGreatDoor
open Go Go.RowKit
set_option linter.unusedVariables false
set_option linter.unusedSimpArgs false

theorem heldW : Tryz.prog.stoodInHeld 42 = false := by kernel_rfl
theorem fieldsW : Tryz.prog.underlying 42 = some (.struct (Tryz.prog.fieldsOf 42)) := by kernel_rfl
/-- Two words compared. -/
theorem wd_eq (x y : Wd) (W : World) : (Op.equalIn 10000 42 (.agg #[.int .i64 x.kind, .string ⟨x.s.toArray⟩, .int .i64 x.v, .int .i64 x.t, .string ⟨x.f.toArray⟩, .int .i64 x.line]) (.agg #[.int .i64 y.kind, .string ⟨y.s.toArray⟩, .int .i64 y.v, .int .i64 y.t, .string ⟨y.f.toArray⟩, .int .i64 y.line])).run Tryz.prog W = .ok (decide (x = y)) W := by
  rw [run_equalIn_struct _ 9999 42 _ _ fieldsW heldW]
  simp only [Program.fieldsOf, Tryz.underlying42]
  obtain ⟨a, s, v, t, f, m⟩ := x
  obtain ⟨b, s', v', t', g, n⟩ := y
  simp only [Wd.mk.injEq]
  have hb : ∀ (c d : List UInt8), (⟨c.toArray⟩ : ByteArray).toList = (⟨d.toArray⟩ : ByteArray).toList ↔ c = d := fun c d => by rw [ByteArray.toList_eq, ByteArray.toList_eq]
  simp [Op.eqFields, go_sem]
  by_cases h1 : a = b <;> by_cases h2 : s = s' <;> by_cases h3 : v = v' <;> by_cases h4 : t = t' <;> by_cases h5 : f = g <;> by_cases h6 : m = n <;> simp [*]
theorem wd_neq (x y : Wd) (W : World) : (binOp .neq 42 (.agg #[.int .i64 x.kind, .string ⟨x.s.toArray⟩, .int .i64 x.v, .int .i64 x.t, .string ⟨x.f.toArray⟩, .int .i64 x.line]) (.agg #[.int .i64 y.kind, .string ⟨y.s.toArray⟩, .int .i64 y.v, .int .i64 y.t, .string ⟨y.f.toArray⟩, .int .i64 y.line])).run Tryz.prog W = .ok (.bool (!decide (x = y))) W := by
  rw [run_neq_struct, wd_eq]; rfl
theorem WdG.takeZ {B : Nat} {W : World} {p : Option Addr} {cap : Nat} {l : List Wd} (h : WdG B W (.slice p l.length cap) l) (n : Nat) (hn : n ≤ l.length) : WdG B W (.slice p (l.take n).length cap) (l.take n) := by
  obtain ⟨p', cap', he, hc⟩ := h
  obtain ⟨rfl, rfl⟩ : p = p' ∧ cap = cap' := by simpa using he
  refine ⟨p, cap, rfl, fun i hi => ?_⟩
  have hi' : i < n := by simp at hi; omega
  obtain ⟨g, o, hg, hr⟩ := hc i (by omega)
  refine ⟨g, o, hg, ?_⟩
  rw [List.getElem_take]
  exact hr
/-- The cells of one word. -/
theorem WdG.at {B : Nat} {W : World} {p : Option Addr} {n cap : Nat} {l : List Wd} (h : WdG B W (.slice p n cap) l) {i : Nat} (hi : i < l.length) : ∃ g o, p = some ⟨g, o, none⟩ ∧ g < B ∧
    W.cell? ⟨g, o + i * 6, none⟩ = some (.int .i64 l[i].kind) ∧ W.cell? ⟨g, o + i * 6 + 1, none⟩ = some (.string ⟨l[i].s.toArray⟩) ∧ W.cell? ⟨g, o + i * 6 + 2, none⟩ = some (.int .i64 l[i].v) ∧
    W.cell? ⟨g, o + i * 6 + 3, none⟩ = some (.int .i64 l[i].t) ∧ W.cell? ⟨g, o + i * 6 + 4, none⟩ = some (.string ⟨l[i].f.toArray⟩) ∧ W.cell? ⟨g, o + i * 6 + 5, none⟩ = some (.int .i64 l[i].line) := by
  obtain ⟨p', cap', he, hc⟩ := h
  have : p = p' := by simp at he; exact he.1
  subst this
  exact hc i hi
end Go.Proofs.YtmpkgjonbjpohaaGreatDoor
namespace Go.Proofs.YtmpkgjonbjpohaaGreatDoor
open Go Go.RowKit
set_option linter.unusedVariables false
set_option linter.unusedSimpArgs false

def gtCells (l : List Gt) : List Value := l.flatMap gtC
theorem gtCells_app (l m : List Gt) : gtCells (l ++ m) = gtCells l ++ gtCells m := by simp [gtCells]
theorem wdCells_app (l m : List Wd) : wdCells (l ++ m) = wdCells l ++ wdCells m := by simp [wdCells]
theorem gtCells_length (l : List Gt) : (gtCells l).length = l.length * 6 := by
  induction l with
  | nil => rfl
  | cons t r ih =>
    have : gtCells (t :: r) = gtC t ++ gtCells r := by simp [gtCells]
    rw [this, List.length_append, ih]
    show 6 + r.length * 6 = _
    simp; omega
theorem gtCells_at : ∀ (l : List Gt) (i : Nat) (h : i < l.length) (j : Nat), j < 6 → (gtCells l)[i * 6 + j]? = (gtC l[i])[j]?
  | t :: r, 0, _, j, hj => by
    have : gtCells (t :: r) = gtC t ++ gtCells r := by simp [gtCells]
    rw [this, Nat.zero_mul, Nat.zero_add, List.getElem?_append_left (by show j < 6; exact hj)]
    rfl
  | t :: r, i + 1, h, j, hj => by
    have : gtCells (t :: r) = gtC t ++ gtCells r := by simp [gtCells]
    rw [this, List.getElem?_append_right (by show 6 ≤ _; omega)]
    have e : (i + 1) * 6 + j - (gtC t).length = i * 6 + j := by show (i + 1) * 6 + j - 6 = _; omega
    rw [e]
    exact gtCells_at r i (by simp at h; omega) j hj
/-- A row of tokens that the call owns is a list of tokens. -/
theorem TkG.of {W : World} {base n : Nat} {v : Value} {L : List Gt} (h : W.ownsRow base 115 6 v n (gtCells L)) (hn : n = L.length) : TkG W.heap.size W v L := by
  subst hn
  have hc : ∀ {g : Nat}, v.ownBlock = some g → ∀ j u, (gtCells L)[j]? = some u → W.cell? ((⟨g, 0, none⟩ : Addr).add j) = some u := fun hg => h.cells hg
  have hlt := h.lt
  rcases h.2 with ⟨rfl, h0⟩ | ⟨g, cap, cur, rfl, hbg, _⟩
  · exact ⟨none, 0, by rw [h0], fun i hi => by omega⟩
  · refine ⟨some ⟨g, 0, none⟩, cap, rfl, fun i hi => ⟨g, 0, rfl, (hlt g rfl).2, ?_⟩⟩
    have key : ∀ j u, j < 6 → (gtC L[i])[j]? = some u → W.cell? ⟨g, 0 + i * 6 + j, none⟩ = some u := fun j u hj hu => by
      have := hc (g := g) rfl (i * 6 + j) u (by rw [gtCells_at L i hi j hj]; exact hu)
      rw [add_row'] at this; rw [Nat.zero_add]; exact this
    exact ⟨key 0 _ (by decide) rfl, key 1 _ (by decide) rfl, key 2 _ (by decide) rfl, key 3 _ (by decide) rfl, key 4 _ (by decide) rfl, key 5 _ (by decide) rfl⟩
/-- What lies behind a slice: these cells, or it is nil. -/
def Src (W : World) (v : Value) (m : Nat) (news : List Value) : Prop :=
  news.length = m * 6 ∧ (∀ u ∈ news, u.oneCell' = true) ∧ ((v = .slice none 0 0 ∧ m = 0) ∨ ∃ ad c, v = .slice (some ad) m c ∧ ∀ j u, news[j]? = some u → W.cell? (ad.add j) = some u)
theorem gt_one (l : List Gt) : ∀ u ∈ gtCells l, u.oneCell' = true := by
  intro u hu
  obtain ⟨t, _, ht⟩ := List.mem_flatMap.1 hu
  simp only [gtC, List.mem_cons, List.not_mem_nil, or_false] at ht
  rcases ht with rfl | rfl | rfl | rfl | rfl | rfl <;> rfl
theorem wd_one (l : List Wd) : ∀ u ∈ wdCells l, u.oneCell' = true := by
  intro u hu
  obtain ⟨t, _, ht⟩ := List.mem_flatMap.1 hu
  simp only [wdC, List.mem_cons, List.not_mem_nil, or_false] at ht
  rcases ht with rfl | rfl | rfl | rfl | rfl | rfl <;> rfl
theorem src_tok {B : Nat} {W : World} {p : Option Addr} {cap : Nat} {l : List Gt} (h : TkG B W (.slice p l.length cap) l) (hp : p = none → cap = 0) : Src W (.slice p l.length cap) l.length (gtCells l) := by
  refine ⟨gtCells_length l, gt_one l, ?_⟩
  obtain ⟨p', cap', he, hc⟩ := h
  obtain ⟨rfl, rfl⟩ : p = p' ∧ cap = cap' := by simpa using he
  cases p with
  | none =>
    have h0 : l.length = 0 := by
      by_cases hz : 0 < l.length
      · obtain ⟨g, o, hg, _⟩ := hc 0 hz; cases hg
      · omega
    exact .inl ⟨by rw [h0, hp rfl], h0⟩
  | some ad =>
    refine .inr ⟨ad, cap, rfl, fun j u hu => ?_⟩
    have hj : j < l.length * 6 := by rw [← gtCells_length]; exact (List.getElem?_eq_some_iff.1 hu).1
    have hi : j / 6 < l.length := by omega
    obtain ⟨g, o, hg, _, c0, c1, c2, c3, c4, c5⟩ := hc (j / 6) hi
    obtain rfl := Option.some.inj hg
    have hu' := gtCells_at l (j / 6) hi (j % 6) (by omega)
    rw [show j / 6 * 6 + j % 6 = j by omega, hu] at hu'
    rw [show (⟨g, o, none⟩ : Addr).add j = ⟨g, o + j, none⟩ from by unfold Addr.add; split <;> simp_all]
    have hm : j % 6 < 6 := by omega
    have e : o + j = o + j / 6 * 6 + j % 6 := by omega
    rw [e]
    generalize j % 6 = q at *
    match q, hm with
    | 0, _ => rw [Nat.add_zero]; rw [c0]; simp [gtC] at hu'; rw [hu']
    | 1, _ => rw [c1]; simp [gtC] at hu'; rw [hu']
    | 2, _ => rw [c2]; simp [gtC] at hu'; rw [hu']
    | 3, _ => rw [c3]; simp [gtC] at hu'; rw [hu']
    | 4, _ => rw [c4]; simp [gtC] at hu'; rw [hu']
    | 5, _ => rw [c5]; simp [gtC] at hu'; rw [hu']
theorem src_row {W : World} {base n : Nat} {e : TypeId} {v : Value} {xs : List Value} (h : W.ownsRow base e 6 v n xs) (h1 : ∀ u ∈ xs, u.oneCell' = true) : Src W v n xs := by
  refine ⟨h.1, h1, ?_⟩
  have hc : ∀ {g : Nat}, v.ownBlock = some g → ∀ j u, xs[j]? = some u → W.cell? ((⟨g, 0, none⟩ : Addr).add j) = some u := fun hg => h.cells hg
  rcases h.2 with ⟨rfl, h0⟩ | ⟨g, cap, cur, rfl, _⟩
  · exact .inl ⟨rfl, h0⟩
  · exact .inr ⟨⟨g, 0, none⟩, cap, rfl, hc rfl⟩
theorem row_below' {W W' : World} {base n size : Nat} {e : TypeId} {v : Value} {xs : List Value} (h : W.ownsRow base e size v n xs) (hb : Below W.heap.size W W') : W'.ownsRow base e size v n xs := by
  refine ⟨h.1, ?_⟩
  rcases h.2 with h0 | ⟨g, cap, cur, hv, hbg, hg, hr⟩
  · exact .inl h0
  · exact .inr ⟨g, cap, cur, hv, hbg, (hb.block g (Array.getElem?_eq_some_iff.1 hg).1).trans hg, hr⟩
/-- append of such a slice to a row that the call owns. -/
theorem append_src {P : Program} (w : World) {ops : Array Oper} {rest : List Oper} {o : Oper} {a : Act} {Q : Exit → Act → World → Prop} (hgd : o.guard = none) (s x : Operand) (t : TypeId)
    (ho : o.op = .call { callee := .builtin .append, args := #[s, x], argTypes := #[t, t] })
    (base : Nat) (e : TypeId) (i : TypeInfo) (z : Value) (bytes : Nat) (ht : P.underlying t = some (.slice e)) (hi : P.info? e = some i) (hz : i.zero = some z)
    (hsize : i.size = 6) (hby : i.bytes = bytes) (hzs : z.cells.size = 6)
    (v : Value) (n : Nat) (xs : List Value) (hs : a.eval s = v) (hown : w.ownsRow base e 6 v n xs) (sv : Value) (m : Nat) (news : List Value) (hx : a.eval x = sv) (hsrc : Src w sv m news)
    (h63 : n + m ≤ maxLen) (hbytes : (n + m) * bytes ≤ 140737488355328) (hbase : base ≤ w.heap.size)
    (h : ∀ v' w', w'.ownsRow base e 6 v' (n + m) (xs ++ news) → w.grownBy w' v.ownBlock → wpList P ops Q rest (a.put o.dst v') w') : wpList P ops Q (o :: rest) a w := by
  obtain ⟨h1, h2, ⟨rfl, rfl⟩ | ⟨ad, c, rfl, hc⟩⟩ := hsrc
  · have hn : news = [] := List.length_eq_zero_iff.1 (by omega)
    subst hn
    refine wpList_append_own_none hgd s x t ho base e i 6 ht hi v n xs hs hown hx ?_
    exact h v w (by rw [List.append_nil]; exact hown) ⟨rfl, rfl, rfl, Nat.le_refl _, fun _ _ _ => rfl⟩
  · exact wpList_append_own w hgd s x t ho base e i z 6 bytes ht hi hz hsize hby hzs (by decide) v n xs hs hown ad m c news hx h1 hc h2 h63 hbytes hbase (fun v' w' a b _ => h v' w' a b)
end Go.Proofs.YtmpkgjonbjpohaaGreatDoor
