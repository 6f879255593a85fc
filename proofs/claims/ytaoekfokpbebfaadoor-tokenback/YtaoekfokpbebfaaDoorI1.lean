/-
  Rows in memory that are appended to a made slice with room for them.
-/
import Derived.Test.YtaoekfokpbebfaaDoorG1
import Derived.Test.YtaoekfokpbebfaaDoorH1
import Derived.Laws.OwnMore
namespace Go.Proofs.YtaoekfokpbebfaaDoor
open Go Go.RowKit
set_option linter.unusedVariables false
set_option linter.unusedSimpArgs false

/-- A slice's cells lie behind its address, in a block below B. -/
def Rc (B : Nat) (W : World) (p : Option Addr) (n c : Nat) (xs : List Value) : Prop :=
  (p = none → n = 0 ∧ c = 0) ∧ ∀ ad, p = some ad → ∀ j u, xs[j]? = some u → ad.block < B ∧ W.cell? (ad.add j) = some u
theorem add_block (a : Addr) (j : Nat) : (a.add j).block = a.block := by unfold Addr.add; split <;> rfl
theorem Rc.below {B : Nat} {W W' : World} {p : Option Addr} {n c : Nat} {xs : List Value} (h : Rc B W p n c xs) (hb : Below B W W') : Rc B W' p n c xs :=
  ⟨h.1, fun ad hp j u hu => ⟨(h.2 ad hp j u hu).1, (hb.cell (p := ad.add j) (by rw [add_block]; exact (h.2 ad hp j u hu).1)).trans (h.2 ad hp j u hu).2⟩⟩
theorem Rc.mono {B B' : Nat} {W : World} {p : Option Addr} {n c : Nat} {xs : List Value} (h : Rc B W p n c xs) (hb : B ≤ B') : Rc B' W p n c xs :=
  ⟨h.1, fun ad hp j u hu => ⟨Nat.lt_of_lt_of_le (h.2 ad hp j u hu).1 hb, (h.2 ad hp j u hu).2⟩⟩
theorem Rc.of_row {W : World} {base n size c : Nat} {e : TypeId} {p : Option Addr} {xs : List Value} (h : W.ownsRow base e size (.slice p n c) n xs) : Rc W.heap.size W p n c xs := by
  refine ⟨fun hp => ?_, fun ad hp j u hu => ?_⟩
  · subst hp
    rcases h.2 with ⟨h1, h0⟩ | ⟨g, cap, cur, h1, _⟩
    · exact ⟨h0, by simp at h1; exact h1.2⟩
    · cases h1
  · subst hp
    rcases h.2 with ⟨h1, h0⟩ | ⟨g, cap, cur, h1, _⟩
    · cases h1
    · obtain ⟨rfl, rfl⟩ : ad = ⟨g, 0, none⟩ ∧ c = cap := by simpa using h1
      exact ⟨(h.lt g rfl).2, h.cells (g := g) rfl j u hu⟩
def lnCells (l : List (Int × ByteArray)) : List Value := l.flatMap fun x => [.int .i64 x.1, .string x.2]
theorem lnCells_length (l : List (Int × ByteArray)) : (lnCells l).length = l.length * 2 := by
  induction l with
  | nil => rfl
  | cons x l ih => simp [lnCells] at ih ⊢; omega
theorem lnCells_app (l m : List (Int × ByteArray)) : lnCells (l ++ m) = lnCells l ++ lnCells m := by simp [lnCells]
theorem lnCells_at : ∀ (l : List (Int × ByteArray)) (i : Nat) (h : i < l.length), (lnCells l)[i * 2]? = some (.int .i64 l[i].1) ∧ (lnCells l)[i * 2 + 1]? = some (.string l[i].2)
  | [], i, h => by simp at h
  | x :: r, 0, h => ⟨rfl, rfl⟩
  | x :: r, i + 1, h => by
    have := lnCells_at r i (by simpa using h)
    refine ⟨?_, ?_⟩
    · show (Value.int .i64 x.1 :: .string x.2 :: lnCells r)[(i + 1) * 2]? = _
      rw [show (i + 1) * 2 = i * 2 + 1 + 1 by omega]
      simpa using this.1
    · show (Value.int .i64 x.1 :: .string x.2 :: lnCells r)[(i + 1) * 2 + 1]? = _
      rw [show (i + 1) * 2 + 1 = i * 2 + 1 + 1 + 1 by omega]
      simpa using this.2
theorem lnCells_get {l : List (Int × ByteArray)} {j : Nat} {u : Value} (h : (lnCells l)[j]? = some u) : ∃ (i : Nat) (hi : i < l.length), (j = i * 2 ∧ u = .int .i64 l[i].1) ∨ (j = i * 2 + 1 ∧ u = .string l[i].2) := by
  have hj := (List.getElem?_eq_some_iff.1 h).1
  rw [lnCells_length] at hj
  have hi : j / 2 < l.length := by omega
  refine ⟨j / 2, hi, ?_⟩
  obtain ⟨h0, h1⟩ := lnCells_at l (j / 2) hi
  rcases Nat.mod_two_eq_zero_or_one j with hm | hm
  · left
    have e : j / 2 * 2 = j := by omega
    rw [e] at h0
    exact ⟨e.symm, Option.some.inj (h.symm.trans h0)⟩
  · right
    have e : j / 2 * 2 + 1 = j := by omega
    rw [e] at h1
    exact ⟨e.symm, Option.some.inj (h.symm.trans h1)⟩
theorem Rc.of_lines {B : Nat} {W : World} {p : Option Addr} {c : Nat} {l : List (Int × ByteArray)} (h : LnB B W (.slice p l.length c) l) (h0 : p = none → c = 0) : Rc B W p l.length c (lnCells l) := by
  obtain ⟨p', c', he, hc⟩ := h
  obtain ⟨rfl, rfl⟩ : p = p' ∧ c = c' := by simpa using he
  refine ⟨fun hp => ⟨?_, h0 hp⟩, fun ad hp j u hu => ?_⟩
  · rcases Nat.eq_zero_or_pos l.length with h | h
    · exact h
    · obtain ⟨g, o, hg, _⟩ := hc 0 h
      rw [hp] at hg; cases hg
  · obtain ⟨i, hi, hcs⟩ := lnCells_get hu
    obtain ⟨g, o, hg, hB, c0, c1⟩ := hc i hi
    rw [hp] at hg
    cases hg
    refine ⟨hB, ?_⟩
    have ea : ∀ k, (⟨g, o, none⟩ : Addr).add k = ⟨g, o + k, none⟩ := fun k => by unfold Addr.add; split <;> simp_all
    rw [ea]
    rcases hcs with ⟨rfl, rfl⟩ | ⟨rfl, rfl⟩
    · exact c0
    · rw [← Nat.add_assoc]; exact c1
theorem LnB.of_row {W : World} {base n : Nat} {v : Value} {L : List (Int × ByteArray)} (h : W.ownsRow base 40 2 v n (lnCells L)) (hn : n = L.length) : LnB W.heap.size W v L := by
  subst hn
  obtain ⟨p, c, rfl⟩ := ownsRow_slice h
  have hr := Rc.of_row h
  refine ⟨p, c, rfl, fun i hi => ?_⟩
  obtain ⟨h0, h1⟩ := lnCells_at L i hi
  rcases h.2 with ⟨hp, hz⟩ | ⟨g, cap, cur, hp, _⟩
  · omega
  · obtain ⟨rfl, rfl⟩ : p = some ⟨g, 0, none⟩ ∧ c = cap := by simpa using hp
    have a0 := hr.2 _ rfl _ _ h0
    have a1 := hr.2 _ rfl _ _ h1
    rw [add_row'] at a0 a1
    exact ⟨g, 0, rfl, a0.1, by rw [Nat.zero_add]; exact a0.2, by rw [Nat.zero_add]; exact a1.2⟩
/-- 'append' of whatever slice (nil or not) within the capacity. -/
theorem wpList_append_into {P : Program} (w : World) {ops : Array Oper} {rest : List Oper} {o : Oper} {a : Act} {Q : Exit → Act → World → Prop}
    (hg : o.guard = none) (s x : Operand) (t : TypeId) (hop : o.op = Op.call { callee := Callee.builtin Builtin.append, args := #[s, x], argTypes := #[t, t] })
    (base : Nat) (e : TypeId) (i : TypeInfo) (size : Nat) (h1 : P.underlying t = some (.slice e)) (h2 : P.info? e = some i) (h4 : i.size = size)
    (g k cap : Nat) (xs : List Value) (hs : a.eval s = .slice (some ⟨g, 0, none⟩) k cap) (hown : w.ownsRow base e size (.slice (some ⟨g, 0, none⟩) k cap) k xs) (p : Option Addr) (m c : Nat) (news : List Value) (hx : a.eval x = .slice p m c) (hn : news.length = m * size)
    (B : Nat) (hc : Rc B w p m c news) (h1c : ∀ u ∈ news, u.oneCell' = true) (b1 : k + m ≤ cap)
    (hK : ∀ w', w'.ownsRow base e size (.slice (some ⟨g, 0, none⟩) (k + m) cap) (k + m) (xs ++ news) → w.grownBy w' (some g) → wpList P ops Q rest (a.put o.dst (.slice (some ⟨g, 0, none⟩) (k + m) cap)) w') :
    wpList P ops Q (o :: rest) a w := by
  cases p with
  | some ad => exact wpList_append_fits w hg s x t hop base e i size h1 h2 h4 g k cap xs hs hown ad m c news hx hn (fun j u hu => (hc.2 ad rfl j u hu).2) h1c b1 hK
  | none =>
    obtain ⟨rfl, rfl⟩ := hc.1 rfl
    have hnil : news = [] := List.length_eq_zero_iff.1 (by omega)
    subst hnil
    refine wpList_plain hg fun K hK' => ?_
    have hrun := run_append_owned_none (P := P) w base t o.type e i size h1 h2 _ k xs hown
    unfold Oper.wp execOp
    simp only [hop, resolve, invoke, builtin, Sem.run_bind, Sem.run_pure, Result.andThen_ok, List.map_toArray, List.map_cons, List.map_nil, hs, hx, hrun]
    exact hK' _ _ (hK w (by simpa using hown) ⟨rfl, rfl, rfl, Nat.le_refl _, fun _ _ _ => rfl⟩)
end Go.Proofs.YtaoekfokpbebfaaDoor
