/-
  Rows of tokens of whatever fields: made, read, appended; a line's tokens as a row.
-/
import Derived.Test.YtfghfohlcofdpaaDoorHc
import Derived.Laws.OwnMore
namespace Go.Proofs.YtfghfohlcofdpaaDoor
open Go Go.RowKit
set_option linter.unusedVariables false
set_option linter.unusedSimpArgs false

def gC (t : Gt) : List Value := [.int .i64 t.kind, .string ⟨t.s.toArray⟩, .string ⟨t.f.toArray⟩, .int .i64 t.line, .bool t.sp, .bool t.fi]
/-- The cells of tokens. -/
def gCells (l : List Gt) : List Value := l.flatMap gC
theorem gCells_app (a b : List Gt) : gCells (a ++ b) = gCells a ++ gCells b := by simp [gCells]
theorem gCells_len : ∀ (l : List Gt), (gCells l).length = l.length * 6
  | [] => rfl
  | t :: r => by
    show (gC t ++ gCells r).length = _
    rw [List.length_append, gCells_len r, List.length_cons]
    simp [gC]; omega
theorem gCells_at : ∀ (l : List Gt) (i : Nat) (h : i < l.length) (j : Nat), j < 6 → (gCells l)[i * 6 + j]? = (gC l[i])[j]?
  | [], i, h, _, _ => by simp at h
  | x :: r, 0, h, j, hj => by
    show (gC x ++ gCells r)[0 * 6 + j]? = (gC x)[j]?
    rw [Nat.zero_mul, Nat.zero_add]
    exact List.getElem?_append_left hj
  | x :: r, i + 1, h, j, hj => by
    have hi : i < r.length := by simpa using h
    have := gCells_at r i hi j hj
    show (gC x ++ gCells r)[(i + 1) * 6 + j]? = (gC r[i])[j]?
    rw [← this, show (i + 1) * 6 + j = (gC x).length + (i * 6 + j) by simp [gC]; omega, List.getElem?_append_right (by omega)]
    congr 1
    omega
theorem gCells_g (l : List Tk.T) : gCells (l.map Tk.T.g) = tokCells l := by
  simp only [gCells, tokCells, List.flatMap_map]
  rfl
theorem gCells_one (l : List Gt) : ∀ u ∈ gCells l, u.oneCell' = true := by
  intro u hu
  obtain ⟨t, _, ht⟩ := List.mem_flatMap.1 hu
  simp [gC] at ht
  rcases ht with rfl | rfl | rfl | rfl | rfl | rfl <;> rfl
theorem add_pl (g o j : Nat) : (⟨g, o, none⟩ : Addr).add j = ⟨g, o + j, none⟩ := by unfold Addr.add; split <;> simp_all
/-- A slice that may be read as these tokens; nil has no room. -/
structure Rg (B : Nat) (W : World) (p : Option Addr) (cap : Nat) (l : List Gt) : Prop where
  nil : p = none → l = [] ∧ cap = 0
  cell : ∀ ad, p = some ad → ∃ g o, ad = ⟨g, o, none⟩ ∧ g < B ∧ ∀ j u, (gCells l)[j]? = some u → W.cell? ⟨g, o + j, none⟩ = some u
theorem Rg.below {B : Nat} {W W' : World} {p : Option Addr} {cap : Nat} {l : List Gt} (h : Rg B W p cap l) (hb : Below B W W') : Rg B W' p cap l :=
  ⟨h.nil, fun ad hp => by
    obtain ⟨g, o, rfl, hg, hc⟩ := h.cell ad hp
    exact ⟨g, o, rfl, hg, fun j u hu => (hb.cell (p := ⟨g, o + j, none⟩) hg).trans (hc j u hu)⟩⟩
theorem Rg.mono {B B' : Nat} {W : World} {p : Option Addr} {cap : Nat} {l : List Gt} (h : Rg B W p cap l) (hb : B ≤ B') : Rg B' W p cap l :=
  ⟨h.nil, fun ad hp => by
    obtain ⟨g, o, rfl, hg, hc⟩ := h.cell ad hp
    exact ⟨g, o, rfl, by omega, hc⟩⟩
theorem Rg.tk {B : Nat} {W : World} {p : Option Addr} {cap : Nat} {l : List Gt} (h : Rg B W p cap l) : TkG B W (.slice p l.length cap) l := by
  refine ⟨p, cap, rfl, fun i hi => ?_⟩
  cases hp : p with
  | none => rw [(h.nil hp).1] at hi; cases hi
  | some ad =>
    obtain ⟨g, o, rfl, hg, hc⟩ := h.cell ad hp
    have key : ∀ j u, j < 6 → (gC l[i])[j]? = some u → W.cell? ⟨g, o + i * 6 + j, none⟩ = some u := fun j u hj hu => by
      have := hc (i * 6 + j) u (by rw [gCells_at l i hi j hj]; exact hu)
      rw [Nat.add_assoc]; exact this
    exact ⟨g, o, rfl, hg, key 0 _ (by decide) rfl, key 1 _ (by decide) rfl, key 2 _ (by decide) rfl, key 3 _ (by decide) rfl, key 4 _ (by decide) rfl, key 5 _ (by decide) rfl⟩
theorem Rg.of_row {W : World} {base n : Nat} {v : Value} {l : List Gt} (h : W.ownsRow base 35 6 v n (gCells l)) (hn : n = l.length) : ∃ p cap, v = .slice p l.length cap ∧ Rg W.heap.size W p cap l := by
  subst hn
  have hc : ∀ {g : Nat}, v.ownBlock = some g → ∀ j u, (gCells l)[j]? = some u → W.cell? ((⟨g, 0, none⟩ : Addr).add j) = some u := fun hg => h.cells hg
  have hlt := h.lt
  rcases h.2 with ⟨rfl, h0⟩ | ⟨g, cap, cur, rfl, _⟩
  · exact ⟨none, 0, by rw [h0], fun _ => ⟨List.length_eq_zero_iff.1 h0, rfl⟩, fun ad hp => by cases hp⟩
  · refine ⟨some ⟨g, 0, none⟩, cap, rfl, (fun hp => by cases hp), fun ad hp => ?_⟩
    cases hp
    refine ⟨g, 0, rfl, (hlt g rfl).2, fun j u hu => ?_⟩
    have := hc (g := g) rfl j u hu
    rwa [add_pl] at this
/-- 'append' of tokens (nil or not) to a row of tokens that the call owns. -/
theorem wpList_append_tk (w : World) {ops : Array Oper} {rest : List Oper} {o : Oper} {a : Act} {Q : Exit → Act → World → Prop}
    (hg : o.guard = none) (s x : Operand) (hop : o.op = Op.call { callee := Callee.builtin Builtin.append, args := #[s, x], argTypes := #[30, 30] })
    (base : Nat) (v : Value) (xs : List Gt) (hs : a.eval s = v) (hown : w.ownsRow base 35 6 v xs.length (gCells xs)) (p : Option Addr) (cap m : Nat) (l : List Gt) (hx : a.eval x = .slice p m cap) (hm : m = l.length)
    (B : Nat) (hr : Rg B w p cap l) (hlen : xs.length + l.length ≤ 1000000) (hbase : base ≤ w.heap.size)
    (hK : ∀ v' w', w'.ownsRow base 35 6 v' (xs ++ l).length (gCells (xs ++ l)) → Below base w w' → wpList Tryd.prog ops Q rest (a.put o.dst v') w') :
    wpList Tryd.prog ops Q (o :: rest) a w := by
  subst hm
  obtain ⟨i, hi, hz0, hz1, hz2⟩ := info_parts Tryd.info35
  cases hp : p with
  | some ad =>
    rw [hp] at hx hr
    obtain ⟨g, off, rfl, hg', hc⟩ := hr.cell ad rfl
    refine wpList_append_own w hg s x 30 hop base 35 i _ 6 56 Tryd.underlying30 hi hz0 hz1 hz2 rfl (by decide) v xs.length (gCells xs) hs hown ⟨g, off, none⟩ l.length cap (gCells l) hx (gCells_len l) (fun j u hu => by rw [add_pl]; exact hc j u hu) (gCells_one l) (by unfold maxLen; omega) (by omega) hbase ?_
    intro v' w' h2 h3 _
    exact hK v' w' (by rw [gCells_app, List.length_append]; exact h2) ((Below.refl base w).grown h3 hbase (fun r e => (row_turn hown r e).1))
  | none =>
    rw [hp] at hx hr
    obtain ⟨rfl, rfl⟩ := hr.nil rfl
    refine wpList_plain hg fun K hK' => ?_
    have hrun := run_append_owned_none (P := Tryd.prog) w base 30 o.type 35 i 6 Tryd.underlying30 hi v xs.length (gCells xs) hown
    have hx' : a.eval x = .slice none 0 0 := hx
    unfold Oper.wp execOp
    simp only [hop, resolve, invoke, builtin, Sem.run_bind, Sem.run_pure, Result.andThen_ok, List.map_toArray, List.map_cons, List.map_nil, hs, hx', hrun]
    exact hK' _ _ (hK v w (by simpa using hown) (Below.refl base w))
/-- A line's tokens, as a row. -/
theorem Lex_oneR (s : ByteArray) (w : World) (hs : s.size ≤ 140737488355328) (hw0 : 2 < w.heap.size) (hsg : Sg w) :
    Calls Tryd.prog 25 #[.slice (some ⟨w.heap.size, 0, none⟩) 1 1] (w.alloc (.cells #[.int .i64 1, .string s] 61)) fun e w' => ∃ v', e = .returned (.tuple #[v', .int .i64 (lex1 s).2.1, .int .i64 (lex1 s).2.2]) ∧
      w'.ownsRow (w.heap.size + 1) 35 6 v' (lex1 s).1.length (tokCells (lex1 s).1) ∧ Below (w.heap.size + 1) (w.alloc (.cells #[.int .i64 1, .string s] 61)) w' := by
  have hz : (w.alloc (.cells #[.int .i64 1, .string s] 61)).heap.size = w.heap.size + 1 := by simp
  have hnew : (w.alloc (.cells #[.int .i64 1, .string s] 61)).heap[w.heap.size]? = some (.cells #[.int .i64 1, .string s] 61 (0, 0)) := World.alloc_heap_new w _
  have hl : LnB (w.alloc (.cells #[.int .i64 1, .string s] 61)).heap.size (w.alloc (.cells #[.int .i64 1, .string s] 61)) (.slice (some ⟨w.heap.size, 0, none⟩) 1 1) [(1, s)] := by
    refine ⟨some ⟨w.heap.size, 0, none⟩, 1, rfl, fun i hi => ⟨w.heap.size, 0, rfl, by omega, ?_, ?_⟩⟩
    · obtain rfl : i = 0 := by simpa using hi
      rw [World.cell?, hnew]; rfl
    · obtain rfl : i = 0 := by simpa using hi
      rw [World.cell?, hnew]; rfl
  have hsg' : Sg (w.alloc (.cells #[.int .i64 1, .string s] 61)) := Sg.below hsg ((Below.refl _ w).alloc (Nat.le_refl _) _) hw0
  have hf : Fits [(1, s)] := ⟨by simp, fun x hx => by simp at hx; subst hx; exact hs⟩
  refine (Lex_any _ _ _ hf (by omega) hl hsg').mono ?_
  rintro e w' ⟨v', rfl, hrow, hb⟩
  rw [hz] at hrow hb
  exact ⟨v', rfl, hrow, hb⟩
set_option maxRecDepth 100000 in
set_option maxHeartbeats 4000000 in
theorem lexedR_any (s : List UInt8) (w : World) (hs : s.length ≤ 140737488355328) (hg : Gl w) :
    Calls Tryd.prog 13 #[.string ⟨s.toArray⟩] w fun e w' => ∃ p cap, e = .returned (.slice p (lx s).length cap) ∧ Rg w'.heap.size w' p cap (lx s) ∧ Below w.heap.size w w' := by
  have HLX := hide (Lex_oneR ⟨s.toArray⟩ w (by show s.toArray.size ≤ _; simpa using hs) hg.size hg.sg)
  have hb1 : Below w.heap.size w (w.alloc (.cells #[.int .i64 1, .string ⟨s.toArray⟩] 61)) := (Below.refl _ w).alloc (Nat.le_refl _) _
  have HB := hide hb1
  clear hb1
  have HL : Hid (lx s = (lex1 ⟨s.toArray⟩).1.map Tk.T.g) := rfl
  generalize lx s = L at *
  generalize lex1 ⟨s.toArray⟩ = R at *
  go_enter Tryd.func13, Tryd.ntmps13
  go_wp2_with fail
  refine (unhide HLX).mono ?_
  rintro e W1 ⟨v', rfl, hT, hb1⟩
  have hb2 : Below w.heap.size w W1 := (unhide HB).trans (hb1.mono (by omega))
  clear HLX HB
  have HT := hide hT
  clear hT
  go_wp2
  go_ret
  have hT := unhide HT
  rw [← gCells_g, ← unhide HL] at hT
  obtain ⟨p, cap, rfl, hr⟩ := Rg.of_row hT (by rw [unhide HL]; simp)
  exact ⟨p, cap, rfl, hr, hb2⟩
end Go.Proofs.YtfghfohlcofdpaaDoor
