/-
  token.Lex: the tokens of lines, or the error and its line.
-/
import Derived.Test.YtmpkgjonbjpohaaGreatDoorQ5
import Derived.Test.YtmpkgjonbjpohaaGreatDoorNa
import Derived.BigRegionIn
import Derived.RegionIn
namespace Go.Proofs.YtmpkgjonbjpohaaGreatDoor
open Go Go.RowKit Go.Shelf
attribute [local go_sem] Oper.semAt_some
set_option linter.unusedVariables false
set_option linter.unusedSimpArgs false

def tokCells (l : List Tk.T) : List Value := l.flatMap tokC
theorem tokCells_snoc (l : List Tk.T) (t : Tk.T) : tokCells (l ++ [t]) = tokCells l ++ tokC t := by simp [tokCells]
theorem tokCells_length (l : List Tk.T) : (tokCells l).length = l.length * 6 := by
  induction l with
  | nil => rfl
  | cons x l ih => simp [tokCells, tokC] at ih ⊢; omega
theorem Tryz.info115 : (Tryz.prog.info? 115).map (fun i => (i.zero, i.size, i.bytes)) = some (some (.agg #[.int .i64 0, .string ⟨#[]⟩, .string ⟨#[]⟩, .int .i64 0, .bool false, .bool false]), 6, 56) := by kernel_rfl
theorem Boxed.below {W W' : World} {n b : Nat} {t : TypeId} {v : Value} (h : Boxed W b t v) (hb : Below n W W') (hn : b < n) : Boxed W' b t v := (hb.block b hn).trans h
theorem Boxed.turn {W W' : World} {row : Option Nat} {b : Nat} {t : TypeId} {v : Value} (h : Boxed W b t v) (hg : W.grownBy W' row) (hr : ∀ r, row = some r → b < r) : Boxed W' b t v :=
  h.kept hg (fun e => by have := hr b e.symm; omega)
theorem Boxed.setCell {b i j : Nat} {t : TypeId} {u : Value} {W : World} (h : Boxed W j t u) (hj : j ≠ b) (v : Value) : Boxed (W.setCell ⟨b, i, none⟩ v) j t u := (Below.heap_setCell W ⟨b, i, none⟩ v j hj).trans h
theorem row_turn {W : World} {base n size : Nat} {e : TypeId} {v : Value} {xs : List Value} (h : W.ownsRow base e size v n xs) : ∀ r, v.ownBlock = some r → base ≤ r ∧ ∃ cur, W.heap[r]? = some (.cells cur e (0, 0)) := by
  intro r hr
  rcases h.2 with ⟨rfl, _⟩ | ⟨g, cap, cur, rfl, hbg, hg, _⟩
  · simp [Value.ownBlock] at hr
  · obtain rfl : g = r := by simpa [Value.ownBlock] using hr
    exact ⟨hbg, cur, hg⟩
theorem Boxed.row {base n size j : Nat} {e t : TypeId} {u v : Value} {W W' : World} {xs : List Value} (h : Boxed W j t u) (hr : W.ownsRow base e size v n xs) (hg : W.grownBy W' v.ownBlock) (hj : j < base) : Boxed W' j t u :=
  h.kept hg (fun e' => by have := (row_turn hr j e'.symm).1; omega)
theorem ownsRow_base {W : World} {base base' n size : Nat} {e : TypeId} {v : Value} {xs : List Value} (h : W.ownsRow base e size v n xs) (hb : base' ≤ base) : W.ownsRow base' e size v n xs := by
  refine ⟨h.1, ?_⟩
  rcases h.2 with hn | ⟨g, cap, cur, rfl, hbg, hr⟩
  · exact .inl hn
  · exact .inr ⟨g, cap, cur, rfl, Nat.le_trans hb hbg, hr⟩
theorem ownsRow_setCell {b i base n size : Nat} {e : TypeId} {v : Value} {W : World} {xs : List Value} (h : W.ownsRow base e size v n xs) (hb : b < base) (u : Value) : (W.setCell ⟨b, i, none⟩ u).ownsRow base e size v n xs :=
  h.kept (row := some b) (grown_set W b i u) (Classical.or_iff_not_imp_left.2 (fun _ e => by have := (h.lt _ e).1; omega))
theorem KeepsO.rowG {B k base n size : Nat} {e : TypeId} {W W' : World} {v : Value} {xs : List Value} (h : W.ownsRow base e size v n xs) (hg : W.grownBy W' v.ownBlock) (hB : B + k ≤ base) : KeepsO B k W W' :=
  KeepsO.grown hg (fun r e => .inr (by obtain ⟨h1, cur, hc⟩ := row_turn h r e; exact ⟨by omega, _, hc, rfl⟩))
theorem KeepsFrom.rowG {B base n size : Nat} {e : TypeId} {W W' : World} {v : Value} {xs : List Value} (h : W.ownsRow base e size v n xs) (hg : W.grownBy W' v.ownBlock) : KeepsFrom B W W' :=
  (KeepsOthers.of_grownBy hg (fun j o ej hj => by obtain ⟨_, cur, hc⟩ := row_turn h j ej; rw [hc] at hj; cases hj; rfl)).from _
theorem six_cells (W : World) (t : Tk.T) (ty : TypeId) : ∀ (j : Nat) (u : Value), (tokC t)[j]? = some u → (W.alloc (.cells (tokC t).toArray ty)).cell? ((⟨W.heap.size, 0, none⟩ : Addr).add j) = some u := by
  intro j u h
  unfold tokC at *
  match j, h with
  | 0, h => simp at h; subst h; simp [Addr.add]
  | 1, h => simp at h; subst h; simp [Addr.add]
  | 2, h => simp at h; subst h; simp [Addr.add]
  | 3, h => simp at h; subst h; simp [Addr.add]
  | 4, h => simp at h; subst h; simp [Addr.add]
  | 5, h => simp at h; subst h; simp [Addr.add]
theorem tokens_stops (n : Nat) (h1 : 1 ≤ n) (Bd B0 : Nat) (v : Value) (l : List (Int × ByteArray)) (hf : Fits l) (w : World) (hB0 : 10 < B0) (hBw : B0 ≤ w.heap.size) (hb : Boxed w Bd 79 v) (hl : LnB B0 w v l) (hsg : Sg w) :
    SeqStopsO Fence.wide n 1 Tryz.prog 103 #[.pointer (some ⟨Bd, 0, none⟩)] encT (Below B0) (Tk.ev (asL l) false true) w :=
  fun lp J Jx W hW hJ hJx hY h0 => tokens1_in n h1 lp Bd B0 v l hf J Jx W hJ hJx hY hB0 (Nat.le_trans hBw hW.size) (Boxed.below hb hW hb.lt) (hl.below (hW.mono hBw)) (Sg.below hsg hW (by omega)) h0
theorem res13 {tmps : Array Value} {w : World} {B : Nat} {v0 v1 v2 : Value} (h2 : tmps.getD 2 undef = .pointer (some ⟨B, 0, none⟩)) (h3 : tmps.getD 3 undef = .pointer (some ⟨B + 1, 0, none⟩)) (h4 : tmps.getD 4 undef = .pointer (some ⟨B + 2, 0, none⟩))
    (c0 : w.cell? ⟨B, 0, none⟩ = some v0) (c1 : w.cell? ⟨B + 1, 0, none⟩ = some v1) (c2 : w.cell? ⟨B + 2, 0, none⟩ = some v2) :
    (results Tryz.f36 tmps).run Tryz.prog w = .ok (.tuple #[v0, v1, v2]) w := by
  have hr : Tryz.f36.results = #[.cell 2 74, .cell 3 27, .cell 4 3] := rfl
  have h2' : tmps[2]?.getD undef = .pointer (some ⟨B, 0, none⟩) := by simpa using h2
  have h3' : tmps[3]?.getD undef = .pointer (some ⟨B + 1, 0, none⟩) := by simpa using h3
  have h4' : tmps[4]?.getD undef = .pointer (some ⟨B + 2, 0, none⟩) := by simpa using h4
  simp [results, hr, h2', h3', h4', asAddr, go_sem, c0, c1, c2]

/-- What a round of Lex hands on; what it leaves when it ends. -/
def LexI (w : World) (full : List (Tk.T × Int)) (R : List Tk.T × Int × Int) (pre : List (Tk.T × Int)) (W : World) : Prop :=
  (∃ v, Boxed W (w.heap.size + 3) 74 v ∧ W.ownsRow (w.heap.size + 8) 115 6 v pre.length (tokCells (pre.map Prod.fst))) ∧ Boxed W w.heap.size 74 (.slice none 0 0) ∧ Boxed W (w.heap.size + 1) 27 (.int .i64 0) ∧ Boxed W (w.heap.size + 2) 3 (.int .i64 0) ∧
    Below w.heap.size w W ∧ pre.length ≤ 20000 ∧ Hid (∀ rest, pre ++ rest = full → Tk.col (pre.map Prod.fst) rest = R)
def LexX (w : World) (R : List Tk.T × Int × Int) (c : Code) (W : World) : Prop :=
  c = .ret ∧ ∃ e n : Int, Boxed W w.heap.size 74 (.slice none 0 0) ∧ Boxed W (w.heap.size + 1) 27 (.int .i64 e) ∧ Boxed W (w.heap.size + 2) 3 (.int .i64 n) ∧ Below w.heap.size w W ∧ Hid (R = ([], e, n))
theorem LexI.abides (w : World) (full : List (Tk.T × Int)) (R : List Tk.T × Int × Int) : AbidesO (w.heap.size + 5) (w.heap.size + 7) 1 (LexI w full R) := by
  refine ⟨fun pre X Y row hs hg hr => ?_, fun pre X hs => ?_⟩
  · obtain ⟨⟨v, h1, h2⟩, h3, h4, h5, h6, h7, h8⟩ := hs
    have hr' : ∀ r, row = some r → w.heap.size + 5 ≤ r := fun r e => (hr r e).1
    refine ⟨⟨v, Boxed.turn h1 hg (fun r e => by have := hr' r e; omega), h2.kept hg ?_⟩, Boxed.turn h3 hg (fun r e => by have := hr' r e; omega), Boxed.turn h4 hg (fun r e => by have := hr' r e; omega), Boxed.turn h5 hg (fun r e => by have := hr' r e; omega), h6.grown hg h6.size (fun r e => by have := hr' r e; omega), h7, h8⟩
    rcases h2.2 with ⟨rfl, _⟩ | ⟨g, cap, cur, rfl, hbg, hgb, _⟩
    · exact .inl rfl
    · refine .inr fun e' => ?_
      rcases (hr g (by simpa [Value.ownBlock] using e'.symm)).2 with h | ⟨o, ho, hc⟩
      · omega
      · rw [hgb] at ho; cases ho; cases hc
  · obtain ⟨⟨v, h1, h2⟩, h3, h4, h5, h6, h7, h8⟩ := hs
    exact ⟨⟨v, h1, h2.drew⟩, h3, h4, h5, h6.drew, h7, h8⟩
theorem LexX.abides (w : World) (R : List Tk.T × Int × Int) (c : Code) : AbidesO (w.heap.size + 5) (w.heap.size + 7) 1 (fun (_ : List (Tk.T × Int)) W => LexX w R c W) := by
  refine ⟨fun pre X Y row hs hg hr => ?_, fun pre X hs => ?_⟩
  · obtain ⟨rfl, e, n, h3, h4, h5, h6, h7⟩ := hs
    have hr' : ∀ r, row = some r → w.heap.size + 5 ≤ r := fun r e => (hr r e).1
    exact ⟨rfl, e, n, Boxed.turn h3 hg (fun r e => by have := hr' r e; omega), Boxed.turn h4 hg (fun r e => by have := hr' r e; omega), Boxed.turn h5 hg (fun r e => by have := hr' r e; omega), h6.grown hg h6.size (fun r e => by have := hr' r e; omega), h7⟩
  · obtain ⟨rfl, e, n, h3, h4, h5, h6, h7⟩ := hs
    exact ⟨rfl, e, n, h3, h4, h5, h6.drew, h7⟩

set_option maxRecDepth 100000 in
set_option maxHeartbeats 4000000 in
theorem Lex_any (v : Value) (l : List (Int × ByteArray)) (w : World) (hf : Fits l) (hw0 : 10 < w.heap.size) (hl : LnB w.heap.size w v l) (hsg : Sg w) :
    Calls Tryz.prog 36 #[v] w fun e w' => ∃ v', e = .returned (.tuple #[v', .int .i64 (Tk.lex (asL l)).2.1, .int .i64 (Tk.lex (asL l)).2.2]) ∧
      w'.ownsRow w.heap.size 115 6 v' (Tk.lex (asL l)).1.length (tokCells (Tk.lex (asL l)).1) ∧ Below w.heap.size w w' := by
  have HL := hide hl
  obtain ⟨p, cap, rfl, _⟩ := hl
  have HS := hide hsg
  have HF := hide hf
  clear hsg hf
  have hR0 : Tk.col [] (Tk.ev (asL l) false true) = Tk.lex (asL l) := rfl
  generalize Tk.lex (asL l) = R at *
  have HR0 := hide hR0
  clear hR0
  refine (callsIn_wide (n := 4)).1 ?_
  refine callsIn_of_wp_marks Tryz.func36 rfl trivial ?_ rfl
  simp only [Tryz.ntmps36, List.size_toArray, List.length_cons, List.length_nil, Nat.reduceAdd, Nat.reduceSub, Array.replicate_succ, Array.replicate_zero, List.push_toArray, List.append_toArray, List.nil_append, List.cons_append]
  gi_wp2_with (refine ⟨trivial, ?_⟩; gi_at_call 71; refine (callsIn_wide.2 (tokens_any p l.length cap _)).mono ?_; rintro e w' ⟨rfl, rfl⟩)
  have b0 : Boxed (((((w.alloc (.cells #[.slice none 0 0] 74)).alloc (.cells #[.int .i64 0] 27)).alloc (.cells #[.int .i64 0] 3)).alloc (.cells #[.slice none 0 0] 74)).alloc (.cells #[.slice p l.length cap] 79)) w.heap.size 74 (.slice none 0 0) :=
    ((((Boxed.new w 74 _).alloc _).alloc _).alloc _).alloc _
  have b1 : Boxed (((((w.alloc (.cells #[.slice none 0 0] 74)).alloc (.cells #[.int .i64 0] 27)).alloc (.cells #[.int .i64 0] 3)).alloc (.cells #[.slice none 0 0] 74)).alloc (.cells #[.slice p l.length cap] 79)) (w.heap.size + 1) 27 (.int .i64 0) := by
    have := (((Boxed.new (w.alloc (.cells #[.slice none 0 0] 74)) 27 (.int .i64 0)).alloc (.cells #[.int .i64 0] 3)).alloc (.cells #[.slice none 0 0] 74)).alloc (.cells #[.slice p l.length cap] 79)
    rwa [World.size_alloc] at this
  have b2 : Boxed (((((w.alloc (.cells #[.slice none 0 0] 74)).alloc (.cells #[.int .i64 0] 27)).alloc (.cells #[.int .i64 0] 3)).alloc (.cells #[.slice none 0 0] 74)).alloc (.cells #[.slice p l.length cap] 79)) (w.heap.size + 2) 3 (.int .i64 0) := by
    have := ((Boxed.new ((w.alloc (.cells #[.slice none 0 0] 74)).alloc (.cells #[.int .i64 0] 27)) 3 (.int .i64 0)).alloc (.cells #[.slice none 0 0] 74)).alloc (.cells #[.slice p l.length cap] 79)
    rwa [World.size_alloc, World.size_alloc] at this
  have b3 : Boxed (((((w.alloc (.cells #[.slice none 0 0] 74)).alloc (.cells #[.int .i64 0] 27)).alloc (.cells #[.int .i64 0] 3)).alloc (.cells #[.slice none 0 0] 74)).alloc (.cells #[.slice p l.length cap] 79)) (w.heap.size + 3) 74 (.slice none 0 0) := by
    have := (Boxed.new (((w.alloc (.cells #[.slice none 0 0] 74)).alloc (.cells #[.int .i64 0] 27)).alloc (.cells #[.int .i64 0] 3)) 74 (.slice none 0 0)).alloc (.cells #[.slice p l.length cap] 79)
    rwa [World.size_alloc, World.size_alloc, World.size_alloc] at this
  have b4 : Boxed (((((w.alloc (.cells #[.slice none 0 0] 74)).alloc (.cells #[.int .i64 0] 27)).alloc (.cells #[.int .i64 0] 3)).alloc (.cells #[.slice none 0 0] 74)).alloc (.cells #[.slice p l.length cap] 79)) (w.heap.size + 4) 79 (.slice p l.length cap) := by
    have := Boxed.new ((((w.alloc (.cells #[.slice none 0 0] 74)).alloc (.cells #[.int .i64 0] 27)).alloc (.cells #[.int .i64 0] 3)).alloc (.cells #[.slice none 0 0] 74)) 79 (.slice p l.length cap)
    rwa [World.size_alloc, World.size_alloc, World.size_alloc, World.size_alloc] at this
  have hz : (((((w.alloc (.cells #[.slice none 0 0] 74)).alloc (.cells #[.int .i64 0] 27)).alloc (.cells #[.int .i64 0] 3)).alloc (.cells #[.slice none 0 0] 74)).alloc (.cells #[.slice p l.length cap] 79)).heap.size = w.heap.size + 5 := by simp
  have hbe : Below w.heap.size w (((((w.alloc (.cells #[.slice none 0 0] 74)).alloc (.cells #[.int .i64 0] 27)).alloc (.cells #[.int .i64 0] 3)).alloc (.cells #[.slice none 0 0] 74)).alloc (.cells #[.slice p l.length cap] 79)) :=
    (((((Below.refl _ w).alloc (Nat.le_refl _) _).alloc (by simp) _).alloc (by simp; omega) _).alloc (by simp; omega) _).alloc (by simp; omega) _
  generalize (((((w.alloc (.cells #[.slice none 0 0] 74)).alloc (.cells #[.int .i64 0] 27)).alloc (.cells #[.int .i64 0] 3)).alloc (.cells #[.slice none 0 0] 74)).alloc (.cells #[.slice p l.length cap] 79)) = W0 at *
  refine wpIn_rangeFunc_ownA (k := 1) rfl (by decide) (gf := 103) (lb := #[.pointer (some ⟨w.heap.size + 1 + 1 + 1 + 1, 0, none⟩)]) rfl trivial (enters_of Tryz.func103 (by kernel_rfl) rfl)
    (tokens_stops 3 (by decide) (w.heap.size + 4) w.heap.size (.slice p l.length cap) l (unhide HF) W0 hw0 (by omega) b4 ((unhide HL).below hbe) (Sg.below (unhide HS) hbe hw0)) Below.trans (fun W lb o o' hlb hlo _ _ => ?kb)
    (fun W o hW => (Below.refl _ W).alloc (by omega) o) (Below.refl _ _) (fun _ => rfl)
    (LexI w (Tk.ev (asL l) false true) R) (fun c _ W => LexX w R c W) (by rw [hz]; exact LexI.abides w _ R) (fun c => by rw [hz]; exact LexX.abides w R c)
    ⟨⟨_, b3, World.ownsRow_nil _ _ _ _⟩, b0, b1, b2, hbe, by simp, fun rest h => by rw [List.nil_append] at h; rw [h]; exact unhide HR0⟩
    (fun x => .cells (tokC x.1).toArray 115)
    (fun x A => { tmps := #[.slice p l.length cap, undef, .pointer (some ⟨w.heap.size, 0, none⟩), .pointer (some ⟨w.heap.size + 1, 0, none⟩), .pointer (some ⟨w.heap.size + 1 + 1, 0, none⟩), .pointer (some ⟨w.heap.size + 1 + 1 + 1, 0, none⟩), .pointer (some ⟨A, 0, none⟩), .int .i64 x.2, .slice p l.length cap, .func (.func 103) #[] #[.pointer (some ⟨w.heap.size + 1 + 1 + 1 + 1, 0, none⟩)], tokV x.1, .int .i64 x.2, undef, undef, undef, undef, undef, undef, undef, undef, undef, undef, undef, undef, undef, undef, undef, undef, undef], defers := [] })
    ?assign ?body ?done ?stop
  case kb =>
    have hlt := (Array.getElem?_eq_some_iff.1 hlo).1
    exact (Below.refl _ W).grown (grownBy_putObj' W lb o') (by omega) (fun r e => by cases e; omega)
  case assign =>
    intro l' x W' K hK
    simp only [encT, tokV, tokC] at hK ⊢
    gi_wp2
    simpa using hK
  case body =>
    rintro l' pre ⟨t, er⟩ W1 A hA hAo hno ⟨⟨v, c3, hrow⟩, c0, c1, c2, hbe1, hlen, hcol⟩ hpre
    rw [hz] at hA hno
    obtain ⟨rest, hrest⟩ := hpre
    have hcol1 := unhide hcol ((t, er) :: rest) (by rw [← hrest]; simp)
    have hA0 : W1.cell? ⟨A, 0, none⟩ = some (.int .i64 (t.kind : Nat)) := by rw [World.cell?, hAo]; rfl
    have hA1 : W1.cell? ⟨A, 1, none⟩ = some (.string ⟨t.s.toArray⟩) := by rw [World.cell?, hAo]; rfl
    have hA2 : W1.cell? ⟨A, 2, none⟩ = some (.string ⟨#[]⟩) := by rw [World.cell?, hAo]; rfl
    have hA3 : W1.cell? ⟨A, 3, none⟩ = some (.int .i64 t.line) := by rw [World.cell?, hAo]; rfl
    have hA4 : W1.cell? ⟨A, 4, none⟩ = some (.bool t.sp) := by rw [World.cell?, hAo]; rfl
    have hA5 : W1.cell? ⟨A, 5, none⟩ = some (.bool t.fi) := by rw [World.cell?, hAo]; rfl
    have HCO := hide hcol1
    have HRE := hide hrest
    clear hcol1 hrest hcol
    have d0 := c0.cell
    have e0 := c0.frozen
    have d1 := c1.cell
    have e1 := c1.frozen
    have d2 := c2.cell
    have e2 := c2.frozen
    have d3 := c3.cell
    have e3 := c3.frozen
    have hzl : ∃ q cp, v = .slice q pre.length cp := by
      rcases hrow.2 with ⟨rfl, h0⟩ | ⟨g, cp, cur, rfl, _⟩
      · exact ⟨none, 0, by rw [h0]⟩
      · exact ⟨_, _, rfl⟩
    obtain ⟨q, cp, rfl⟩ := hzl
    have finR : ∀ (ee : Int), Hid (R = ([], ee, t.line)) → KeepsFrom W0.heap.size W1 (((W1.setCell ⟨w.heap.size, 0, none⟩ (.slice none 0 0)).setCell ⟨w.heap.size + 1, 0, none⟩ (.int .i64 ee)).setCell ⟨w.heap.size + 1 + 1, 0, none⟩ (.int .i64 t.line)).drew ∧
        KeepsO (W0.heap.size + 2) 1 W1 (((W1.setCell ⟨w.heap.size, 0, none⟩ (.slice none 0 0)).setCell ⟨w.heap.size + 1, 0, none⟩ (.int .i64 ee)).setCell ⟨w.heap.size + 1 + 1, 0, none⟩ (.int .i64 t.line)).drew ∧
        LexX w R .ret (((W1.setCell ⟨w.heap.size, 0, none⟩ (.slice none 0 0)).setCell ⟨w.heap.size + 1, 0, none⟩ (.int .i64 ee)).setCell ⟨w.heap.size + 1 + 1, 0, none⟩ (.int .i64 t.line)).drew := by
      intro ee hee
      refine ⟨?_, ?_, rfl, ee, t.line, ?_, ?_, ?_, ?_, hee⟩
      · exact ((((KeepsOthers.setCell _ _ _).from _).trans ((KeepsOthers.setCell _ _ _).from _)).trans ((KeepsOthers.setCell _ _ _).from _)).trans ((KeepsOthers.drew _).from _)
      · exact (((KeepsO.setCell (.inl (by omega))).trans (KeepsO.setCell (.inl (by omega)))).trans (KeepsO.setCell (.inl (by omega)))).trans (KeepsO.drew _)
      · exact Boxed.setCell (Boxed.setCell (Boxed.set _ c0) (by omega) _) (by omega) _
      · exact Boxed.setCell (Boxed.set _ (Boxed.setCell c1 (by omega) _)) (by omega) _
      · exact Boxed.set _ (Boxed.setCell (Boxed.setCell c2 (by omega) _) (by omega) _)
      · exact (((hbe1.setCell (p := ⟨w.heap.size, 0, none⟩) (Nat.le_refl _) _).setCell (p := ⟨w.heap.size + 1, 0, none⟩) (by show _ ≤ w.heap.size + 1; omega) _).setCell (p := ⟨w.heap.size + 1 + 1, 0, none⟩) (by show _ ≤ w.heap.size + 1 + 1; omega) _).drew
    have FIN := hide finR
    clear finR
    by_cases her : er = 0
    · subst her
      by_cases hfull : pre.length = 20000
      · have i1 : (((pre.length : Nat) : Int) == 20000) = true := by rw [beq_iff_eq]; omega
        have HRR : Hid (R = ([], 22, t.line)) := by
          have := unhide HCO
          rw [Tk.col, if_pos rfl, if_neg (by simp; omega)] at this
          exact this.symm
        gi_wp2
        gi_region
        all_goals
          gi_wp2
          exact unhide FIN 22 HRR
      · have i1 : (((pre.length : Nat) : Int) == 20000) = false := by rw [beq_eq_false_iff_ne]; omega
        have hcolN : Hid (∀ rest', (pre ++ [(t, 0)]) ++ rest' = Tk.ev (asL l) false true → Tk.col ((pre ++ [(t, 0)]).map Prod.fst) rest' = R) := by
          intro rest' h
          have e1 := unhide HRE
          rw [← e1] at h
          have e2 := List.append_cancel_left h
          subst e2
          have := unhide HCO
          rw [Tk.col, if_pos rfl, if_pos (by simp; omega)] at this
          simpa using this
        obtain ⟨i0, hi, hz0, hz1, hz2'⟩ := info_parts Tryz.info115
        have hrowa : (W1.alloc (.cells (tokC t).toArray 115)).ownsRow (w.heap.size + 8) 115 6 (.slice q pre.length cp) pre.length (tokCells (pre.map Prod.fst)) := hrow.alloc _
        have hzW : w.heap.size + 8 ≤ W1.heap.size := by have := (Array.getElem?_eq_some_iff.1 hAo).1; omega
        simp only [tokV, tokC]
        gi_wp2_with (gi_at_builtin; refine wpListIn_append_own _ rfl _ _ 74 rfl (w.heap.size + 8) 115 i0 _ 6 56 Tryz.underlying74 hi hz0 hz1 hz2' rfl (by decide) _ _ _ rfl hrowa ⟨W1.heap.size, 0, none⟩ 1 1 (tokC t) rfl rfl (six_cells W1 t 115) ?c2 ?c3 ?c4 ?c5 ?_)
        case c2 => intro u hu; simp [tokC] at hu; rcases hu with rfl | rfl | rfl | rfl | rfl | rfl <;> rfl
        case c3 => unfold maxLen; omega
        case c4 => omega
        case c5 => omega
        intro v' W5 hown' hgrow _
        obtain ⟨g', cap', rfl⟩ := ownsRow_succ hown'
        have p3 : Boxed W5 (w.heap.size + 3) 74 (.slice q pre.length cp) := Boxed.row (c3.alloc _) hrowa hgrow (by omega)
        have p0 : Boxed W5 w.heap.size 74 (.slice none 0 0) := Boxed.row (c0.alloc _) hrowa hgrow (by omega)
        have p1 : Boxed W5 (w.heap.size + 1) 27 (.int .i64 0) := Boxed.row (c1.alloc _) hrowa hgrow (by omega)
        have p2 : Boxed W5 (w.heap.size + 2) 3 (.int .i64 0) := Boxed.row (c2.alloc _) hrowa hgrow (by omega)
        have pb : Below w.heap.size w W5 := (hbe1.alloc hbe1.size _).grown hgrow (by simp; omega) (fun r e => by have := (row_turn hrowa r e).1; omega)
        have pko : KeepsO (W0.heap.size + 2) 1 W1 W5 := (KeepsO.alloc W1 _).trans (KeepsO.rowG hrowa hgrow (by omega))
        have pkf : KeepsFrom W0.heap.size W1 W5 := ((KeepsOthers.alloc W1 _).from _).trans (KeepsFrom.rowG hrowa hgrow)
        have pk : Below w.heap.size W1 W5 := ((Below.refl _ W1).alloc (by omega) _).grown hgrow (by simp; omega) (fun r e => by have := (row_turn hrowa r e).1; omega)
        have p3c := p3.cell
        have p3f := p3.frozen
        gi_wp2
        refine ⟨pkf.trans ((KeepsOthers.setCell _ _ _).from _), pko.trans (KeepsO.setCell (.inl (by omega))), pk.setCell (p := ⟨w.heap.size + 1 + 1 + 1, 0, none⟩) (by show _ ≤ w.heap.size + 1 + 1 + 1; omega) _, ⟨_, Boxed.set _ p3, ?_⟩, Boxed.setCell p0 (by omega) _, Boxed.setCell p1 (by omega) _, Boxed.setCell p2 (by omega) _, pb.setCell (p := ⟨w.heap.size + 1 + 1 + 1, 0, none⟩) (by show _ ≤ w.heap.size + 1 + 1 + 1; omega) _, by simp; omega, hcolN⟩
        have := ownsRow_setCell (b := w.heap.size + 1 + 1 + 1) (i := 0) hown' (by omega) (.slice (some ⟨g', 0, none⟩) (pre.length + 1) cap')
        rw [List.map_append, List.map_cons, List.map_nil, tokCells_snoc]
        simpa using this
    · have i1 : ((er : Int) == 0) = false := by rw [beq_eq_false_iff_ne]; exact her
      have i2 : ((er : Int) != 0) = true := by rw [bne_iff_ne]; exact her
      have HRR : Hid (R = ([], er, t.line)) := by
        have := unhide HCO
        rw [Tk.col, if_neg her] at this
        exact this.symm
      gi_wp2
      gi_region
      all_goals
        gi_wp2
        exact unhide FIN er HRR
  case done =>
    rintro D W' hD ⟨⟨v, c3, hrow⟩, c0, c1, c2, hbe1, hlen, hcol⟩ hK
    have hRR := hide (unhide hcol [] (by simp))
    have d0 := c0.cell
    have e0 := c0.frozen
    have d1 := c1.cell
    have e1 := c1.frozen
    have d2 := c2.cell
    have e2 := c2.frozen
    have d3 := c3.cell
    have hzl : ∃ q cp n, v = .slice q n cp := by
      rcases hrow.2 with ⟨rfl, h0⟩ | ⟨g, cp, cur, rfl, _⟩
      · exact ⟨none, 0, 0, rfl⟩
      · exact ⟨_, _, _, rfl⟩
    obtain ⟨q, cp, nn, rfl⟩ := hzl
    have hKlt := (Array.getElem?_eq_some_iff.1 hK).1
    gi_wp2
    have q0 : Boxed (((W'.setCell ⟨w.heap.size, 0, none⟩ (.slice q nn cp)).setCell ⟨w.heap.size + 1, 0, none⟩ (.int .i64 0)).setCell ⟨w.heap.size + 1 + 1, 0, none⟩ (.int .i64 0)) w.heap.size 74 (.slice q nn cp) := Boxed.setCell (Boxed.setCell (Boxed.set _ c0) (by omega) _) (by omega) _
    have q1 : Boxed (((W'.setCell ⟨w.heap.size, 0, none⟩ (.slice q nn cp)).setCell ⟨w.heap.size + 1, 0, none⟩ (.int .i64 0)).setCell ⟨w.heap.size + 1 + 1, 0, none⟩ (.int .i64 0)) (w.heap.size + 1) 27 (.int .i64 0) := Boxed.setCell (Boxed.set _ (Boxed.setCell c1 (by omega) _)) (by omega) _
    have q2 : Boxed (((W'.setCell ⟨w.heap.size, 0, none⟩ (.slice q nn cp)).setCell ⟨w.heap.size + 1, 0, none⟩ (.int .i64 0)).setCell ⟨w.heap.size + 1 + 1, 0, none⟩ (.int .i64 0)) (w.heap.size + 2) 3 (.int .i64 0) := Boxed.set _ (Boxed.setCell (Boxed.setCell c2 (by omega) _) (by omega) _)
    have qr : (((W'.setCell ⟨w.heap.size, 0, none⟩ (.slice q nn cp)).setCell ⟨w.heap.size + 1, 0, none⟩ (.int .i64 0)).setCell ⟨w.heap.size + 1 + 1, 0, none⟩ (.int .i64 0)).ownsRow (w.heap.size + 8) 115 6 (.slice q nn cp) _ _ := ownsRow_setCell (ownsRow_setCell (ownsRow_setCell hrow (by omega) _) (by omega) _) (by omega) _
    have qb : Below w.heap.size w (((W'.setCell ⟨w.heap.size, 0, none⟩ (.slice q nn cp)).setCell ⟨w.heap.size + 1, 0, none⟩ (.int .i64 0)).setCell ⟨w.heap.size + 1 + 1, 0, none⟩ (.int .i64 0)) :=
      ((hbe1.setCell (p := ⟨w.heap.size, 0, none⟩) (Nat.le_refl _) _).setCell (p := ⟨w.heap.size + 1, 0, none⟩) (by show _ ≤ w.heap.size + 1; omega) _).setCell (p := ⟨w.heap.size + 1 + 1, 0, none⟩) (by show _ ≤ w.heap.size + 1 + 1; omega) _
    have qK : (((W'.setCell ⟨w.heap.size, 0, none⟩ (.slice q nn cp)).setCell ⟨w.heap.size + 1, 0, none⟩ (.int .i64 0)).setCell ⟨w.heap.size + 1 + 1, 0, none⟩ (.int .i64 0)).heap[D]? = some (.deferred (some [])) :=
      (Below.heap_setCell _ _ _ _ (by show D ≠ w.heap.size + 1 + 1; omega)).trans ((Below.heap_setCell _ _ _ _ (by show D ≠ w.heap.size + 1; omega)).trans ((Below.heap_setCell _ _ _ _ (by show D ≠ w.heap.size; omega)).trans hK))
    generalize (((W'.setCell ⟨w.heap.size, 0, none⟩ (.slice q nn cp)).setCell ⟨w.heap.size + 1, 0, none⟩ (.int .i64 0)).setCell ⟨w.heap.size + 1 + 1, 0, none⟩ (.int .i64 0)) = W6 at *
    refine ⟨by simp, .inl ⟨_, _, rfl, run_takeDeferred qK, ?_⟩⟩
    have hother : ∀ j, j ≠ D → (W6.putObj D (.deferred none)).heap[j]? = W6.heap[j]? := fun j hj => World.putObj_heap_other (by omega)
    have r0 : Boxed (W6.putObj D (.deferred none)) w.heap.size 74 (.slice q nn cp) := (hother _ (by omega)).trans q0
    have r1 : Boxed (W6.putObj D (.deferred none)) (w.heap.size + 1) 27 (.int .i64 0) := (hother _ (by omega)).trans q1
    have r2 : Boxed (W6.putObj D (.deferred none)) (w.heap.size + 2) 3 (.int .i64 0) := (hother _ (by omega)).trans q2
    rw [← unhide hRR, Tk.col]
    refine ⟨_, res13 rfl rfl rfl r0.cell r1.cell r2.cell, .slice q nn cp, rfl, ?_, ?_⟩
    · have := ownsRow_base (ownsRow_putObj qr (.deferred none) qK rfl) (by omega : w.heap.size ≤ w.heap.size + 8)
      simpa using this
    · exact qb.grown (grownBy_putObj' W6 D _) qb.size (fun r e => by cases e; omega)
  case stop =>
    rintro D c pre W' hD _ ⟨rfl, e, n, c0, c1, c2, hbe1, hR⟩ hK
    gi_wp2
    refine ⟨by simp, .inl ⟨_, _, rfl, run_takeDeferred hK, ?_⟩⟩
    have hother : ∀ j, j ≠ D → (W'.putObj D (.deferred none)).heap[j]? = W'.heap[j]? := fun j hj => World.putObj_heap_other (by omega)
    have r0 : Boxed (W'.putObj D (.deferred none)) w.heap.size 74 (.slice none 0 0) := (hother _ (by omega)).trans c0
    have r1 : Boxed (W'.putObj D (.deferred none)) (w.heap.size + 1) 27 (.int .i64 e) := (hother _ (by omega)).trans c1
    have r2 : Boxed (W'.putObj D (.deferred none)) (w.heap.size + 2) 3 (.int .i64 n) := (hother _ (by omega)).trans c2
    rw [unhide hR]
    refine ⟨_, res13 rfl rfl rfl r0.cell r1.cell r2.cell, .slice none 0 0, rfl, World.ownsRow_nil _ _ _ _, ?_⟩
    exact hbe1.grown (grownBy_putObj' W' D _) hbe1.size (fun r e => by cases e; omega)
end Go.Proofs.YtmpkgjonbjpohaaGreatDoor
