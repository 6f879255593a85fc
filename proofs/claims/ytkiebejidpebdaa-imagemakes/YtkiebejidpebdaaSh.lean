/-
  burinref11.through walked.
-/
import Derived.Test.YtkiebejidpebdaaSb
import Derived.Test.YtkiebejidpebdaaSc
import Derived.Test.YtkiebejidpebdaaTw
namespace Go.Proofs.Ytkiebejidpebdaa
open Go Go.RowKit Go.Shelf
set_option linter.unusedVariables false
set_option linter.unusedSimpArgs false

theorem clr_snoc : ∀ (n o : Nat) (l : List Int), clrM l o (n + 1) = (clrM l o n).set (o + n) 0
  | 0, o, l => rfl
  | n + 1, o, l => by
    rw [clrM, clr_snoc n (o + 1) (l.set o 0), clrM, show o + 1 + n = o + (n + 1) by omega]
theorem usCs_at : ∀ (l : List StU) (i : Nat) (h : i < l.length), (usCs l)[i * 4]? = some (.int .i64 l[i].1) ∧ (usCs l)[i * 4 + 1]? = some (.int .i64 l[i].2.1) ∧ (usCs l)[i * 4 + 2]? = some (.int .i64 l[i].2.2.1) ∧ (usCs l)[i * 4 + 3]? = some (.int .i64 l[i].2.2.2)
  | [], _, h => absurd h (Nat.not_lt_zero _)
  | m :: r, 0, _ => by simp [usCs, usC]
  | m :: r, i + 1, h => by
    have ih := usCs_at r i (by simpa using h)
    have e : usCs (m :: r) = usC m ++ usCs r := by simp [usCs]
    rw [e]
    have e3 : (usC m).length = 4 := rfl
    refine ⟨?_, ?_, ?_, ?_⟩
    · rw [List.getElem?_append_right (by omega), e3, show (i + 1) * 4 - 4 = i * 4 by omega]; exact ih.1
    · rw [List.getElem?_append_right (by omega), e3, show (i + 1) * 4 + 1 - 4 = i * 4 + 1 by omega]; exact ih.2.1
    · rw [List.getElem?_append_right (by omega), e3, show (i + 1) * 4 + 2 - 4 = i * 4 + 2 by omega]; exact ih.2.2.1
    · rw [List.getElem?_append_right (by omega), e3, show (i + 1) * 4 + 3 - 4 = i * 4 + 3 by omega]; exact ih.2.2.2
theorem step_at {W : World} {base : Nat} {p : Option Addr} {n cap : Nat} {L : List StU} (h : W.ownsRow base 103 4 (.slice p n cap) L.length (usCs L)) {i : Nat} (hi : i < L.length) :
    ∃ g, p = some ⟨g, 0, none⟩ ∧ g < W.heap.size ∧ base ≤ g ∧ W.cell? ⟨g, i * 4, none⟩ = some (.int .i64 L[i].1) ∧ W.cell? ⟨g, i * 4 + 1, none⟩ = some (.int .i64 L[i].2.1) ∧ W.cell? ⟨g, i * 4 + 2, none⟩ = some (.int .i64 L[i].2.2.1) ∧ W.cell? ⟨g, i * 4 + 3, none⟩ = some (.int .i64 L[i].2.2.2) := by
  obtain ⟨m, hm⟩ : ∃ m, L.length = m + 1 := ⟨L.length - 1, by omega⟩
  rw [hm] at h
  obtain ⟨g, cp, he, h1, h2, h3, h4⟩ := row_cells h
  obtain ⟨rfl, rfl, rfl⟩ : p = some ⟨g, 0, none⟩ ∧ n = m + 1 ∧ cap = cp := by simpa using he
  obtain ⟨e1, e2, e3, e4⟩ := usCs_at L i hi
  exact ⟨g, rfl, h2, h1, h4 _ _ e1, h4 _ _ e2, h4 _ _ e3, h4 _ _ e4⟩
theorem us_cells (W : World) (m : StU) (ty : TypeId) : ∀ (j : Nat) (u : Value), (usC m)[j]? = some u → (W.alloc (.cells (usC m).toArray ty)).cell? ((⟨W.heap.size, 0, none⟩ : Addr).add j) = some u := by
  intro j u h
  have hadd : (⟨W.heap.size, 0, none⟩ : Addr).add j = ⟨W.heap.size, j, none⟩ := by unfold Addr.add; split <;> simp_all
  rw [hadd, Bk.cell (Bk.new W ty _)]
  simpa using h
def clM (l : List StU) (u : StU) : Bool := match lkp l (kyU u) with | none => false | some m => m != u.2.2.2
def flU (l : List StU) (u : StU) : List StU := l.filter (fun m => !decide (kyU m = kyU u))
theorem lkp_snoc (l : List StU) (m : StU) (k : KeyU) : lkp (l ++ [m]) k = if kyU m = k then some m.2.2.2 else lkp l k := by
  unfold lkp
  rw [List.foldl_append]
  rfl
theorem clM_same {l : List StU} {m u : StU} (h : kyU m = kyU u) : clM (l ++ [m]) u = (m.2.2.2 != u.2.2.2) ∧ flU (l ++ [m]) u = flU l u := by
  unfold clM flU
  rw [lkp_snoc, if_pos h, List.filter_append, List.filter_cons_of_neg (by simp [h])]
  simp
theorem clM_other {l : List StU} {m u : StU} (h : kyU m ≠ kyU u) : clM (l ++ [m]) u = clM l u ∧ flU (l ++ [m]) u = flU l u ++ [m] := by
  unfold clM flU
  rw [lkp_snoc, if_neg h, List.filter_append, List.filter_cons_of_pos (by simp [h])]
  simp
theorem flU_le (l : List StU) (u : StU) : (flU l u).length ≤ l.length := List.length_filter_le _ _
theorem thrB_no {bs : List Int} {l : List StU} {u : StU} (h : clM l u = false) : thrB bs l u = bs := by
  unfold clM at h
  unfold thrB turS
  cases e : lkp l (kyU u) with
  | none => rfl
  | some m =>
    rw [e] at h
    simp only at h ⊢
    rw [h]
    rfl
theorem thrB_yes {bs : List Int} {l : List StU} {u : StU} (h : clM l u = true) : thrB bs l u = clrM bs u.1.toNat u.2.1.toNat := by
  unfold clM at h
  unfold thrB turS
  cases e : lkp l (kyU u) with
  | none => rw [e] at h; cases h
  | some m =>
    rw [e] at h
    simp only at h ⊢
    rw [if_pos h]
theorem ByB.turn {W W' : World} {g : Nat} {bs : List Int} {row : Option Nat} (h : ByB W g bs) (hg : W.grownBy W' row) (hr : ∀ r, row = some r → g ≠ r) : ByB W' g bs := by
  have hl := h.lt
  obtain ⟨cs, T, fz, h, hr2⟩ := h
  exact ⟨cs, T, fz, (hg.block g hl (fun e => hr g e.symm rfl)).trans h, hr2⟩
/-- What through holds: the union's box, its list, the bytes. -/
structure ThZ (w W : World) (u : StU) (g : Nat) (bs : List Int) (q : Option Addr) (n c : Nat) (O : List StU) : Prop where
  s : Bk W w.heap.size 103 #[.int .i64 u.1, .int .i64 u.2.1, .int .i64 u.2.2.1, .int .i64 u.2.2.2]
  r : W.ownsRow (w.heap.size + 1) 103 4 (.slice q n c) O.length (usCs O)
  b : ByB W g bs
  gr : w.grownBy W (some g)
theorem gr_below {w W W' : World} {g : Nat} (h : w.grownBy W (some g)) (hb : Below W.heap.size W W') : w.grownBy W' (some g) :=
  ⟨hb.os.trans h.os, hb.tape.trans h.tape, hb.output.trans h.output, Nat.le_trans h.size hb.size, fun i hi hne => (hb.block i (Nat.lt_of_lt_of_le hi h.size)).trans (h.block i hi hne)⟩
theorem ThZ.below {w W W' : World} {u : StU} {g : Nat} {bs : List Int} {q : Option Addr} {n c : Nat} {O : List StU} (h : ThZ w W u g bs q n c O) (hb : Below W.heap.size W W') : ThZ w W' u g bs q n c O :=
  ⟨h.s.below hb, ownsRow_belowS h.r hb, h.b.below hb, gr_below h.gr hb⟩
theorem ThZ.app {w W W' : World} {u m : StU} {g : Nat} {bs : List Int} {q : Option Addr} {n c : Nat} {O : List StU} (h : ThZ w W u g bs q n c O) (hgw : g < w.heap.size) (hg : W.grownBy W' (Value.slice q n c).ownBlock) {q' : Option Addr} {n' c' : Nat} (hr : W'.ownsRow (w.heap.size + 1) 103 4 (.slice q' n' c') (O.length + 1) (usCs O ++ usC m)) : ThZ w W' u g bs q' n' c' (O ++ [m]) :=
  ⟨h.s.turn hg (fun r e => by have := (row_turnS h.r r e).1; omega), by
    have e : usCs (O ++ [m]) = usCs O ++ usC m := by rw [us_app]; simp [usCs]
    rw [e, List.length_append]
    exact hr, h.b.turn hg (fun r e => by have := (row_turnS h.r r e).1; omega), gr_then h.gr hg (fun r e => .inl (by have := (row_turnS h.r r e).1; omega))⟩
theorem ThZ.clr {w W : World} {u : StU} {g : Nat} {bs : List Int} {q : Option Addr} {n c : Nat} {O : List StU} (h : ThZ w W u g bs q n c O) (hgw : g < w.heap.size) {i : Nat} (hi : i < bs.length) (x : Int) : ThZ w (W.setCell ⟨g, i, none⟩ (.int .u8 x)) u g (bs.set i x) q n c O :=
  ⟨h.s.other _ _ (by omega), ownsRow_setCell_other h.r (fun e => by have := (row_turnS h.r _ e).1; simp only at this; omega) _, h.b.set hi x, gr_then h.gr (gr_set W g i _) (fun r e => by cases e; exact .inr rfl)⟩
set_option maxRecDepth 100000 in
set_option maxHeartbeats 20000000 in
theorem thr_any (bs : List Int) (met : List StU) (u : StU) (g cap : Nat) (q : Option Addr) (c : Nat) (w : World) (base : Nat) (hg : ByB w g bs) (hl : bs.length ≤ 65536) (hrow : w.ownsRow base 103 4 (.slice q met.length c) met.length (usCs met)) (hml : met.length ≤ 100000) (h0 : 0 ≤ u.1) (h1 : 0 ≤ u.2.1) (h2 : u.1 + u.2.1 ≤ bs.length) :
    Calls Try.prog 58 #[.slice (some ⟨g, 0, none⟩) bs.length cap, .slice q met.length c, .agg #[.int .i64 u.1, .int .i64 u.2.1, .int .i64 u.2.2.1, .int .i64 u.2.2.2]] w fun e w' => ∃ q' n' c', e = .returned (.slice q' n' c') ∧ ByB w' g (thrB bs met u) ∧ w'.ownsRow (w.heap.size + 1) 103 4 (.slice q' n' c') (thrL met u).length (usCs (thrL met u)) ∧ w.grownBy w' (some g) := by
  have hgw := hg.lt
  have HS0 : Hid (ThZ w (w.alloc (.cells #[.int .i64 u.1, .int .i64 u.2.1, .int .i64 u.2.2.1, .int .i64 u.2.2.2] 103)) u g bs none 0 0 (flU (met.take 0) u)) := by
    have hb0 : Below w.heap.size w (w.alloc (.cells #[.int .i64 u.1, .int .i64 u.2.1, .int .i64 u.2.2.1, .int .i64 u.2.2.2] 103)) := (Below.refl _ w).alloc (Nat.le_refl _) _
    exact ⟨Bk.new _ _ _, World.ownsRow_nil _ _ _ _, hg.below hb0, ⟨hb0.os, hb0.tape, hb0.output, hb0.size, fun i hi _ => hb0.block i hi⟩⟩
  have HME : Hid (∀ (W : World), Below w.heap.size w W → ∀ (i : Nat) (hi : i < met.length), ∃ mg, q = some ⟨mg, 0, none⟩ ∧ mg < W.heap.size ∧ W.cell? ⟨mg, i * 4, none⟩ = some (.int .i64 met[i].1) ∧ W.cell? ⟨mg, i * 4 + 1, none⟩ = some (.int .i64 met[i].2.1) ∧ W.cell? ⟨mg, i * 4 + 2, none⟩ = some (.int .i64 met[i].2.2.1) ∧ W.cell? ⟨mg, i * 4 + 3, none⟩ = some (.int .i64 met[i].2.2.2)) := fun W hb i hi => by
    obtain ⟨mg, e, hm, _, c0, c1, c2, c3⟩ := step_at hrow hi
    exact ⟨mg, e, Nat.lt_of_lt_of_le hm hb.size, (hb.cell (p := ⟨mg, i * 4, none⟩) hm).trans c0, (hb.cell (p := ⟨mg, i * 4 + 1, none⟩) hm).trans c1, (hb.cell (p := ⟨mg, i * 4 + 2, none⟩) hm).trans c2, (hb.cell (p := ⟨mg, i * 4 + 3, none⟩) hm).trans c3⟩
  have HBE0 : Hid (Below w.heap.size w (w.alloc (.cells #[.int .i64 u.1, .int .i64 u.2.1, .int .i64 u.2.2.1, .int .i64 u.2.2.2] 103))) := (Below.refl _ w).alloc (Nat.le_refl _) _
  have HFL := veil (fun k => Nat.le_trans (flU_le (met.take k) u) (by rw [List.length_take]; omega : (met.take k).length ≤ 100000))
  have HTL : Hid (thrL met u = flU met u ++ [u]) := rfl
  have HTN := veil (@thrB_no bs met u)
  have HTY := veil (@thrB_yes bs met u)
  have HC0 : Hid (clM (met.take 0) u = false) := rfl
  have HCS : Hid (∀ k (hk : k < met.length), (kyU met[k] = kyU u → clM (met.take (k + 1)) u = (met[k].2.2.2 != u.2.2.2) ∧ flU (met.take (k + 1)) u = flU (met.take k) u) ∧ (kyU met[k] ≠ kyU u → clM (met.take (k + 1)) u = clM (met.take k) u ∧ flU (met.take (k + 1)) u = flU (met.take k) u ++ [met[k]])) := fun k hk => by
    rw [List.take_succ_eq_append_getElem hk]
    exact ⟨clM_same, clM_other⟩
  have HTA : Hid (met.take met.length = met) := List.take_length
  clear hg hrow
  obtain ⟨u1, u2, u3, u4⟩ := u
  simp only at HS0 HBE0 h0 h1 h2 ⊢
  go_enter Try.func58, Try.ntmps58
  go_upto_region 1 with fail
  generalize (w.alloc (.cells #[.int .i64 u1, .int .i64 u2, .int .i64 u3, .int .i64 u4] 103)) = W0 at *
  go_upto_region 4 with fail
  go_loopg [7, 8, 9] met.length (fun gk ov cv iv wr => ∃ (k : Nat) (qo : Option Addr) (no co : Nat), gk = met.length - k ∧ ov = .slice qo no co ∧ cv = .bool (clM (met.take k) (u1, u2, u3, u4)) ∧ iv = .int .i64 k ∧ k ≤ met.length ∧ Hid (ThZ w wr (u1, u2, u3, u4) g bs qo no co (flU (met.take k) (u1, u2, u3, u4))) ∧ Hid (Below w.heap.size w wr))
  case atStart => exact ⟨0, none, 0, 0, rfl, rfl, by rw [unveil HC0], rfl, Nat.zero_le _, HS0, HBE0⟩
  case round =>
    rename World => wr
    obtain ⟨k, qo, no, co, rfl, rfl, rfl, rfl, hk, hS, hB⟩ := hrel
    by_cases hkl : k < met.length
    · have hki : (k : Int) < (met.length : Int) := by omega
      obtain ⟨mg, rfl, hmg, c0, c1, c2, c3⟩ := unveil HME wr (unveil hB) k hkl
      obtain ⟨HC1, HC2⟩ := unveil HCS k hkl
      have HC1 := veil HC1
      have HC2 := veil HC2
      have hfl := unveil HFL k
      have hk2 : k ≤ 100000 := by omega
      generalize met[k] = m at *
      obtain ⟨m1, m2, m3, m4⟩ := m
      simp only at c0 c1 c2 c3
      unfold kyU at HC1 HC2
      simp only [ne_eq, Prod.mk.injEq] at HC1 HC2
      generalize clM (met.take k) (u1, u2, u3, u4) = CM at *
      generalize flU (met.take k) (u1, u2, u3, u4) = O at *
      go_upto_region 7 with fail
      clear c0 c1 c2 c3 hmg
      have HX : Hid (Bk (wr.alloc (.cells #[.int .i64 m1, .int .i64 m2, .int .i64 m3, .int .i64 m4] 103)) wr.heap.size 103 #[.int .i64 m1, .int .i64 m2, .int .i64 m3, .int .i64 m4]) := Bk.new _ _ _
      have hb6 : Below wr.heap.size wr (wr.alloc (.cells #[.int .i64 m1, .int .i64 m2, .int .i64 m3, .int .i64 m4] 103)) := (Below.refl _ wr).alloc (Nat.le_refl _) _
      have HS6 := veil ((unveil hS).below hb6)
      have HB6 := veil ((unveil hB).trans (hb6.mono (unveil hB).size))
      clear hb6
      generalize (wr.alloc (.cells #[.int .i64 m1, .int .i64 m2, .int .i64 m3, .int .i64 m4] 103)) = W6 at *
      generalize wr.heap.size = XB at *
      have x0 := (unveil HX).cell 0
      have x1 := (unveil HX).cell 1
      have x2 := (unveil HX).cell 2
      have x3 := (unveil HX).cell 3
      have xl := (unveil HX).lt
      have v0 := (unveil HS6).s.cell 0
      have v1 := (unveil HS6).s.cell 1
      have v2 := (unveil HS6).s.cell 2
      have v3 := (unveil HS6).s.cell 3
      have vl := (unveil HS6).s.lt
      simp only [List.getElem?_toArray, List.getElem?_cons_zero, List.getElem?_cons_succ] at x0 x1 x2 x3 v0 v1 v2 v3
      by_cases e1 : m1 = u1
      · have f1 : (m1 == u1) = true := by simpa using e1
        by_cases e3 : m3 = u3
        · have f3 : (m3 == u3) = true := by simpa using e3
          by_cases e2 : m2 = u2
          · have f2 : (m2 == u2) = true := by simpa using e2
            obtain ⟨d1, d2⟩ := unveil HC1 ⟨e1, e2, e3⟩
            have HD := veil (And.intro d1 d2)
            clear d1 d2 HC1 HC2 e1 e2 e3
            go_wp2_with fail
            go_roundg (met.length - (k + 1))
            case measure => omega
            case rel => exact ⟨k + 1, qo, no, co, rfl, rfl, by rw [(unveil HD).1], by go_num, by omega, by rw [(unveil HD).2]; exact HS6, HB6⟩
          · have f2 : (m2 == u2) = false := by simpa using e2
            obtain ⟨d1, d2⟩ := unveil HC2 (fun h => e2 h.2.1)
            have HD := veil (And.intro d1 d2)
            clear d1 d2 HC1 HC2 e1 e2 e3
            obtain ⟨i0, hi, hz0, hz1, hz2'⟩ := info_parts infoStep
            have hrowa := (unveil HS6).r.alloc (.cells (usC (m1, m2, m3, m4)).toArray 103)
            have HSA := veil ((unveil HS6).below ((Below.refl _ W6).alloc (Nat.le_refl _) (.cells (usC (m1, m2, m3, m4)).toArray 103)))
            have HBA := veil ((unveil HB6).alloc (unveil HB6).size (.cells (usC (m1, m2, m3, m4)).toArray 103))
            go_wp2_with (at_builtin; refine wpList_append_own _ rfl _ _ 88 rfl (w.heap.size + 1) 103 i0 _ 4 32 Try.underlying88 hi hz0 hz1 hz2' rfl (by decide) _ _ _ rfl hrowa ⟨W6.heap.size, 0, none⟩ 1 1 (usC (m1, m2, m3, m4)) rfl rfl (us_cells W6 (m1, m2, m3, m4) 103) ?c2 ?c3 ?c4 ?c5 ?_)
            case c2 => intro u hu; simp [usC] at hu; rcases hu with rfl | rfl | rfl | rfl <;> rfl
            case c3 => unfold maxLen; omega
            case c4 => omega
            case c5 => first | omega | (simp; omega) | (rw [World.size_alloc]; omega) | trace_state
            intro v8 W8 hown8 hg8 _
            obtain ⟨q8, c8, rfl⟩ := row_slice hown8
            have HS8 := veil (ThZ.app (m := (m1, m2, m3, m4)) (unveil HSA) hgw hg8 hown8)
            have HB8 := veil ((unveil HBA).grown hg8 (unveil HBA).size (fun r e => by have := (row_turnS (unveil HSA).r r e).1; omega))
            clear hown8 hg8 hrowa hi hz0 hz1 hz2' HSA HBA
            go_wp2_with fail
            go_roundg (met.length - (k + 1))
            case measure => omega
            case rel => exact ⟨k + 1, q8, _, c8, rfl, rfl, by rw [(unveil HD).1], by go_num, by omega, by rw [(unveil HD).2]; exact HS8, HB8⟩
        · have f3 : (m3 == u3) = false := by simpa using e3
          obtain ⟨d1, d2⟩ := unveil HC2 (fun h => e3 h.2.2)
          have HD := veil (And.intro d1 d2)
          clear d1 d2 HC1 HC2 e1 e3
          obtain ⟨i0, hi, hz0, hz1, hz2'⟩ := info_parts infoStep
          have hrowa := (unveil HS6).r.alloc (.cells (usC (m1, m2, m3, m4)).toArray 103)
          have HSA := veil ((unveil HS6).below ((Below.refl _ W6).alloc (Nat.le_refl _) (.cells (usC (m1, m2, m3, m4)).toArray 103)))
          have HBA := veil ((unveil HB6).alloc (unveil HB6).size (.cells (usC (m1, m2, m3, m4)).toArray 103))
          go_wp2_with (at_builtin; refine wpList_append_own _ rfl _ _ 88 rfl (w.heap.size + 1) 103 i0 _ 4 32 Try.underlying88 hi hz0 hz1 hz2' rfl (by decide) _ _ _ rfl hrowa ⟨W6.heap.size, 0, none⟩ 1 1 (usC (m1, m2, m3, m4)) rfl rfl (us_cells W6 (m1, m2, m3, m4) 103) ?c2 ?c3 ?c4 ?c5 ?_)
          case c2 => intro u hu; simp [usC] at hu; rcases hu with rfl | rfl | rfl | rfl <;> rfl
          case c3 => unfold maxLen; omega
          case c4 => omega
          case c5 => first | omega | (simp; omega) | (rw [World.size_alloc]; omega) | trace_state
          intro v8 W8 hown8 hg8 _
          obtain ⟨q8, c8, rfl⟩ := row_slice hown8
          have HS8 := veil (ThZ.app (m := (m1, m2, m3, m4)) (unveil HSA) hgw hg8 hown8)
          have HB8 := veil ((unveil HBA).grown hg8 (unveil HBA).size (fun r e => by have := (row_turnS (unveil HSA).r r e).1; omega))
          clear hown8 hg8 hrowa hi hz0 hz1 hz2' HSA HBA
          go_wp2_with fail
          go_roundg (met.length - (k + 1))
          case measure => omega
          case rel => exact ⟨k + 1, q8, _, c8, rfl, rfl, by rw [(unveil HD).1], by go_num, by omega, by rw [(unveil HD).2]; exact HS8, HB8⟩
      · have f1 : (m1 == u1) = false := by simpa using e1
        obtain ⟨d1, d2⟩ := unveil HC2 (fun h => e1 h.1)
        have HD := veil (And.intro d1 d2)
        clear d1 d2 HC1 HC2 e1
        obtain ⟨i0, hi, hz0, hz1, hz2'⟩ := info_parts infoStep
        have hrowa := (unveil HS6).r.alloc (.cells (usC (m1, m2, m3, m4)).toArray 103)
        have HSA := veil ((unveil HS6).below ((Below.refl _ W6).alloc (Nat.le_refl _) (.cells (usC (m1, m2, m3, m4)).toArray 103)))
        have HBA := veil ((unveil HB6).alloc (unveil HB6).size (.cells (usC (m1, m2, m3, m4)).toArray 103))
        go_wp2_with (at_builtin; refine wpList_append_own _ rfl _ _ 88 rfl (w.heap.size + 1) 103 i0 _ 4 32 Try.underlying88 hi hz0 hz1 hz2' rfl (by decide) _ _ _ rfl hrowa ⟨W6.heap.size, 0, none⟩ 1 1 (usC (m1, m2, m3, m4)) rfl rfl (us_cells W6 (m1, m2, m3, m4) 103) ?c2 ?c3 ?c4 ?c5 ?_)
        case c2 => intro u hu; simp [usC] at hu; rcases hu with rfl | rfl | rfl | rfl <;> rfl
        case c3 => unfold maxLen; omega
        case c4 => omega
        case c5 => first | omega | (simp; omega) | (rw [World.size_alloc]; omega) | trace_state
        intro v8 W8 hown8 hg8 _
        obtain ⟨q8, c8, rfl⟩ := row_slice hown8
        have HS8 := veil (ThZ.app (m := (m1, m2, m3, m4)) (unveil HSA) hgw hg8 hown8)
        have HB8 := veil ((unveil HBA).grown hg8 (unveil HBA).size (fun r e => by have := (row_turnS (unveil HSA).r r e).1; omega))
        clear hown8 hg8 hrowa hi hz0 hz1 hz2' HSA HBA
        go_wp2_with fail
        go_roundg (met.length - (k + 1))
        case measure => omega
        case rel => exact ⟨k + 1, q8, _, c8, rfl, rfl, by rw [(unveil HD).1], by go_num, by omega, by rw [(unveil HD).2]; exact HS8, HB8⟩
    · have hnl : ¬ (k : Int) < (met.length : Int) := by omega
      obtain rfl : k = met.length := by omega
      have hfl := unveil HFL met.length
      rw [unveil HTA] at *
      have hTA := unveil HTA
      have v0 := (unveil hS).s.cell 0
      have v1 := (unveil hS).s.cell 1
      have v2 := (unveil hS).s.cell 2
      have v3 := (unveil hS).s.cell 3
      have vl := (unveil hS).s.lt
      simp only [List.getElem?_toArray, List.getElem?_cons_zero, List.getElem?_cons_succ] at v0 v1 v2 v3
      cases hcm : clM met (u1, u2, u3, u4)
      · have HTB := veil (unveil HTN hcm)
        clear HTN HTY
        obtain ⟨i0, hi, hz0, hz1, hz2'⟩ := info_parts infoStep
        have hrowa := (unveil hS).r.alloc (.cells (usC (u1, u2, u3, u4)).toArray 103)
        have HSA := veil ((unveil hS).below ((Below.refl _ wr).alloc (Nat.le_refl _) (.cells (usC (u1, u2, u3, u4)).toArray 103)))
        go_wp2_with (at_builtin; refine wpList_append_own _ rfl _ _ 88 rfl (w.heap.size + 1) 103 i0 _ 4 32 Try.underlying88 hi hz0 hz1 hz2' rfl (by decide) _ _ _ rfl hrowa ⟨wr.heap.size, 0, none⟩ 1 1 (usC (u1, u2, u3, u4)) rfl rfl (us_cells wr (u1, u2, u3, u4) 103) ?c2 ?c3 ?c4 ?c5 ?_)
        case c2 => intro u hu; simp [usC] at hu; rcases hu with rfl | rfl | rfl | rfl <;> rfl
        case c3 => unfold maxLen; omega
        case c4 => omega
        case c5 => first | omega | (simp; omega) | (rw [World.size_alloc]; omega) | trace_state
        intro v8 W8 hown8 hg8 _
        obtain ⟨q8, c8, rfl⟩ := row_slice hown8
        have HS8 := veil (ThZ.app (m := (u1, u2, u3, u4)) (unveil HSA) hgw hg8 hown8)
        clear hown8 hg8 hrowa hi hz0 hz1 hz2' HSA
        go_wp2_with fail
        go_ret
        exact ⟨q8, _, c8, rfl, by rw [unveil HTB]; exact (unveil HS8).b, by rw [unveil HTL]; exact (unveil HS8).r, (unveil HS8).gr⟩
      · have HTB := veil (unveil HTY hcm)
        clear HTN HTY
        obtain ⟨f, hf⟩ : ∃ f : Nat, u1 = (f : Int) := ⟨u1.toNat, by omega⟩
        obtain ⟨z, hz⟩ : ∃ z : Nat, u2 = (z : Int) := ⟨u2.toNat, by omega⟩
        subst hf hz
        rw [Hid] at HTB
        simp only [Int.toNat_natCast] at HTB
        have HTB2 := veil HTB
        clear HTB
        have HCL := veil (fun j => clr_len j f bs)
        have HCN := veil (fun j => clr_snoc j f bs)
        have hC0 : clrM bs f 0 = bs := rfl
        rw [← hC0] at hS
        clear hC0
        go_upto_region 12 with fail
        clear v0 v1 v2 v3 vl
        go_loopg [11] z (fun gk iv wz => ∃ (j : Nat), gk = z - j ∧ iv = .int .i64 ((f : Int) + (j : Int)) ∧ j ≤ z ∧ Hid (ThZ w wz ((f : Int), (z : Int), u3, u4) g (clrM bs f j) qo no co (flU met ((f : Int), (z : Int), u3, u4))))
        case atStart => exact ⟨0, rfl, by simp, Nat.zero_le _, hS⟩
        case round =>
          rename World => wz
          obtain ⟨j, rfl, rfl, hj, hS2⟩ := hrel
          have v0 := (unveil hS2).s.cell 0
          have v1 := (unveil hS2).s.cell 1
          have v2 := (unveil hS2).s.cell 2
          have v3 := (unveil hS2).s.cell 3
          have vl := (unveil hS2).s.lt
          simp only [List.getElem?_toArray, List.getElem?_cons_zero, List.getElem?_cons_succ] at v0 v1 v2 v3
          by_cases hjz : j < z
          · have hlt1 : (f : Int) + (j : Int) < (f : Int) + (z : Int) := by omega
            have hfj : f + j < bs.length := by omega
            have hfj2 : f + j < (clrM bs f j).length := by rw [unveil HCL]; exact hfj
            have hcell := (unveil hS2).b.cell hfj2
            have hfro := (unveil hS2).b.frozen hfj2
            have hgl := (unveil hS2).b.lt
            have HSN := veil ((unveil hS2).clr hgw hfj2 0)
            rw [← unveil HCN] at HSN
            have hci : (f : Int) + (j : Int) = ((f + j : Nat) : Int) := by omega
            rw [hci] at hlt1 ⊢
            have hfji : ((f + j : Nat) : Int) < (bs.length : Int) := by omega
            generalize hFJ : f + j = FJ at *
            go_wp2_with fail
            go_roundg (z - (j + 1))
            case measure => omega
            case rel => exact ⟨j + 1, rfl, by go_num, by omega, HSN⟩
          · have hnj : ¬ (f : Int) + (j : Int) < (f : Int) + (z : Int) := by omega
            obtain rfl : j = z := by omega
            clear hS
            obtain ⟨i0, hi, hz0, hz1, hz2'⟩ := info_parts infoStep
            have hrowa := (unveil hS2).r.alloc (.cells (usC ((f : Int), (j : Int), u3, u4)).toArray 103)
            have HSA := veil ((unveil hS2).below ((Below.refl _ wz).alloc (Nat.le_refl _) (.cells (usC ((f : Int), (j : Int), u3, u4)).toArray 103)))
            go_wp2_with (at_builtin; refine wpList_append_own _ rfl _ _ 88 rfl (w.heap.size + 1) 103 i0 _ 4 32 Try.underlying88 hi hz0 hz1 hz2' rfl (by decide) _ _ _ rfl hrowa ⟨wz.heap.size, 0, none⟩ 1 1 (usC ((f : Int), (j : Int), u3, u4)) rfl rfl (us_cells wz ((f : Int), (j : Int), u3, u4) 103) ?c2 ?c3 ?c4 ?c5 ?_)
            case c2 => intro u hu; simp [usC] at hu; rcases hu with rfl | rfl | rfl | rfl <;> rfl
            case c3 => unfold maxLen; omega
            case c4 => omega
            case c5 => first | omega | (simp; omega) | (rw [World.size_alloc]; omega) | trace_state
            intro v8 W8 hown8 hg8 _
            obtain ⟨q8, c8, rfl⟩ := row_slice hown8
            have HS8 := veil (ThZ.app (m := ((f : Int), (j : Int), u3, u4)) (unveil HSA) hgw hg8 hown8)
            clear hown8 hg8 hrowa hi hz0 hz1 hz2' HSA
            go_wp2_with fail
            go_ret
            exact ⟨q8, _, c8, rfl, by rw [unveil HTB2]; exact (unveil HS8).b, by rw [unveil HTL]; exact (unveil HS8).r, (unveil HS8).gr⟩
end Go.Proofs.Ytkiebejidpebdaa
