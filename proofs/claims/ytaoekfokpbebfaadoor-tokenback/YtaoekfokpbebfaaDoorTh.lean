/-
  text.Lines: the logical lines of every string.
-/
import Derived.Test.YtaoekfokpbebfaaDoorTe
import Derived.Test.YtaoekfokpbebfaaDoorTg
namespace Go.Proofs.YtaoekfokpbebfaaDoor.Sx
open Go Go.RowKit Go.Shelf
attribute [local go_sem] Oper.semAt_some
set_option linter.unusedVariables false

/-- Lines as the cells of a row. -/
def lineCells (l : List (Nat × List UInt8)) : List Value := l.flatMap fun x => [.int .i64 (x.1 : Nat), .string ⟨x.2.toArray⟩]
theorem lineCells_snoc (l : List (Nat × List UInt8)) (n : Nat) (x : List UInt8) : lineCells (l ++ [(n, x)]) = lineCells l ++ [.int .i64 (n : Nat), .string ⟨x.toArray⟩] := by simp [lineCells]
theorem lineCells_length (l : List (Nat × List UInt8)) : (lineCells l).length = l.length * 2 := by
  induction l with
  | nil => rfl
  | cons x l ih => simp [lineCells] at ih ⊢; omega

theorem Tryd.info40 : (Tryd.prog.info? 40).map (fun i => (i.zero, i.size, i.bytes)) = some (some (.agg #[.int .i64 0, .string ⟨#[]⟩]), 2, 24) := by kernel_rfl
theorem two_cells (W : World) (u1 u2 : Value) (t : TypeId) : ∀ (j : Nat) (u : Value), [u1, u2][j]? = some u → (W.alloc (.cells #[u1, u2] t)).cell? ((⟨W.heap.size, 0, none⟩ : Addr).add j) = some u := by
  intro j u h
  match j, h with
  | 0, h => simp at h; subst h; simp [Addr.add]
  | 1, h => simp at h; subst h; simp [Addr.add]
theorem ownsRow_base {W : World} {base base' n size : Nat} {e : TypeId} {v : Value} {xs : List Value} (h : W.ownsRow base e size v n xs) (hb : base' ≤ base) : W.ownsRow base' e size v n xs := by
  refine ⟨h.1, ?_⟩
  rcases h.2 with hn | ⟨g, cap, cur, rfl, hbg, hr⟩
  · exact .inl hn
  · exact .inr ⟨g, cap, cur, rfl, Nat.le_trans hb hbg, hr⟩
theorem sufB (x : List UInt8) : Lib.hasSuffix x [92] = Tx.bsB x := rfl
theorem trimB (x : List UInt8) : Lib.trimSuffix x [92] = if Tx.bsB x then Tx.cutB x else x := rfl
theorem cut_any (x : List UInt8) (w : World) (hx : x.length ≤ 65536) :
    Calls Tryd.prog 27 #[.string ⟨x.toArray⟩, .string ⟨#[92]⟩] w fun e w' => e = .returned (.tuple #[.string ⟨(if Tx.bsB x then Tx.cutB x else x).toArray⟩, .bool (Tx.bsB x)]) ∧ w' = w := by
  have h := Tryd.strings_CutSuffix ⟨x.toArray⟩ ⟨#[92]⟩ w (by show x.toArray.size ≤ _; simp; omega)
  exact h

set_option maxHeartbeats 400000 in
theorem Lines_long (s : ByteArray) (w : World) (hs : s.size ≤ maxLen) (hl : 65536 < s.size) :
    Calls Tryd.prog 16 #[.string s] w fun e w' => e = .returned (.tuple #[.slice none 0 0, .int .i64 10]) ∧ w' = w := by
  unfold maxLen at hs
  have h' : decide ((65536 : Int) < (s.size : Int)) = true := by simp; omega
  go_enter Tryd.func16, Tryd.ntmps16
  go_wp2
  apply wp_scope_straight
  go_wp2
  rw [Exit.noGoto_ret]
  go_ret2
  exact ⟨rfl, rfl⟩

set_option maxHeartbeats 2000000 in
theorem Lines_any (s : ByteArray) (w : World) (hs : s.size ≤ 65536) :
    Calls Tryd.prog 16 #[.string s] w fun e w' => ∃ v, e = .returned (.tuple #[v, .int .i64 0]) ∧ w'.ownsRow w.heap.size 40 2 v (Tx.lines s.data.toList).length (lineCells (Tx.lines s.data.toList)) ∧ Below w.heap.size w w' := by
  have hs' : s.size ≤ maxLen := by unfold maxLen; omega
  have hlen : s.data.toList.length = s.size := by simp
  have hpl := Tx.phys_length s.data.toList
  have hps := Tx.phys_short s.data.toList
  rw [hlen] at hpl hps
  have hn : decide ((65536 : Int) < (s.size : Int)) = false := by simp; omega
  refine (callsIn_wide (n := 8)).1 ?_
  refine callsIn_of_wp_marks Tryd.func16 rfl trivial ?_ rfl
  simp only [Tryd.ntmps16, List.size_toArray, List.length_cons, List.length_nil, Nat.reduceAdd, Nat.reduceSub, Array.replicate_succ, Array.replicate_zero, List.push_toArray, List.append_toArray, List.nil_append, List.cons_append]
  gi_wp2
  refine wpIn_scope_straight ?_
  gi_wp2
  refine wpIn_label ?_
  gi_wp2_with (refine ⟨trivial, ?_⟩; gi_at_call 26; refine (callsIn_wide.2 (physical_any s _)).mono ?_; rintro e w' ⟨rfl, rfl⟩)
  have b1 : Boxed (((((w.alloc (.cells #[.slice none 0 0] 22)).alloc (.cells #[.pointer none, .slice none 0 0] 54)).alloc (.cells #[.int .i64 0] 3)).alloc (.cells #[.int .i64 1] 3)).alloc (.cells #[.string s] 9)) w.heap.size 22 (.slice none 0 0) :=
    ((((Boxed.new w 22 _).alloc _).alloc _).alloc _).alloc _
  have b2 : (((((w.alloc (.cells #[.slice none 0 0] 22)).alloc (.cells #[.pointer none, .slice none 0 0] 54)).alloc (.cells #[.int .i64 0] 3)).alloc (.cells #[.int .i64 1] 3)).alloc (.cells #[.string s] 9)).heap[w.heap.size + 1]? = some (.cells #[.pointer none, .slice none 0 0] 54 (0, 0)) := by
    have h := World.alloc_heap_new (w.alloc (.cells #[.slice none 0 0] 22)) (.cells #[.pointer none, .slice none 0 0] 54)
    rw [World.size_alloc] at h
    exact (Below.heap_alloc _ _ _ (by simp)).trans ((Below.heap_alloc _ _ _ (by simp)).trans ((Below.heap_alloc _ _ _ (by simp)).trans h))
  have b3 : Boxed (((((w.alloc (.cells #[.slice none 0 0] 22)).alloc (.cells #[.pointer none, .slice none 0 0] 54)).alloc (.cells #[.int .i64 0] 3)).alloc (.cells #[.int .i64 1] 3)).alloc (.cells #[.string s] 9)) (w.heap.size + 2) 3 (.int .i64 0) := by
    have := ((Boxed.new ((w.alloc (.cells #[.slice none 0 0] 22)).alloc (.cells #[.pointer none, .slice none 0 0] 54)) 3 (.int .i64 0)).alloc (.cells #[.int .i64 1] 3)).alloc (.cells #[.string s] 9)
    rwa [World.size_alloc, World.size_alloc] at this
  have b4 : Boxed (((((w.alloc (.cells #[.slice none 0 0] 22)).alloc (.cells #[.pointer none, .slice none 0 0] 54)).alloc (.cells #[.int .i64 0] 3)).alloc (.cells #[.int .i64 1] 3)).alloc (.cells #[.string s] 9)) (w.heap.size + 3) 3 (.int .i64 1) := by
    have := (Boxed.new (((w.alloc (.cells #[.slice none 0 0] 22)).alloc (.cells #[.pointer none, .slice none 0 0] 54)).alloc (.cells #[.int .i64 0] 3)) 3 (.int .i64 1)).alloc (.cells #[.string s] 9)
    rwa [World.size_alloc, World.size_alloc, World.size_alloc] at this
  have b5 : Boxed (((((w.alloc (.cells #[.slice none 0 0] 22)).alloc (.cells #[.pointer none, .slice none 0 0] 54)).alloc (.cells #[.int .i64 0] 3)).alloc (.cells #[.int .i64 1] 3)).alloc (.cells #[.string s] 9)) (w.heap.size + 4) 9 (.string s) := by
    have := Boxed.new ((((w.alloc (.cells #[.slice none 0 0] 22)).alloc (.cells #[.pointer none, .slice none 0 0] 54)).alloc (.cells #[.int .i64 0] 3)).alloc (.cells #[.int .i64 1] 3)) 9 (.string s)
    rwa [World.size_alloc, World.size_alloc, World.size_alloc, World.size_alloc] at this
  have hz : (((((w.alloc (.cells #[.slice none 0 0] 22)).alloc (.cells #[.pointer none, .slice none 0 0] 54)).alloc (.cells #[.int .i64 0] 3)).alloc (.cells #[.int .i64 1] 3)).alloc (.cells #[.string s] 9)).heap.size = w.heap.size + 5 := by simp
  have hbe : Below w.heap.size w (((((w.alloc (.cells #[.slice none 0 0] 22)).alloc (.cells #[.pointer none, .slice none 0 0] 54)).alloc (.cells #[.int .i64 0] 3)).alloc (.cells #[.int .i64 1] 3)).alloc (.cells #[.string s] 9)) :=
    (((((Below.refl _ w).alloc (Nat.le_refl _) _).alloc (by simp) _).alloc (by simp; omega) _).alloc (by simp; omega) _).alloc (by simp; omega) _
  generalize (((((w.alloc (.cells #[.slice none 0 0] 22)).alloc (.cells #[.pointer none, .slice none 0 0] 54)).alloc (.cells #[.int .i64 0] 3)).alloc (.cells #[.int .i64 1] 3)).alloc (.cells #[.string s] 9)) = W0 at *
  have hbld : Bld (w.heap.size + 7) 3 w.heap.size (w.heap.size + 1) [] W0 :=
    ⟨_, _, .inl rfl, by omega, b2, World.ownsRowF_nil _ _ _ _, by simp [Value.ownBlock], fun g hg => by simp [Value.ownBlock] at hg⟩
  refine wpIn_rangeFunc_ownO (k := 3) rfl (by decide) (gf := 37) (lb := #[.pointer (some ⟨w.heap.size + 1 + 1 + 1 + 1, 0, none⟩)]) rfl trivial (enters_of Tryd.func37 (by kernel_rfl) rfl)
    (physical_stops 7 (by decide) (w.heap.size + 4) s hs' W0 b5) keepsB_t (keepsB_b (by omega)) (Below.refl _ _) (fun _ => rfl)
    (fun pre W' => (∃ v, Boxed W' w.heap.size 22 v ∧ W'.ownsRow (w.heap.size + 10) 40 2 v (Tx.lst pre).2.2.2.length (lineCells (Tx.lst pre).2.2.2)) ∧ Bld (w.heap.size + 7) 3 w.heap.size (w.heap.size + 1) (Tx.lst pre).2.2.1 W' ∧ Boxed W' (w.heap.size + 2) 3 (.int .i64 ((Tx.lst pre).1 : Nat)) ∧ Boxed W' (w.heap.size + 3) 3 (.int .i64 ((Tx.lst pre).2.1 : Nat)) ∧ Boxed W' (w.heap.size + 4) 9 (.string s) ∧ Below w.heap.size w W')
    (fun c _ W' => False)
    ⟨fun pre X Y row hs hg hr => ?hI, fun pre X hs => ⟨hs.1, hs.2.1, hs.2.2.1, hs.2.2.2.1, hs.2.2.2.2.1, hs.2.2.2.2.2.drew⟩⟩
    (fun c => ⟨fun pre X Y row hs hg hr => hs, fun pre X hs => hs⟩)
    ⟨⟨_, b1, World.ownsRow_nil _ _ _ _⟩, hbld, b3, b4, b5, hbe⟩
    (fun x => { tmps := #[.string s, undef, .slice none 0 0, .int .i64 0, .pointer (some ⟨w.heap.size, 0, none⟩), .pointer (some ⟨w.heap.size + 1, 0, none⟩), .pointer (some ⟨w.heap.size + 1 + 1, 0, none⟩), .pointer (some ⟨w.heap.size + 1 + 1 + 1, 0, none⟩), .string ⟨x.1.toArray⟩, .bool x.2, undef, undef, .string s, .int .i64 s.size, .bool false, .string s, .func (.func 37) #[] #[.pointer (some ⟨w.heap.size + 1 + 1 + 1 + 1, 0, none⟩)], .string ⟨x.1.toArray⟩, .bool x.2, undef, undef, undef, undef, undef, undef, undef, undef, undef, undef, undef, undef, undef, undef, undef, undef, undef, undef, undef, undef, undef, undef, undef, undef, undef], defers := [] })
    ?assign ?body ?done ?stop
  case hI =>
    obtain ⟨⟨v, h1, h2⟩, h3, h4, h5, h7, h6⟩ := hs
    have hr' : ∀ r, row = some r → w.heap.size + 5 ≤ r := fun r e => by have := (hr r e).1; omega
    refine ⟨⟨v, Boxed.turn h1 hg (fun r e => by have := hr' r e; omega), h2.kept hg ?_⟩, h3.turn hg (fun r e => ⟨by have := hr' r e; omega, ?_⟩), Boxed.turn h4 hg (fun r e => by have := hr' r e; omega), Boxed.turn h5 hg (fun r e => by have := hr' r e; omega), Boxed.turn h7 hg (fun r e => by have := hr' r e; omega), h6.grown hg h6.size (fun r e => by have := hr' r e; omega)⟩
    · rcases h2.2 with ⟨rfl, _⟩ | ⟨g, cap, cur, rfl, hbg, hgb, _⟩
      · exact .inl rfl
      · refine .inr fun e' => ?_
        rcases (hr g (by simpa [Value.ownBlock] using e'.symm)).2 with h | ⟨o, ho, hc⟩
        · omega
        · rw [hgb] at ho; cases ho; cases hc
    · rcases (hr r e).2 with h | ⟨o, ho, hc⟩
      · exact .inl (by omega)
      · exact .inr (fun c fz e' => by rw [ho] at e'; cases e'; cases hc)
  case assign =>
    intro l' x W' K hK
    simp only [encP]
    gi_wp2
    simpa using hK
  case body =>
    rintro l' pre ⟨pc, fl⟩ W1 hroom hno ⟨⟨v, c1, hrow⟩, hb, c3, c4, c5, hbe1⟩ hpre
    have hnd : pre ++ [(pc, fl)] <+: Tx.phys s.data.toList := hpre
    obtain ⟨rest, hrest⟩ := hpre
    have hlen2 := congrArg List.length hrest
    simp only [List.length_append, List.length_cons, List.length_nil] at hlen2
    have hpc : pc.length ≤ s.size := hps (pc, fl) (by rw [← hrest]; simp)
    obtain ⟨q1, q2, q3, q4⟩ := Tx.lst_bounds s.size pre (fun x hx => hps x (by rw [← hrest]; simp [hx]))
    have q5 : pre.length * s.size ≤ 65536 * 65536 := Nat.mul_le_mul (by omega) hs
    have hst := Tx.lst_snoc pre (pc, fl)
    unfold Tx.lstep at hst
    generalize hS : Tx.lst pre = S at *
    obtain ⟨num, fst, whole, out⟩ := S
    simp only at hst q1 q2 q3 q4 hb c3 c4 hrow
    clear hS hrest
    have d3 := c3.cell
    have e3 := c3.frozen
    have d4 := c4.cell
    have e4 := c4.frozen
    have hx6 : pc.length ≤ 65536 := by omega
    have Q1 := hide q1
    have hnum : num ≤ 65536 := by omega
    clear q1
    have HST := hide hst
    clear hst
    rw [hz] at hno
    gi_wp2_with fail
    refine ⟨trivial, ?_⟩
    refine (CallsIn.inRound l' (callsIn_wide.2 (cut_any pc _ hx6))).mono ?_
    rintro e w' ⟨rfl, rfl⟩
    have kF : Fr w.heap.size W1 (W1.setCell ⟨w.heap.size + 1 + 1, 0, none⟩ (.int .i64 ((num : Int) + 1))) := Fr.setCell (by omega) (by omega) _
    have k1 : KeepsFrom W0.heap.size W1 (W1.setCell ⟨w.heap.size + 1 + 1, 0, none⟩ (.int .i64 ((num : Int) + 1))) := (KeepsOthers.setCell _ _ _).from _
    have k2 : KeepsO (w.heap.size + 7) 3 W1 (W1.setCell ⟨w.heap.size + 1 + 1, 0, none⟩ (.int .i64 ((num : Int) + 1))) := KeepsO.setCell (.inl (by omega))
    have k3 := hno.setCell (b := w.heap.size + 1 + 1) (by omega) (.int .i64 ((num : Int) + 1))
    have k4 : Bld (w.heap.size + 7) 3 w.heap.size (w.heap.size + 1) whole (W1.setCell ⟨w.heap.size + 1 + 1, 0, none⟩ (.int .i64 ((num : Int) + 1))) :=
      hb.kept (grownBy_setCell' _ _ _) (fun r e => by cases e; exact ⟨by omega, fun c fz e' => by rw [show W1.heap[w.heap.size + 2]? = _ from c3] at e'; cases e'⟩)
    have k5 : Boxed (W1.setCell ⟨w.heap.size + 1 + 1, 0, none⟩ (.int .i64 ((num : Int) + 1))) w.heap.size 22 v := Boxed.other c1 (by omega) _
    have k6 : Boxed (W1.setCell ⟨w.heap.size + 1 + 1, 0, none⟩ (.int .i64 ((num : Int) + 1))) (w.heap.size + 2) 3 (.int .i64 ((num : Int) + 1)) := Boxed.set _ c3
    have k7 : Boxed (W1.setCell ⟨w.heap.size + 1 + 1, 0, none⟩ (.int .i64 ((num : Int) + 1))) (w.heap.size + 3) 3 (.int .i64 (fst : Nat)) := Boxed.other c4 (by omega) _
    have k8 : Boxed (W1.setCell ⟨w.heap.size + 1 + 1, 0, none⟩ (.int .i64 ((num : Int) + 1))) (w.heap.size + 4) 9 (.string s) := Boxed.other c5 (by omega) _
    have k9 : (W1.setCell ⟨w.heap.size + 1 + 1, 0, none⟩ (.int .i64 ((num : Int) + 1))).ownsRow (w.heap.size + 10) 40 2 v out.length (lineCells out) :=
      hrow.kept (grownBy_setCell' _ _ _) (Classical.or_iff_not_imp_left.2 (fun _ e => by have := (hrow.lt _ e).1; omega))
    have k10 : Below w.heap.size w (W1.setCell ⟨w.heap.size + 1 + 1, 0, none⟩ (.int .i64 ((num : Int) + 1))) := hbe1.setCell (by show w.heap.size ≤ w.heap.size + 1 + 1; omega) _
    generalize (W1.setCell ⟨w.heap.size + 1 + 1, 0, none⟩ (.int .i64 ((num : Int) + 1))) = W2 at *
    have hz2 := k1.size
    cases hcase : (Tx.bsB pc && fl)
    · have HS : Hid (Tx.lst (pre ++ [(pc, fl)]) = (num + 1, num + 1 + 1, [], out ++ [(fst, whole ++ pc)])) := by
        have := unhide HST
        exact hide (by rw [hcase] at this; simpa using this)
      have hsz : (⟨pc.toArray⟩ : ByteArray).size = pc.length := by show pc.toArray.size = _; simp
      have hcs : Tx.bsB pc = false ∨ (Tx.bsB pc = true ∧ fl = false) := by
        cases hb' : Tx.bsB pc
        · exact .inl rfl
        · rw [hb'] at hcase; exact .inr ⟨rfl, by simpa using hcase⟩
      clear hcase HST
      rcases hcs with hbs | ⟨hbs, rfl⟩
      all_goals
        simp only [hbs]
        gi_wp2_with fail
        refine ⟨trivial, ?_⟩
        refine (CallsIn.inRound l' (callsIn_wide.2 (Tryd.Builder_WriteString_k w.heap.size (w.heap.size + 1) _ _ _ k4.is (by rw [Lib.byteCells_length, hsz]; omega) (by omega)))).mono ?_
        rintro e W3 ⟨rfl, hB3, hbe3, ho3⟩
        have hz3 := hbe3.size
        have m5 : Boxed W3 w.heap.size 22 v := Boxed.others k5 ho3 (by omega) (by decide)
        have m6 : Boxed W3 (w.heap.size + 2) 3 (.int .i64 ((num : Int) + 1)) := Boxed.others k6 ho3 (by omega) (by decide)
        have m7 : Boxed W3 (w.heap.size + 3) 3 (.int .i64 (fst : Nat)) := Boxed.others k7 ho3 (by omega) (by decide)
        have m8 : Boxed W3 (w.heap.size + 4) 9 (.string s) := Boxed.others k8 ho3 (by omega) (by decide)
        have m9 := ownsRow_others k9 ho3 (fun e => by have := (k9.lt _ e).1; omega) (by decide)
        have m3 := noRow.others k3 ho3 (by omega) (by omega)
        have m4 : Lib.IsBuilderF 54 5 w.heap.size (w.heap.size + 1) (Lib.byteCells (whole ++ pc)) W3.drew := by
          have : Lib.byteCells (whole ++ pc) = Lib.byteCells whole ++ Lib.strCells ⟨pc.toArray⟩ := by simp [Lib.byteCells, Lib.strCells]
          rw [this]; exact .inr hB3
        have j5 := m5.cell
        have j7 := m7.cell
        have hmix : Tryd.prog.follows .mixedOrders = true := by kernel_rfl
        clear hB3 d3 e3 d4 e4
        gi_wp2
        refine wpIn_region_held_round (fun W => W.cell? ⟨w.heap.size, 0, none⟩ = some v ∧ W.cell? ⟨w.heap.size + 1 + 1 + 1, 0, none⟩ = some (.int .i64 (fst : Nat))) 2 5 hmix (by kernel_rfl) (by kernel_rfl) (by kernel_rfl) (by kernel_rfl) (by kernel_rfl) (by kernel_rfl) (fun _ _ _ _ h => h) ⟨j5, j7⟩ ?_
        simp only [List.take_succ_cons, List.take_zero, List.drop_succ_cons, List.drop_zero]
        refine ⟨v, .inl ⟨rfl, fun W hS => ?_⟩, ?_⟩
        · obtain ⟨hs1, hs2⟩ := hS
          go_simp
        refine ⟨.int .i64 (fst : Nat), .inl ⟨rfl, fun W hS => ?_⟩, ?_⟩
        · obtain ⟨hs1, hs2⟩ := hS
          go_simp
        refine wpListS_round (fun K hK => ?_)
        go_simp
        refine ⟨trivial, ?_⟩
        refine (CallsIn.inRound l' (callsIn_wide.2 (Tryd.Builder_String_any_k w.heap.size (w.heap.size + 1) (whole ++ pc) _ m4 (by show _ ≤ W3.heap.size; omega)))).mono ?_
        rintro e W4 ⟨rfl, hB4, hbe4, ho4⟩
        have hz4 : W3.heap.size ≤ W4.heap.size := hbe4.size
        have n5 : Boxed W4 w.heap.size 22 v := Boxed.others (Boxed.drew m5) ho4 (by omega) (by decide)
        have n6 : Boxed W4 (w.heap.size + 2) 3 (.int .i64 ((num : Int) + 1)) := Boxed.others (Boxed.drew m6) ho4 (by omega) (by decide)
        have n7 : Boxed W4 (w.heap.size + 3) 3 (.int .i64 (fst : Nat)) := Boxed.others (Boxed.drew m7) ho4 (by omega) (by decide)
        have n8 : Boxed W4 (w.heap.size + 4) 9 (.string s) := Boxed.others (Boxed.drew m8) ho4 (by omega) (by decide)
        have n9 : W4.ownsRow (w.heap.size + 10) 40 2 v out.length (lineCells out) := ownsRow_others (W := W3.drew) m9 ho4 (fun e => by have := (m9.lt _ e).1; omega) (by decide)
        have f4 : Fr w.heap.size W1 W4 := ((kF.trans (Fr.others k3 ho3 hbe3)).trans (Fr.drew _ _)).trans (Fr.others (W := W3.drew) m3 ho4 hbe4)
        have n5c := n5.cell
        have n7c := n7.cell
        refine hK _ _ ⟨n5c, n7c⟩ ?_
        clear hK K
        refine wpListS_round (fun K hK => ?_)
        go_simp
        refine hK _ _ ⟨n5c, n7c⟩ ?_
        clear hK K
        refine wpListS_round (fun K hK => ?_)
        go_simp
        refine hK _ _ ⟨(n5.alloc _).cell, (n7.alloc _).cell⟩ ?_
        clear hK K
        simp only [wpListS]
        obtain ⟨i0, hi, hz0, hz1, hz2'⟩ := info_parts Tryd.info40
        refine wpListIn_append_own _ rfl _ _ 22 rfl (w.heap.size + 10) 40 i0 _ 2 24 Tryd.underlying22 hi hz0 hz1 hz2' rfl (by decide) _ _ _ rfl (n9.alloc _) ⟨W4.heap.size, 0, none⟩ 1 1 [.int .i64 (fst : Nat), .string ⟨(whole ++ pc).toArray⟩] rfl rfl (two_cells W4 _ _ 40) ?c2 ?c3 ?c4 ?c5 ?_
        case c2 => intro u hu; simp at hu; rcases hu with rfl | rfl <;> rfl
        case c3 => unfold maxLen; omega
        case c4 => omega
        case c5 => simp; omega
        intro v' W5 hown' hgrow _
        have hro5 : (W4.alloc (.cells #[.int .i64 (fst : Nat), .string ⟨(whole ++ pc).toArray⟩] 40)).ownsRow (w.heap.size + 10) 40 2 v out.length (lineCells out) := n9.alloc _
        obtain ⟨g', cap', rfl⟩ := ownsRow_succ hown'
        have p5 : Boxed W5 w.heap.size 22 v := Boxed.row (n5.alloc _) hro5 hgrow (by omega)
        have p6 : Boxed W5 (w.heap.size + 2) 3 (.int .i64 ((num : Int) + 1)) := Boxed.row (n6.alloc _) hro5 hgrow (by omega)
        have p7 : Boxed W5 (w.heap.size + 3) 3 (.int .i64 (fst : Nat)) := Boxed.row (n7.alloc _) hro5 hgrow (by omega)
        have p8 : Boxed W5 (w.heap.size + 4) 9 (.string s) := Boxed.row (n8.alloc _) hro5 hgrow (by omega)
        have f5 : Fr w.heap.size W1 W5 := (f4.trans (Fr.alloc (by omega) _)).trans (Fr.row hro5 hgrow (by simp; omega))
        obtain ⟨bp, bv, hbk⟩ : ∃ bp bv, W4.heap[w.heap.size + 1]? = some (.cells #[bp, bv] 54 (0, 0)) := by
          rcases hB4 with ⟨_, bv, h, _⟩ | ⟨_, bv, h, _⟩
          · exact ⟨_, bv, h⟩
          · exact ⟨_, bv, h⟩
        have hbk5 : W5.heap[w.heap.size + 1]? = some (.cells #[bp, bv] 54 (0, 0)) :=
          (hgrow.block _ (by simp; omega) (fun e' => by have := (row_turn hro5 _ e'.symm).1; omega)).trans ((Below.heap_alloc _ _ _ (by omega)).trans hbk)
        have p5c := p5.cell
        have p5f := p5.frozen
        have p6c := p6.cell
        have p7c := p7.cell
        have p7f := p7.frozen
        clear n5c n7c j5 j7 hgrow
        gi_wp2_with fail
        refine ⟨trivial, ?_⟩
        have q5 : Boxed (W5.setCell ⟨w.heap.size, 0, none⟩ (.slice (some ⟨g', 0, none⟩) (out.length + 1) cap')) w.heap.size 22 (.slice (some ⟨g', 0, none⟩) (out.length + 1) cap') := p5.set _
        have q6 : Boxed (W5.setCell ⟨w.heap.size, 0, none⟩ (.slice (some ⟨g', 0, none⟩) (out.length + 1) cap')) (w.heap.size + 2) 3 (.int .i64 ((num : Int) + 1)) := Boxed.setCell p6 (by omega) _
        have q7 : Boxed (W5.setCell ⟨w.heap.size, 0, none⟩ (.slice (some ⟨g', 0, none⟩) (out.length + 1) cap')) (w.heap.size + 3) 3 (.int .i64 (fst : Nat)) := Boxed.setCell p7 (by omega) _
        have q8 : Boxed (W5.setCell ⟨w.heap.size, 0, none⟩ (.slice (some ⟨g', 0, none⟩) (out.length + 1) cap')) (w.heap.size + 4) 9 (.string s) := Boxed.setCell p8 (by omega) _
        have q9 := ownsRow_setCell (b := w.heap.size) (i := 0) hown' (by omega) (.slice (some ⟨g', 0, none⟩) (out.length + 1) cap')
        have f6 : Fr w.heap.size W1 (W5.setCell ⟨w.heap.size, 0, none⟩ (.slice (some ⟨g', 0, none⟩) (out.length + 1) cap')) := f5.trans (Fr.setCell (by omega) (by omega) _)
        have hbk6 : (W5.setCell ⟨w.heap.size, 0, none⟩ (.slice (some ⟨g', 0, none⟩) (out.length + 1) cap')).heap[w.heap.size + 1]? = some (.cells #[bp, bv] 54 (0, 0)) := (Below.heap_setCell _ _ _ _ (by show w.heap.size + 1 ≠ w.heap.size; omega)).trans hbk5
        clear p5c p5f p6c p7c p7f
        generalize (W5.setCell ⟨w.heap.size, 0, none⟩ (.slice (some ⟨g', 0, none⟩) (out.length + 1) cap')) = W6 at *
        refine (CallsIn.inRound l' (callsIn_wide.2 (Reset_any (w.heap.size + 1) bp bv _ hbk6))).mono ?_
        rintro e w' ⟨rfl, rfl⟩
        have r5 : Boxed ((W6.setCell ⟨w.heap.size + 1, 0, none⟩ (.pointer none)).setCell ⟨w.heap.size + 1, 1, none⟩ (.slice none 0 0)) w.heap.size 22 (.slice (some ⟨g', 0, none⟩) (out.length + 1) cap') := Boxed.setCell (Boxed.setCell q5 (by omega) _) (by omega) _
        have r6 : Boxed ((W6.setCell ⟨w.heap.size + 1, 0, none⟩ (.pointer none)).setCell ⟨w.heap.size + 1, 1, none⟩ (.slice none 0 0)) (w.heap.size + 2) 3 (.int .i64 ((num : Int) + 1)) := Boxed.setCell (Boxed.setCell q6 (by omega) _) (by omega) _
        have r7 : Boxed ((W6.setCell ⟨w.heap.size + 1, 0, none⟩ (.pointer none)).setCell ⟨w.heap.size + 1, 1, none⟩ (.slice none 0 0)) (w.heap.size + 3) 3 (.int .i64 (fst : Nat)) := Boxed.setCell (Boxed.setCell q7 (by omega) _) (by omega) _
        have r8 : Boxed ((W6.setCell ⟨w.heap.size + 1, 0, none⟩ (.pointer none)).setCell ⟨w.heap.size + 1, 1, none⟩ (.slice none 0 0)) (w.heap.size + 4) 9 (.string s) := Boxed.setCell (Boxed.setCell q8 (by omega) _) (by omega) _
        have r9 := ownsRow_setCell (b := w.heap.size + 1) (i := 1) (ownsRow_setCell (b := w.heap.size + 1) (i := 0) q9 (by omega) (.pointer none)) (by omega) (.slice none 0 0)
        have f7 : Fr w.heap.size W1 ((W6.setCell ⟨w.heap.size + 1, 0, none⟩ (.pointer none)).setCell ⟨w.heap.size + 1, 1, none⟩ (.slice none 0 0)) := (f6.trans (Fr.setCell (by omega) (by omega) _)).trans (Fr.setCell (by omega) (by omega) _)
        have hbk7 := reset_heap hbk6 (.pointer none) (.slice none 0 0)
        generalize ((W6.setCell ⟨w.heap.size + 1, 0, none⟩ (.pointer none)).setCell ⟨w.heap.size + 1, 1, none⟩ (.slice none 0 0)) = W7 at *
        have r6c := r6.cell
        have r7c := r7.cell
        have r7f := r7.frozen
        gi_wp2
        have f8 : Fr w.heap.size W1 (W7.setCell ⟨w.heap.size + 1 + 1 + 1, 0, none⟩ (.int .i64 ((num : Int) + 1 + 1))) := f7.trans (Fr.setCell (by omega) (by omega) _)
        have r8' : Boxed (W7.setCell ⟨w.heap.size + 1 + 1 + 1, 0, none⟩ (.int .i64 ((num : Int) + 1 + 1))) (w.heap.size + 4) 9 (.string s) := Boxed.setCell r8 (by omega) _
        refine ⟨by rw [hz]; exact f8.kf, by rw [hz]; exact f8.ko, Eq.trans r8' (Eq.symm c5), ⟨_, Boxed.setCell r5 (by omega) _, ?_⟩, ?_, ?_, ?_, r8', hbe1.trans f8.be⟩
        · rw [unhide HS]
          have := ownsRow_setCell (b := w.heap.size + 1 + 1 + 1) (i := 0) r9 (by omega) (.int .i64 ((num : Int) + 1 + 1))
          rw [← lineCells_snoc] at this
          simpa using this
        · rw [unhide HS]
          exact ⟨.pointer none, .slice none 0 0, .inl rfl, by omega, (Below.heap_setCell _ _ _ _ (by show w.heap.size + 1 ≠ w.heap.size + 1 + 1 + 1; omega)).trans hbk7, World.ownsRowF_nil _ _ _ _, by simp [Value.ownBlock], fun g hg => by simp [Value.ownBlock] at hg⟩
        · rw [unhide HS]; exact Boxed.setCell r6 (by omega) _
        · rw [unhide HS]; exact Boxed.set _ r7
    · obtain ⟨hbs, rfl⟩ : Tx.bsB pc = true ∧ fl = true := by simpa using hcase
      clear hcase
      have HS : Hid (Tx.lst (pre ++ [(pc, true)]) = (num + 1, fst, whole ++ Tx.cutB pc, out)) := by
        have := unhide HST
        exact hide (by simpa [hbs] using this)
      have hcut : (Tx.cutB pc).length ≤ 65536 := by unfold Tx.cutB; simp; omega
      have hsz : (⟨(Tx.cutB pc).toArray⟩ : ByteArray).size = (Tx.cutB pc).length := by show (Tx.cutB pc).toArray.size = _; simp
      simp only [hbs, if_true]
      gi_wp2_with fail
      refine ⟨trivial, ?_⟩
      refine (CallsIn.inRound l' (callsIn_wide.2 (Tryd.Builder_WriteString_k w.heap.size (w.heap.size + 1) _ _ _ k4.is (by rw [Lib.byteCells_length, hsz]; omega) (by omega)))).mono ?_
      rintro e W3 ⟨rfl, hB3, hbe3, ho3⟩
      gi_wp2
      have hz3 := hbe3.size
      have m8 : Boxed W3 (w.heap.size + 4) 9 (.string s) := Boxed.others k8 ho3 (by omega) (by decide)
      refine ⟨k1.trans (KeepsFrom.others ho3 hz3 (by omega)), ?_, ?_, ⟨v, ?_, ?_⟩, ?_, ?_, ?_, m8, k10.trans hbe3⟩
      · rw [hz]; exact k2.trans (KeepsO.others k3 ho3 hz3 (by omega))
      · exact Eq.trans m8 (Eq.symm c5)
      · exact Boxed.others k5 ho3 (by omega) (by decide)
      · rw [unhide HS]; exact ownsRow_others k9 ho3 (fun e => by have := (k9.lt _ e).1; omega) (by decide)
      · rw [unhide HS]
        refine Bld.of (.inr ?_) (noRow.others k3 ho3 (by omega) (by omega))
        have : Lib.byteCells (whole ++ Tx.cutB pc) = Lib.byteCells whole ++ Lib.strCells ⟨(Tx.cutB pc).toArray⟩ := by simp [Lib.byteCells, Lib.strCells]
        rw [this]; exact hB3
      · rw [unhide HS]; exact Boxed.others k6 ho3 (by omega) (by decide)
      · rw [unhide HS]; exact Boxed.others k7 ho3 (by omega) (by decide)
  case done =>
    rintro D W' hD ⟨⟨v, c1, hrow⟩, hb, c3, c4, c5, hbe1⟩ hK
    have d1 := c1.cell
    gi_wp2
    rw [Exit.noGoto_ret]
    refine ⟨by simp, .inl ⟨_, _, rfl, run_takeDeferred hK, ?_⟩⟩
    refine ⟨_, results_tmp2 rfl _ _ _, v, rfl, ?_, ?_⟩
    · exact ownsRow_putObj (ownsRow_base hrow (by omega)) _ hK rfl
    · exact hbe1.trans (belowK_b (w := w) (Nat.le_refl _) W' D _ _ (by omega) hK rfl rfl)
  case stop =>
    rintro D c pre W' hD _ h hK
    exact h.elim
end Go.Proofs.YtaoekfokpbebfaaDoor.Sx
