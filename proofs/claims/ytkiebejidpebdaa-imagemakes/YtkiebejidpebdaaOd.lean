/-
  Package image: nodes: begin, size, number.
-/
import Derived.Test.YtkiebejidpebdaaZ3
import Derived.Test.YtkiebejidpebdaaNb
import Derived.Test.YtkiebejidpebdaaUo
import Derived.BigRegion
namespace Go.Proofs.Ytkiebejidpebdaa
open Go Go.RowKit Go.Shelf
set_option linter.unusedVariables false
set_option linter.unusedSimpArgs false

/-- The cells of a node. -/
def ndC (t : ShT) (bit bits : Int) (pv : Value) : Array Value := #[.int .i64 t.sh, .int .i64 t.k, .int .i64 t.n, .slice t.op t.of.length t.oc, .slice t.fp t.fs.length t.fc, .bool t.pk, .int .i64 t.al, .int .i64 bit, .int .i64 bits, pv]
/-- A node at a place. -/
structure NdAt (W : World) (g o : Nat) (t : ShT) (bit bits : Int) (pv : Value) : Prop where
  c : ∀ (j : Nat) (u : Value), (ndC t bit bits pv)[j]? = some u → W.cell? ⟨g, o + j, none⟩ = some u
  lt : g < W.heap.size
theorem NdAt.ten {W : World} {g o : Nat} {t : ShT} {bit bits : Int} {pv : Value} (h : NdAt W g o t bit bits pv) :
    (W.cell? ⟨g, o, none⟩ = some (.int .i64 t.sh) ∧ W.cell? ⟨g, o + 1, none⟩ = some (.int .i64 t.k) ∧ W.cell? ⟨g, o + 2, none⟩ = some (.int .i64 t.n) ∧ W.cell? ⟨g, o + 3, none⟩ = some (.slice t.op t.of.length t.oc) ∧ W.cell? ⟨g, o + 4, none⟩ = some (.slice t.fp t.fs.length t.fc) ∧ W.cell? ⟨g, o + 5, none⟩ = some (.bool t.pk) ∧ W.cell? ⟨g, o + 6, none⟩ = some (.int .i64 t.al)) ∧
    W.cell? ⟨g, o + 7, none⟩ = some (.int .i64 bit) ∧ W.cell? ⟨g, o + 8, none⟩ = some (.int .i64 bits) ∧ W.cell? ⟨g, o + 9, none⟩ = some pv :=
  ⟨⟨h.c 0 _ rfl, h.c 1 _ rfl, h.c 2 _ rfl, h.c 3 _ rfl, h.c 4 _ rfl, h.c 5 _ rfl, h.c 6 _ rfl⟩, h.c 7 _ rfl, h.c 8 _ rfl, h.c 9 _ rfl⟩
theorem NdAt.below {W W' : World} {g o : Nat} {t : ShT} {bit bits : Int} {pv : Value} (h : NdAt W g o t bit bits pv) (hb : Below W.heap.size W W') : NdAt W' g o t bit bits pv :=
  ⟨fun j u hu => (hb.cell (p := ⟨g, o + j, none⟩) h.lt).trans (h.c j u hu), Nat.lt_of_lt_of_le h.lt hb.size⟩
theorem NdAt.of {W : World} {g : Nat} {t : ShT} {bit bits : Int} {pv : Value} (h : Bk W g 117 (ndC t bit bits pv)) : NdAt W g 0 t bit bits pv :=
  ⟨fun j u hu => by rw [Nat.zero_add, h.cell]; exact hu, h.lt⟩
/-- What begin tells. -/
def BgP (w : World) (t : ShT) (e : Ending) (w' : World) : Prop :=
  Below w.heap.size w w' ∧ (((chkM t).2 == 0) = false ∧ e = .returned (.tuple #[.pointer none, .int .i64 (chkM t).2]) ∨
    ((chkM t).2 == 0) = true ∧ ∃ g, w.heap.size ≤ g ∧ e = .returned (.tuple #[.pointer (some ⟨g, 0, none⟩), .int .i64 0]) ∧ Bk w' g 117 (ndC t 0 (8 * (chkM t).1.1) (.slice none 0 0)))
theorem chk_size (t : ShT) : 0 ≤ (chkM t).1.1 ∧ (chkM t).1.1 ≤ 65536 := by
  unfold chkM
  split
  · rename_i h
    have := mea_ok 6 t h
    split
    · simp
    · exact ⟨this.1, by simp only; omega⟩
  · simp
set_option maxRecDepth 100000 in
set_option maxHeartbeats 8000000 in
theorem begin_any (t : ShT) (w : World) (hin : t.In w.heap.size w) : Calls Try.prog 53 #[t.v] w (BgP w t) := by
  have HZ : Hid (∀ W, Below w.heap.size w W → Calls Try.prog 18 #[t.v] W fun r w' => r = .returned (.tuple #[.int .i64 (chkM t).1.1, .int .i64 (chkM t).1.2, .int .i64 (chkM t).2]) ∧ Below W.heap.size W w') := fun W h => Size10_any t W ((hin.below h).mono h.size)
  have HT0 := veil (And.intro (TyB.new w t) ((Below.refl _ w).alloc (Nat.le_refl _) (.cells t.cs 25)))
  obtain ⟨z0, z1⟩ := chk_size t
  clear hin
  have hpo : ∀ e w', (Below w.heap.size w w' ∧ (((chkM t).2 == 0) = false ∧ e = .returned (.tuple #[.pointer none, .int .i64 (chkM t).2]) ∨ ((chkM t).2 == 0) = true ∧ ∃ g, w.heap.size ≤ g ∧ e = .returned (.tuple #[.pointer (some ⟨g, 0, none⟩), .int .i64 0]) ∧ Bk w' g 117 (ndC t 0 (8 * (chkM t).1.1) (.slice none 0 0)))) → BgP w t e w' := fun e w' h => h
  have HPO := veil hpo
  clear hpo
  generalize BgP w t = PO at *
  generalize chkM t = C at *
  obtain ⟨⟨z, a⟩, er⟩ := C
  simp only at *
  unfold ShT.v ShT.cs at *
  cases hc : er == 0
  · have hc' : (er != 0) = true := by simp only [bne, hc]; rfl
    go_enter Try.func53, Try.ntmps53
    go_upto_region 1 with fail
    generalize (w.alloc (.cells #[.int .i64 t.sh, .int .i64 t.k, .int .i64 t.n, .slice t.op t.of.length t.oc, .slice t.fp t.fs.length t.fc, .bool t.pk, .int .i64 t.al] 25)) = W0 at HT0 ⊢
    obtain ⟨y0, y1, y2, y3, y4, y5, y6⟩ := (unveil HT0).1.seven
    go_wp2_with (go_at_call 18; refine (unveil HZ _ (unveil HT0).2).mono ?_; rintro e W1 ⟨rfl, hb1⟩; have HB1 := veil ((unveil HT0).2.trans (hb1.mono (unveil HT0).2.size)); clear hb1)
    exact unveil HPO _ _ ⟨unveil HB1, .inl ⟨hc, rfl⟩⟩
  · obtain rfl : er = 0 := by simpa using hc
    go_enter Try.func53, Try.ntmps53
    go_upto_region 1 with fail
    generalize (w.alloc (.cells #[.int .i64 t.sh, .int .i64 t.k, .int .i64 t.n, .slice t.op t.of.length t.oc, .slice t.fp t.fs.length t.fc, .bool t.pk, .int .i64 t.al] 25)) = W0 at HT0 ⊢
    obtain ⟨y0, y1, y2, y3, y4, y5, y6⟩ := (unveil HT0).1.seven
    go_wp2_with (go_at_call 18; refine (unveil HZ _ (unveil HT0).2).mono ?_; rintro e W1 ⟨rfl, hb1⟩; have HB1 := veil ((unveil HT0).2.trans (hb1.mono (unveil HT0).2.size)); obtain ⟨x0, x1, x2, x3, x4, x5, x6⟩ := ((unveil HT0).1.below hb1).seven; clear hb1)
    exact unveil HPO _ _ ⟨(unveil HB1).alloc (unveil HB1).size _, .inr ⟨hc, _, (unveil HB1).size, rfl, Bk.new _ _ _⟩⟩
set_option maxRecDepth 100000 in
set_option maxHeartbeats 8000000 in
theorem size_any (g o : Nat) (t : ShT) (bit bits : Int) (pv : Value) (w : World) (h : NdAt w g o t bit bits pv) (h0 : 0 ≤ bits) (h1 : bits ≤ 524288) :
    Calls Try.prog 54 #[.pointer (some ⟨g, o, none⟩)] w fun e w' => e = .returned (.int .i64 (bits / 8)) ∧ w' = w := by
  obtain ⟨⟨y0, y1, y2, y3, y4, y5, y6⟩, c7, c8, c9⟩ := h.ten
  clear h
  go_enter Try.func54, Try.ntmps54
  go_wp2_with fail
  go_ret
  exact ⟨by first | rfl | (congr 2; omega), rfl⟩
/-- The spot of a number or a pointer. -/
def nuM (t : ShT) (bits fr : Int) : (Int × Int × Int) × Bool := if t.sh == 1 then ((fr, bits, t.k), true) else if t.sh == 2 then ((fr, bits, 8), true) else ((0, 0, 0), false)
theorem res_sb {f : Func} {k j : Nat} {tmps : Array Value} {w : World} {R : Nat} {cs : Array Value} (hr : f.results = #[.cell k 42, .tmp j]) (hp : tmps.getD k undef = .pointer (some ⟨R, 0, none⟩)) (hg : w.heap[R]? = some (.cells cs 42 (0, 0))) (hz : cs.size = 3) :
    (results f tmps).run Try.prog w = .ok (.tuple #[.agg cs, tmps.getD j undef]) w := by
  rw [results_cell_tmp hr, hp]
  have hi : (Try.prog.info? 42).map (·.size) = some cs.size := by rw [hz]; kernel_rfl
  simp [asAddr, run_loadVar_row w R 42 42 cs (0, 0) _ hg Try.underlying42 rfl hi]
set_option maxRecDepth 100000 in
set_option maxHeartbeats 8000000 in
theorem number_any (g o : Nat) (t : ShT) (bit bits fr : Int) (pv : Value) (w : World) (h : NdAt w g o t bit bits pv) :
    Calls Try.prog 76 #[.pointer (some ⟨g, o, none⟩), .int .i64 fr] w fun e w' => e = .returned (.tuple #[.agg #[.int .i64 (nuM t bits fr).1.1, .int .i64 (nuM t bits fr).1.2.1, .int .i64 (nuM t bits fr).1.2.2], .bool (nuM t bits fr).2]) ∧ Below w.heap.size w w' := by
  have HN := veil (fun o => h.below ((Below.refl _ w).alloc (Nat.le_refl _) o))
  have HB := veil (fun ob => (Below.refl _ w).alloc (Nat.le_refl _) ob)
  have HX := veil (Bk.new w 42 #[.int .i64 0, .int .i64 0, .int .i64 0])
  clear h
  unfold nuM
  cases h1 : t.sh == 1
  · cases h2 : t.sh == 2
    · simp only [Bool.false_eq_true, if_false]
      go_enter Try.func76, Try.ntmps76
      go_upto_region 1 with fail
      have HN0 := veil (unveil HN (.cells #[.int .i64 0, .int .i64 0, .int .i64 0] 42))
      obtain ⟨⟨y0, y1, y2, y3, y4, y5, y6⟩, c7, c8, c9⟩ := (unveil HN0).ten
      go_wp2_with fail
      refine bodyPost_ret (res_sb (f := Try.f76) rfl rfl (Bk.new w _ _) rfl) rfl ⟨rfl, unveil HB _⟩
    · simp only [Bool.false_eq_true, if_false, if_true]
      go_enter Try.func76, Try.ntmps76
      go_upto_region 1 with fail
      have HN0 := veil (unveil HN (.cells #[.int .i64 0, .int .i64 0, .int .i64 0] 42))
      obtain ⟨⟨y0, y1, y2, y3, y4, y5, y6⟩, c7, c8, c9⟩ := (unveil HN0).ten
      go_wp2_with fail
      refine bodyPost_ret (res_sb (f := Try.f76) rfl rfl (Bk.new w _ _) rfl) rfl ⟨rfl, unveil HB _⟩
  · simp only [if_true]
    go_enter Try.func76, Try.ntmps76
    go_upto_region 1 with fail
    have HN0 := veil (unveil HN (.cells #[.int .i64 0, .int .i64 0, .int .i64 0] 42))
    generalize hW : (w.alloc (.cells #[.int .i64 0, .int .i64 0, .int .i64 0] 42)) = W0 at *
    have HB0 : Hid (Below w.heap.size w W0) := by rw [← hW]; exact unveil HB _
    obtain ⟨⟨y0, y1, y2, y3, y4, y5, y6⟩, c7, c8, c9⟩ := (unveil HN0).ten
    have x0 := (unveil HX).cell 0
    have x1 := (unveil HX).cell 1
    have x2 := (unveil HX).cell 2
    have z0 := (unveil HX).frozen 0
    have z1 := (unveil HX).frozen 1
    have z2 := (unveil HX).frozen 2
    have lx := (unveil HX).lt
    simp only [List.getElem?_toArray, List.getElem?_cons_zero, List.getElem?_cons_succ] at x0 x1 x2
    clear hW HB HN
    go_upto_region 3 with fail
    go_region
    have hX3 : Bk (((W0.setCell ⟨w.heap.size, 0, none⟩ (.int .i64 fr)).setCell ⟨w.heap.size, 1, none⟩ (.int .i64 bits)).setCell ⟨w.heap.size, 2, none⟩ (.int .i64 t.k)).drew w.heap.size 42 #[.int .i64 fr, .int .i64 bits, .int .i64 t.k] := (((unveil HX).set 0 _).set 1 _).set 2 _
    have HX3 := veil hX3
    have HB3 : Hid (Below w.heap.size w (((W0.setCell ⟨w.heap.size, 0, none⟩ (.int .i64 fr)).setCell ⟨w.heap.size, 1, none⟩ (.int .i64 bits)).setCell ⟨w.heap.size, 2, none⟩ (.int .i64 t.k)).drew) := ((((unveil HB0).setCell (p := ⟨w.heap.size, 0, none⟩) (Nat.le_refl _) _).setCell (p := ⟨w.heap.size, 1, none⟩) (Nat.le_refl _) _).setCell (p := ⟨w.heap.size, 2, none⟩) (Nat.le_refl _) _).drew
    clear hX3
    go_wp2_with fail
    exact bodyPost_ret (res_sb (f := Try.f76) rfl rfl (unveil HX3) rfl) rfl ⟨rfl, unveil HB3⟩
end Go.Proofs.Ytkiebejidpebdaa
