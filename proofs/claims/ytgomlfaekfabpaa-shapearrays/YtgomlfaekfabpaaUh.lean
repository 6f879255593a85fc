/-
  Package shape: layBits, lay.
-/
import Derived.Test.YtgomlfaekfabpaaUb
import Derived.Deep.CutRange
import Derived.Deep.DeepCutAuto
import Derived.Test.YtgomlfaekfabpaaNa
namespace Go.Proofs.Ytgomlfaekfabpaa
open Go Go.RowKit
set_option linter.unusedVariables false
set_option linter.unusedSimpArgs false

/-- Where a member lies, and to what it aligns the whole. -/
structure Mb where
  bit : Int
  bits : Int
  k : Int
  al : Int
def mbC (f : FdOf ShT) (m : Mb) : Array Value := #[.string ⟨f.nm.toArray⟩, .int .i64 f.t.sh, .int .i64 f.t.k, .int .i64 f.t.n, .slice f.t.op f.t.of.length f.t.oc, .slice f.t.fp f.t.fs.length f.t.fc, .bool f.t.pk, .int .i64 f.t.al, .int .i64 f.bits, .int .i64 m.bit, .int .i64 m.bits, .int .i64 m.k, .int .i64 m.al]
def mbV (f : FdOf ShT) (m : Mb) : Value := .agg (mbC f m)
def layB (f : FdOf ShT) (en unit : Int) (pk : Bool) : Mb :=
  ⟨if f.bits == 0 || (en / unit != (en + f.bits - 1).tdiv unit) && !pk then upM en unit else en, f.bits, f.t.k, if !f.nm.isEmpty && !pk then unit / 8 else 1⟩
theorem res_m {f : Func} {k : Nat} {tmps : Array Value} {w : World} {R : Nat} {cs : Array Value} (hr : f.results = #[.cell k 77]) (hp : tmps.getD k undef = .pointer (some ⟨R, 0, none⟩)) (hg : w.heap[R]? = some (.cells cs 77 (0, 0))) (hz : cs.size = 13) :
    (results f tmps).run Try.prog w = .ok (.agg cs) w := by
  have hi : (Try.prog.info? 77).map (·.size) = some cs.size := by rw [hz]; kernel_rfl
  have hp' : tmps[k]?.getD undef = .pointer (some ⟨R, 0, none⟩) := by simpa using hp
  simp [results, hr, hp', asAddr, run_loadVar_row w R 77 77 cs (0, 0) _ hg Try.underlying77 rfl hi]
theorem res_e {f : Func} {k : Nat} {tmps : Array Value} {w : World} {R : Nat} {cs : Array Value} (hr : f.results = #[.cell k 68]) (hp : tmps.getD k undef = .pointer (some ⟨R, 0, none⟩)) (hg : w.heap[R]? = some (.cells cs 68 (0, 0))) (hz : cs.size = 2) :
    (results f tmps).run Try.prog w = .ok (.agg cs) w := by
  have hi : (Try.prog.info? 68).map (·.size) = some cs.size := by rw [hz]; kernel_rfl
  have hp' : tmps[k]?.getD undef = .pointer (some ⟨R, 0, none⟩) := by simpa using hp
  simp [results, hr, hp', asAddr, run_loadVar_row w R 68 68 cs (0, 0) _ hg Try.underlying68 rfl hi]
/-- Blocks of cells of some type. -/
def Bk (W : World) (b : Nat) (T : TypeId) (cs : Array Value) : Prop := W.heap[b]? = some (.cells cs T (0, 0))
theorem Bk.lt {W : World} {b : Nat} {T : TypeId} {cs : Array Value} (h : Bk W b T cs) : b < W.heap.size := (Array.getElem?_eq_some_iff.1 h).1
theorem Bk.cell {W : World} {b : Nat} {T : TypeId} {cs : Array Value} (h : Bk W b T cs) (i : Nat) : W.cell? ⟨b, i, none⟩ = cs[i]? := by unfold Bk at h; simp [World.cell?, h]
theorem Bk.frozen {W : World} {b : Nat} {T : TypeId} {cs : Array Value} (h : Bk W b T cs) (i : Nat) : W.frozen? ⟨b, i, none⟩ = false := by unfold Bk at h; simp [World.frozen?, h]
theorem Bk.below {W W' : World} {b : Nat} {T : TypeId} {cs : Array Value} (h : Bk W b T cs) (hb : Below W.heap.size W W') : Bk W' b T cs := (hb.block b h.lt).trans h
theorem Bk.alloc {W : World} {b : Nat} {T : TypeId} {cs : Array Value} (h : Bk W b T cs) (o : Obj) : Bk (W.alloc o) b T cs := (Below.heap_alloc W o b h.lt).trans h
theorem Bk.new (w : World) (T : TypeId) (cs : Array Value) : Bk (w.alloc (.cells cs T)) w.heap.size T cs := World.alloc_heap_new _ _
theorem Bk.set {W : World} {b : Nat} {T : TypeId} {cs : Array Value} (h : Bk W b T cs) (i : Nat) (v : Value) : Bk (W.setCell ⟨b, i, none⟩ v) b T (cs.setIfInBounds i v) := by
  unfold Bk at *
  simp [World.setCell, Array.getElem?_modify, h]
theorem Bk.other {W : World} {b c : Nat} {T : TypeId} {cs : Array Value} (h : Bk W b T cs) (i : Nat) (v : Value) (hc : b ≠ c) : Bk (W.setCell ⟨c, i, none⟩ v) b T cs := (Below.heap_setCell W ⟨c, i, none⟩ v b hc).trans h
theorem Bk.nine {W : World} {b : Nat} {T : TypeId} {v0 v1 v2 v3 v4 v5 v6 v7 v8 : Value} (h : Bk W b T #[v0, v1, v2, v3, v4, v5, v6, v7, v8]) :
    W.cell? ⟨b, 0, none⟩ = some v0 ∧ W.cell? ⟨b, 1, none⟩ = some v1 ∧ W.cell? ⟨b, 2, none⟩ = some v2 ∧ W.cell? ⟨b, 3, none⟩ = some v3 ∧ W.cell? ⟨b, 4, none⟩ = some v4 ∧ W.cell? ⟨b, 5, none⟩ = some v5 ∧ W.cell? ⟨b, 6, none⟩ = some v6 ∧ W.cell? ⟨b, 7, none⟩ = some v7 ∧ W.cell? ⟨b, 8, none⟩ = some v8 :=
  ⟨h.cell 0, h.cell 1, h.cell 2, h.cell 3, h.cell 4, h.cell 5, h.cell 6, h.cell 7, h.cell 8⟩
theorem Bk.thirteen {W : World} {b : Nat} {T : TypeId} {v0 v1 v2 v3 v4 v5 v6 v7 v8 v9 v10 v11 v12 : Value} (h : Bk W b T #[v0, v1, v2, v3, v4, v5, v6, v7, v8, v9, v10, v11, v12]) :
    W.cell? ⟨b, 0, none⟩ = some v0 ∧ W.cell? ⟨b, 1, none⟩ = some v1 ∧ W.cell? ⟨b, 2, none⟩ = some v2 ∧ W.cell? ⟨b, 3, none⟩ = some v3 ∧ W.cell? ⟨b, 4, none⟩ = some v4 ∧ W.cell? ⟨b, 5, none⟩ = some v5 ∧ W.cell? ⟨b, 6, none⟩ = some v6 ∧ W.cell? ⟨b, 7, none⟩ = some v7 ∧ W.cell? ⟨b, 8, none⟩ = some v8 ∧
    W.cell? ⟨b, 9, none⟩ = some v9 ∧ W.cell? ⟨b, 10, none⟩ = some v10 ∧ W.cell? ⟨b, 11, none⟩ = some v11 ∧ W.cell? ⟨b, 12, none⟩ = some v12 :=
  ⟨h.cell 0, h.cell 1, h.cell 2, h.cell 3, h.cell 4, h.cell 5, h.cell 6, h.cell 7, h.cell 8, h.cell 9, h.cell 10, h.cell 11, h.cell 12⟩
theorem Bk.froz13 {W : World} {b : Nat} {T : TypeId} {cs : Array Value} (h : Bk W b T cs) :
    W.frozen? ⟨b, 0, none⟩ = false ∧ W.frozen? ⟨b, 1, none⟩ = false ∧ W.frozen? ⟨b, 2, none⟩ = false ∧ W.frozen? ⟨b, 3, none⟩ = false ∧ W.frozen? ⟨b, 4, none⟩ = false ∧ W.frozen? ⟨b, 5, none⟩ = false ∧ W.frozen? ⟨b, 6, none⟩ = false ∧ W.frozen? ⟨b, 7, none⟩ = false ∧ W.frozen? ⟨b, 8, none⟩ = false ∧
    W.frozen? ⟨b, 9, none⟩ = false ∧ W.frozen? ⟨b, 10, none⟩ = false ∧ W.frozen? ⟨b, 11, none⟩ = false ∧ W.frozen? ⟨b, 12, none⟩ = false :=
  ⟨h.frozen 0, h.frozen 1, h.frozen 2, h.frozen 3, h.frozen 4, h.frozen 5, h.frozen 6, h.frozen 7, h.frozen 8, h.frozen 9, h.frozen 10, h.frozen 11, h.frozen 12⟩
/-- The three blocks of layBits: the member's, the answer's, its own. -/
def zeroMb : Array Value := #[.string ⟨#[]⟩, .int .i64 0, .int .i64 0, .int .i64 0, .slice none 0 0, .slice none 0 0, .bool false, .int .i64 0, .int .i64 0, .int .i64 0, .int .i64 0, .int .i64 0, .int .i64 0]
structure LyS (w W : World) (F M : Array Value) : Prop where
  f : Bk W w.heap.size 45 F
  z : Bk W (w.heap.size + 1) 77 zeroMb
  m : Bk W (w.heap.size + 1 + 1) 77 M
  be : Below w.heap.size w W
theorem LyS.new (w : World) (F M : Array Value) : LyS w (((w.alloc (.cells F 45)).alloc (.cells zeroMb 77)).alloc (.cells M 77)) F M :=
  ⟨((Bk.new w _ F).alloc _).alloc _, by
    have := (Bk.new (w.alloc (.cells F 45)) 77 zeroMb).alloc (.cells M 77)
    rwa [World.size_alloc] at this, by
    have := Bk.new ((w.alloc (.cells F 45)).alloc (.cells zeroMb 77)) 77 M
    rwa [World.size_alloc, World.size_alloc] at this, (((Below.refl _ w).alloc (Nat.le_refl _) _).alloc (by simp) _).alloc (by simp; omega) _⟩
theorem LyS.drewN {w W : World} {F M : Array Value} (h : LyS w W F M) (n : Nat) : LyS w (W.drewN n) F M := ⟨h.f, h.z, h.m, below_drewS h.be n⟩
theorem LyS.set {w W : World} {F M : Array Value} (h : LyS w W F M) (i : Nat) (v : Value) : LyS w (W.setCell ⟨w.heap.size + 1 + 1, i, none⟩ v) F (M.setIfInBounds i v) :=
  ⟨h.f.other _ _ (by omega), h.z.other _ _ (by omega), h.m.set i v, h.be.setCell (p := ⟨w.heap.size + 1 + 1, i, none⟩) (by show w.heap.size ≤ w.heap.size + 1 + 1; omega) v⟩
def put13 (W : World) (R : Nat) (v0 v1 v2 v3 v4 v5 v6 v7 v8 v9 v10 v11 v12 : Value) : World :=
  ((((((((((((W.setCell ⟨R, 0, none⟩ v0).setCell ⟨R, 1, none⟩ v1).setCell ⟨R, 2, none⟩ v2).setCell ⟨R, 3, none⟩ v3).setCell ⟨R, 4, none⟩ v4).setCell ⟨R, 5, none⟩ v5).setCell ⟨R, 6, none⟩ v6).setCell ⟨R, 7, none⟩ v7).setCell ⟨R, 8, none⟩ v8).setCell ⟨R, 9, none⟩ v9).setCell ⟨R, 10, none⟩ v10).setCell ⟨R, 11, none⟩ v11).setCell ⟨R, 12, none⟩ v12
set_option maxHeartbeats 4000000 in
theorem Bk.put13 {W : World} {R : Nat} {T : TypeId} (h : Bk W R T zeroMb) (v0 v1 v2 v3 v4 v5 v6 v7 v8 v9 v10 v11 v12 : Value) : Bk (put13 W R v0 v1 v2 v3 v4 v5 v6 v7 v8 v9 v10 v11 v12) R T #[v0, v1, v2, v3, v4, v5, v6, v7, v8, v9, v10, v11, v12] := by
  unfold zeroMb at h
  have h := h.set 0 v0
  simp only [List.setIfInBounds_toArray, List.set_cons_zero] at h
  have h := h.set 1 v1
  simp only [List.setIfInBounds_toArray, List.set_cons_zero, List.set_cons_succ] at h
  have h := h.set 2 v2
  simp only [List.setIfInBounds_toArray, List.set_cons_zero, List.set_cons_succ] at h
  have h := h.set 3 v3
  simp only [List.setIfInBounds_toArray, List.set_cons_zero, List.set_cons_succ] at h
  have h := h.set 4 v4
  simp only [List.setIfInBounds_toArray, List.set_cons_zero, List.set_cons_succ] at h
  have h := h.set 5 v5
  simp only [List.setIfInBounds_toArray, List.set_cons_zero, List.set_cons_succ] at h
  have h := h.set 6 v6
  simp only [List.setIfInBounds_toArray, List.set_cons_zero, List.set_cons_succ] at h
  have h := h.set 7 v7
  simp only [List.setIfInBounds_toArray, List.set_cons_zero, List.set_cons_succ] at h
  have h := h.set 8 v8
  simp only [List.setIfInBounds_toArray, List.set_cons_zero, List.set_cons_succ] at h
  have h := h.set 9 v9
  simp only [List.setIfInBounds_toArray, List.set_cons_zero, List.set_cons_succ] at h
  have h := h.set 10 v10
  simp only [List.setIfInBounds_toArray, List.set_cons_zero, List.set_cons_succ] at h
  have h := h.set 11 v11
  simp only [List.setIfInBounds_toArray, List.set_cons_zero, List.set_cons_succ] at h
  have h := h.set 12 v12
  simp only [List.setIfInBounds_toArray, List.set_cons_zero, List.set_cons_succ] at h
  exact h
theorem below_put13 {W0 W : World} {B R : Nat} (h : Below B W0 W) (hR : B ≤ R) (v0 v1 v2 v3 v4 v5 v6 v7 v8 v9 v10 v11 v12 : Value) : Below B W0 (put13 W R v0 v1 v2 v3 v4 v5 v6 v7 v8 v9 v10 v11 v12) :=
  ((((((((((((h.setCell (p := ⟨R, 0, none⟩) hR v0).setCell (p := ⟨R, 1, none⟩) hR v1).setCell (p := ⟨R, 2, none⟩) hR v2).setCell (p := ⟨R, 3, none⟩) hR v3).setCell (p := ⟨R, 4, none⟩) hR v4).setCell (p := ⟨R, 5, none⟩) hR v5).setCell (p := ⟨R, 6, none⟩) hR v6).setCell (p := ⟨R, 7, none⟩) hR v7).setCell (p := ⟨R, 8, none⟩) hR v8).setCell (p := ⟨R, 9, none⟩) hR v9).setCell (p := ⟨R, 10, none⟩) hR v10).setCell (p := ⟨R, 11, none⟩) hR v11).setCell (p := ⟨R, 12, none⟩) hR v12
set_option maxRecDepth 100000 in
set_option maxHeartbeats 8000000 in
theorem layBits_any (f : FdOf ShT) (en unit : Int) (pk : Bool) (w : World) (he0 : 0 ≤ en) (he1 : en ≤ 1073741824) (hu0 : 8 ≤ unit) (hu1 : unit ≤ 64) (hb0 : 0 ≤ f.bits) (hb1 : f.bits ≤ 64) :
    Calls Try.prog 86 #[f.v, .int .i64 en, .int .i64 unit, .bool pk] w fun e w' => e = .returned (mbV f (layB f en unit pk)) ∧ Below w.heap.size w w' := by
  have HU := veil (fun W => up_any en unit W he0 (by omega) (by omega) (by omega))
  unfold mbV mbC layB FdOf.v FdOf.cs
  simp only
  have hz : ¬ unit = 0 := by omega
  generalize f.t.sh = a1
  generalize f.t.k = a2
  generalize f.t.n = a3
  generalize f.t.op = a4
  generalize f.t.of.length = a4l
  generalize f.t.oc = a4c
  generalize f.t.fp = a5
  generalize f.t.fs.length = a5l
  generalize f.t.fc = a5c
  generalize f.t.pk = a6
  generalize f.t.al = a7
  generalize f.bits = bi at *
  generalize f.nm = nm
  generalize upM en unit = UP at *
  obtain ⟨AL, HAL⟩ : ∃ AL, Hid ((if !nm.isEmpty && !pk then unit / 8 else 1) = AL) := ⟨_, rfl⟩
  rw [unveil HAL]
  obtain ⟨UU, HUU⟩ : ∃ UU, Hid ((bi == 0 || (en / unit != (en + bi - 1).tdiv unit) && !pk) = UU) := ⟨_, rfl⟩
  rw [unveil HUU]
  obtain ⟨BI, HBI⟩ : ∃ BI, Hid ((if UU then UP else en) = BI) := ⟨_, rfl⟩
  rw [unveil HBI]
  obtain ⟨CR, HCR⟩ : ∃ CR, Hid ((en / unit != (en + bi - 1).tdiv unit) = CR) := ⟨_, rfl⟩
  rw [unveil HCR] at HUU
  go_enter Try.func86, Try.ntmps86
  go_upto_region 2 with fail
  have HL : Hid (LyS w (((w.alloc (.cells #[.string ⟨nm.toArray⟩, .int .i64 a1, .int .i64 a2, .int .i64 a3, .slice a4 a4l a4c, .slice a5 a5l a5c, .bool a6, .int .i64 a7, .int .i64 bi] 45)).alloc (.cells #[.string ⟨#[]⟩, .int .i64 0, .int .i64 0, .int .i64 0, .slice none 0 0, .slice none 0 0, .bool false, .int .i64 0, .int .i64 0, .int .i64 0, .int .i64 0, .int .i64 0, .int .i64 0] 77)).alloc (.cells #[.string ⟨nm.toArray⟩, .int .i64 a1, .int .i64 a2, .int .i64 a3, .slice a4 a4l a4c, .slice a5 a5l a5c, .bool a6, .int .i64 a7, .int .i64 bi, .int .i64 en, .int .i64 bi, .int .i64 a2, .int .i64 1] 77)) #[.string ⟨nm.toArray⟩, .int .i64 a1, .int .i64 a2, .int .i64 a3, .slice a4 a4l a4c, .slice a5 a5l a5c, .bool a6, .int .i64 a7, .int .i64 bi] #[.string ⟨nm.toArray⟩, .int .i64 a1, .int .i64 a2, .int .i64 a3, .slice a4 a4l a4c, .slice a5 a5l a5c, .bool a6, .int .i64 a7, .int .i64 bi, .int .i64 en, .int .i64 bi, .int .i64 a2, .int .i64 1]) := LyS.new w _ _
  generalize (((w.alloc (.cells #[.string ⟨nm.toArray⟩, .int .i64 a1, .int .i64 a2, .int .i64 a3, .slice a4 a4l a4c, .slice a5 a5l a5c, .bool a6, .int .i64 a7, .int .i64 bi] 45)).alloc (.cells #[.string ⟨#[]⟩, .int .i64 0, .int .i64 0, .int .i64 0, .slice none 0 0, .slice none 0 0, .bool false, .int .i64 0, .int .i64 0, .int .i64 0, .int .i64 0, .int .i64 0, .int .i64 0] 77)).alloc (.cells #[.string ⟨nm.toArray⟩, .int .i64 a1, .int .i64 a2, .int .i64 a3, .slice a4 a4l a4c, .slice a5 a5l a5c, .bool a6, .int .i64 a7, .int .i64 bi, .int .i64 en, .int .i64 bi, .int .i64 a2, .int .i64 1] 77)) = W0 at HL ⊢
  obtain ⟨c0, c1, c2, c3, c4, c5, c6, c7, c8⟩ := (unveil HL).f.nine
  obtain ⟨m0, m1, m2, m3, m4, m5, m6, m7, m8, m9, m10, m11, m12⟩ := (unveil HL).m.thirteen
  obtain ⟨g0, g1, g2, g3, g4, g5, g6, g7, g8, g9, g10, g11, g12⟩ := (unveil HL).m.froz13
  have hl0 := (unveil HL).f.lt
  have hl1 := (unveil HL).z.lt
  have hl2 := (unveil HL).m.lt
  obtain ⟨NN, HNN⟩ : ∃ NN, Hid ((!nm.isEmpty && !pk) = NN) := ⟨_, rfl⟩
  go_cut [26] (fun c wx => c = .bool NN ∧ wx = W0)
  case first =>
    cases hn : nm.isEmpty
    · cases pk
      all_goals
        go_wp2_with fail
        go_meet
        case rel => exact ⟨by rw [← unveil HNN, hn]; rfl, rfl⟩
    · go_wp2_with fail
      go_meet
      case rel => exact ⟨by rw [← unveil HNN, hn]; rfl, rfl⟩
  case rest =>
  obtain ⟨rfl, rfl⟩ := hcut
  rw [unveil HNN] at HAL
  go_upto_if 26 with fail
  go_cut [] (fun wx => Hid (LyS w wx #[.string ⟨nm.toArray⟩, .int .i64 a1, .int .i64 a2, .int .i64 a3, .slice a4 a4l a4c, .slice a5 a5l a5c, .bool a6, .int .i64 a7, .int .i64 bi] #[.string ⟨nm.toArray⟩, .int .i64 a1, .int .i64 a2, .int .i64 a3, .slice a4 a4l a4c, .slice a5 a5l a5c, .bool a6, .int .i64 a7, .int .i64 bi, .int .i64 en, .int .i64 bi, .int .i64 a2, .int .i64 AL]))
  case first =>
    cases NN
    · go_wp2_with fail
      go_meet
      case rel =>
        have e := unveil HAL
        simp only [Bool.false_eq_true, if_false] at e
        rw [← e]
        exact unveil HL
    · go_wp2_with fail
      go_meet
      case rel =>
        have e := unveil HAL
        simp only [if_true] at e
        rw [← e]
        have hs := (unveil HL).set 12 (.int .i64 (unit / 8))
        simp only [List.setIfInBounds_toArray, List.set_cons_zero, List.set_cons_succ] at hs
        exact hs
  case rest =>
    rename World => W1
    clear HL c0 c1 c2 c3 c4 c5 c6 c7 c8 m0 m1 m2 m3 m4 m5 m6 m7 m8 m9 m10 m11 m12 g0 g1 g2 g3 g4 g5 g6 g7 g8 g9 g10 g11 g12 hl0 hl1 hl2
    have HL := hcut
    clear hcut HAL
    obtain ⟨c0, c1, c2, c3, c4, c5, c6, c7, c8⟩ := (unveil HL).f.nine
    obtain ⟨m0, m1, m2, m3, m4, m5, m6, m7, m8, m9, m10, m11, m12⟩ := (unveil HL).m.thirteen
    obtain ⟨g0, g1, g2, g3, g4, g5, g6, g7, g8, g9, g10, g11, g12⟩ := (unveil HL).m.froz13
    have hl0 := (unveil HL).f.lt
    have hl1 := (unveil HL).z.lt
    have hl2 := (unveil HL).m.lt
    go_upto_region 4 with fail
    go_cut [10] (fun c wx => c = .bool CR ∧ Hid (LyS w wx #[.string ⟨nm.toArray⟩, .int .i64 a1, .int .i64 a2, .int .i64 a3, .slice a4 a4l a4c, .slice a5 a5l a5c, .bool a6, .int .i64 a7, .int .i64 bi] #[.string ⟨nm.toArray⟩, .int .i64 a1, .int .i64 a2, .int .i64 a3, .slice a4 a4l a4c, .slice a5 a5l a5c, .bool a6, .int .i64 a7, .int .i64 bi, .int .i64 en, .int .i64 bi, .int .i64 a2, .int .i64 AL]))
    case first =>
      go_quiet (fail)
      go_wp2_with fail
      go_meet
      case rel => exact ⟨by rw [← unveil HCR], (unveil HL).drewN _⟩
    case rest =>
      obtain ⟨rfl, HL2⟩ := hcut
      clear HL HCR c0 c1 c2 c3 c4 c5 c6 c7 c8 m0 m1 m2 m3 m4 m5 m6 m7 m8 m9 m10 m11 m12 g0 g1 g2 g3 g4 g5 g6 g7 g8 g9 g10 g11 g12 hl0 hl1 hl2
      have HL := HL2
      clear HL2
      obtain ⟨c0, c1, c2, c3, c4, c5, c6, c7, c8⟩ := (unveil HL).f.nine
      obtain ⟨m0, m1, m2, m3, m4, m5, m6, m7, m8, m9, m10, m11, m12⟩ := (unveil HL).m.thirteen
      obtain ⟨g0, g1, g2, g3, g4, g5, g6, g7, g8, g9, g10, g11, g12⟩ := (unveil HL).m.froz13
      have hl0 := (unveil HL).f.lt
      have hl1 := (unveil HL).z.lt
      have hl2 := (unveil HL).m.lt
      go_upto_region 5 with fail
      go_cut [51] (fun c wx => c = .bool UU ∧ Hid (LyS w wx #[.string ⟨nm.toArray⟩, .int .i64 a1, .int .i64 a2, .int .i64 a3, .slice a4 a4l a4c, .slice a5 a5l a5c, .bool a6, .int .i64 a7, .int .i64 bi] #[.string ⟨nm.toArray⟩, .int .i64 a1, .int .i64 a2, .int .i64 a3, .slice a4 a4l a4c, .slice a5 a5l a5c, .bool a6, .int .i64 a7, .int .i64 bi, .int .i64 en, .int .i64 bi, .int .i64 a2, .int .i64 AL]))
      case first =>
        cases hq : bi == 0
        · cases CR
          · go_wp2_with fail
            go_meet
            case rel => exact ⟨by rw [← unveil HUU, hq]; rfl, HL⟩
          · go_wp2_with fail
            go_meet
            case rel => exact ⟨by rw [← unveil HUU, hq]; cases pk <;> rfl, HL⟩
        · go_wp2_with fail
          go_meet
          case rel => exact ⟨by rw [← unveil HUU, hq]; rfl, HL⟩
      case rest =>
        obtain ⟨rfl, HL2⟩ := hcut
        clear HL HUU c0 c1 c2 c3 c4 c5 c6 c7 c8 m0 m1 m2 m3 m4 m5 m6 m7 m8 m9 m10 m11 m12 g0 g1 g2 g3 g4 g5 g6 g7 g8 g9 g10 g11 g12 hl0 hl1 hl2
        have HL := HL2
        clear HL2
        obtain ⟨c0, c1, c2, c3, c4, c5, c6, c7, c8⟩ := (unveil HL).f.nine
        obtain ⟨m0, m1, m2, m3, m4, m5, m6, m7, m8, m9, m10, m11, m12⟩ := (unveil HL).m.thirteen
        obtain ⟨g0, g1, g2, g3, g4, g5, g6, g7, g8, g9, g10, g11, g12⟩ := (unveil HL).m.froz13
        have hl0 := (unveil HL).f.lt
        have hl1 := (unveil HL).z.lt
        have hl2 := (unveil HL).m.lt
        go_upto_if 51 with fail
        go_cut [] (fun wx => Hid (LyS w wx #[.string ⟨nm.toArray⟩, .int .i64 a1, .int .i64 a2, .int .i64 a3, .slice a4 a4l a4c, .slice a5 a5l a5c, .bool a6, .int .i64 a7, .int .i64 bi] #[.string ⟨nm.toArray⟩, .int .i64 a1, .int .i64 a2, .int .i64 a3, .slice a4 a4l a4c, .slice a5 a5l a5c, .bool a6, .int .i64 a7, .int .i64 bi, .int .i64 BI, .int .i64 bi, .int .i64 a2, .int .i64 AL]))
        case first =>
          cases UU
          · go_wp2_with fail
            go_meet
            case rel =>
              have e := unveil HBI
              simp only [Bool.false_eq_true, if_false] at e
              rw [← e]
              exact HL
          · go_wp2_with (go_at_call 87; refine (unveil HU _).mono ?_; rintro e w' ⟨rfl, hw'⟩; obtain rfl := hw'.symm)
            go_meet
            case rel =>
              have e := unveil HBI
              simp only [if_true] at e
              rw [← e]
              have hs := (unveil HL).set 9 (.int .i64 UP)
              simp only [List.setIfInBounds_toArray, List.set_cons_zero, List.set_cons_succ] at hs
              exact hs
        case rest =>
          clear HL c0 c1 c2 c3 c4 c5 c6 c7 c8 m0 m1 m2 m3 m4 m5 m6 m7 m8 m9 m10 m11 m12 g0 g1 g2 g3 g4 g5 g6 g7 g8 g9 g10 g11 g12 hl0 hl1 hl2
          have HL := hcut
          clear hcut
          obtain ⟨c0, c1, c2, c3, c4, c5, c6, c7, c8⟩ := (unveil HL).f.nine
          obtain ⟨m0, m1, m2, m3, m4, m5, m6, m7, m8, m9, m10, m11, m12⟩ := (unveil HL).m.thirteen
          obtain ⟨g0, g1, g2, g3, g4, g5, g6, g7, g8, g9, g10, g11, g12⟩ := (unveil HL).m.froz13
          have hl0 := (unveil HL).f.lt
          have hl1 := (unveil HL).z.lt
          have hl2 := (unveil HL).m.lt
          obtain ⟨z0, z1, z2, z3, z4, z5, z6, z7, z8, z9, z10, z11, z12⟩ := (unveil HL).z.thirteen
          obtain ⟨y0, y1, y2, y3, y4, y5, y6, y7, y8, y9, y10, y11, y12⟩ := (unveil HL).z.froz13
          go_wp2_with fail
          exact bodyPost_ret (res_m (f := Try.f86) rfl rfl ((unveil HL).z.put13 _ _ _ _ _ _ _ _ _ _ _ _ _) rfl) rfl ⟨rfl, below_put13 (unveil HL).be (by omega) _ _ _ _ _ _ _ _ _ _ _ _ _⟩
end Go.Proofs.Ytgomlfaekfabpaa
