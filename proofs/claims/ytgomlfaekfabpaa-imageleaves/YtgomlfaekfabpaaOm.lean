/-
  Package image: Spot, findIn, Get.
-/
import Derived.Test.YtgomlfaekfabpaaOl
namespace Go.Proofs.Ytgomlfaekfabpaa
open Go Go.RowKit Go.Shelf
set_option linter.unusedVariables false
set_option linter.unusedSimpArgs false

theorem res_st {f : Func} {k i : Nat} {tmps : Array Value} {w : World} {R : Nat} {cs : Array Value} (hr : f.results = #[.cell k 42, .tmp i]) (hp : tmps.getD k undef = .pointer (some ⟨R, 0, none⟩)) (hg : w.heap[R]? = some (.cells cs 42 (0, 0))) (hz : cs.size = 3) :
    (results f tmps).run Try.prog w = .ok (.tuple #[.agg cs, tmps.getD i undef]) w := by
  have hi : (Try.prog.info? 42).map (·.size) = some cs.size := by rw [hz]; kernel_rfl
  have hp' : tmps[k]?.getD undef = .pointer (some ⟨R, 0, none⟩) := by simpa using hp
  simp [results, hr, hp', asAddr, run_loadVar_row w R 42 42 cs (0, 0) _ hg Try.underlying42 rfl hi]
/-- Two boxes of spots, the answer's and another one. -/
theorem FdS.two {w W : World} {t : ShT} (h : FdS w W t) (a b c : Value) : FdS w (W.alloc (.cells #[a, b, c] 42)) t ∧ Bk (W.alloc (.cells #[a, b, c] 42)) W.heap.size 42 #[a, b, c] := ⟨h.below ((Below.refl _ W).alloc (Nat.le_refl _) _), Bk.new _ _ _⟩
set_option maxRecDepth 100000 in
set_option maxHeartbeats 20000000 in
theorem Spot11_any (t : ShT) (p : Option Addr) (cap : Nat) (path : List Int) (w : World) (hin : t.In w.heap.size w) (hp : PaG w.heap.size w p path) (hpl : path.length ≤ maxLen) :
    Calls Try.prog 30 #[t.v, .slice p path.length cap] w fun e w' => e = .returned (.tuple #[.agg (spC3 (fnM t path).1), .int .i64 (fnM t path).2.2]) ∧ Below w.heap.size w w' := by
  have HF : Hid (∀ W, Below w.heap.size w W → Calls Try.prog 51 #[t.v, .slice p path.length cap] W fun e w' => e = .returned (.tuple #[.agg (spC3 (fnM t path).1), .int .i64 (fnM t path).2.1, .int .i64 (fnM t path).2.2]) ∧ Below W.heap.size W w') := fun W h => find_any t p cap path W ((hin.below h).mono h.size) ((hp.below h).mono h.size) hpl
  have HT0 := veil (FdS.new w t)
  clear hin hp
  generalize fnM t path = FN at *
  obtain ⟨⟨a, b, c⟩, z, er⟩ := FN
  unfold ShT.v ShT.cs spC3 at *
  simp only at *
  go_enter Try.func30, Try.ntmps30
  go_upto_region 1 with fail
  generalize ((w.alloc (.cells #[.int .i64 t.sh, .int .i64 t.k, .int .i64 t.n, .slice t.op t.of.length t.oc, .slice t.fp t.fs.length t.fc, .bool t.pk, .int .i64 t.al] 25)).alloc (.cells #[.int .i64 0, .int .i64 0, .int .i64 0] 42)) = W0 at HT0 ⊢
  obtain ⟨y0, y1, y2, y3, y4, y5, y6⟩ := (unveil HT0).t.seven
  go_upto_region 2 with (go_at_call 51; refine (unveil HF _ (unveil HT0).be).mono ?_; rintro e W1 ⟨rfl, hb1⟩; have hs := ((unveil HT0).below hb1).two (.int .i64 a) (.int .i64 b) (.int .i64 c); have HS := veil hs; clear hb1 hs)
  obtain ⟨⟨z0, z1, z2⟩, ⟨f0, f1, f2⟩, zl⟩ := (unveil HS).1.cells
  have e0 := (unveil HS).2.cell 0
  have e1 := (unveil HS).2.cell 1
  have e2 := (unveil HS).2.cell 2
  have el := (unveil HS).2.lt
  simp only [List.getElem?_toArray, List.getElem?_cons_zero, List.getElem?_cons_succ] at e0 e1 e2
  generalize (W1.alloc (.cells #[.int .i64 a, .int .i64 b, .int .i64 c] 42)) = W2 at *
  generalize W1.heap.size = SB at *
  go_wp2_with fail
  obtain ⟨q1, q2⟩ := (unveil HS).1.fin (.int .i64 a) (.int .i64 b) (.int .i64 c) _ rfl
  exact bodyPost_ret (res_st (f := Try.f30) (i := 5) rfl rfl q1 rfl) rfl ⟨rfl, q2⟩
/-- What findIn tells of so many bytes. -/
def fiM (t : ShT) (n : Nat) (path : List Int) : (Int × Int × Int) × Int := if (fnM t path).2.2 == 0 && ((n : Int) != (fnM t path).2.1) then ((0, 0, 0), 2) else ((fnM t path).1, (fnM t path).2.2)
set_option maxRecDepth 100000 in
set_option maxHeartbeats 20000000 in
theorem findIn_any (t : ShT) (T : ByteArray) (p : Option Addr) (cap : Nat) (path : List Int) (w : World) (hin : t.In w.heap.size w) (hp : PaG w.heap.size w p path) (hpl : path.length ≤ maxLen) :
    Calls Try.prog 60 #[t.v, .string T, .slice p path.length cap] w fun e w' => e = .returned (.tuple #[.agg (spC3 (fiM t T.size path).1), .int .i64 (fiM t T.size path).2]) ∧ Below w.heap.size w w' := by
  have HF : Hid (∀ W, Below w.heap.size w W → Calls Try.prog 51 #[t.v, .slice p path.length cap] W fun e w' => e = .returned (.tuple #[.agg (spC3 (fnM t path).1), .int .i64 (fnM t path).2.1, .int .i64 (fnM t path).2.2]) ∧ Below W.heap.size W w') := fun W h => find_any t p cap path W ((hin.below h).mono h.size) ((hp.below h).mono h.size) hpl
  have HT0 := veil (FdS.new w t)
  clear hin hp
  have HFI : Hid (fiM t T.size path = if (fnM t path).2.2 == 0 && ((T.size : Int) != (fnM t path).2.1) then ((0, 0, 0), 2) else ((fnM t path).1, (fnM t path).2.2)) := rfl
  generalize fiM t T.size path = FI at *
  generalize fnM t path = FN at *
  obtain ⟨⟨a, b, c⟩, z, er⟩ := FN
  unfold ShT.v ShT.cs spC3 at *
  simp only at *
  go_enter Try.func60, Try.ntmps60
  go_upto_region 1 with fail
  generalize ((w.alloc (.cells #[.int .i64 t.sh, .int .i64 t.k, .int .i64 t.n, .slice t.op t.of.length t.oc, .slice t.fp t.fs.length t.fc, .bool t.pk, .int .i64 t.al] 25)).alloc (.cells #[.int .i64 0, .int .i64 0, .int .i64 0] 42)) = W0 at HT0 ⊢
  obtain ⟨y0, y1, y2, y3, y4, y5, y6⟩ := (unveil HT0).t.seven
  go_upto_region 2 with (go_at_call 51; refine (unveil HF _ (unveil HT0).be).mono ?_; rintro e W1 ⟨rfl, hb1⟩; have hs := ((unveil HT0).below hb1).two (.int .i64 a) (.int .i64 b) (.int .i64 c); have HS := veil hs; clear hb1 hs)
  obtain ⟨⟨z0, z1, z2⟩, ⟨f0, f1, f2⟩, zl⟩ := (unveil HS).1.cells
  have e0 := (unveil HS).2.cell 0
  have e1 := (unveil HS).2.cell 1
  have e2 := (unveil HS).2.cell 2
  have el := (unveil HS).2.lt
  simp only [List.getElem?_toArray, List.getElem?_cons_zero, List.getElem?_cons_succ] at e0 e1 e2
  generalize (W1.alloc (.cells #[.int .i64 a, .int .i64 b, .int .i64 c] 42)) = W2 at *
  generalize W1.heap.size = SB at *
  clear y0 y1 y2 y3 y4 y5 y6
  cases h1 : er == 0
  · rw [Hid, h1] at HFI
    simp only [Bool.false_and, Bool.false_eq_true, if_false] at HFI
    have HFI' := veil HFI
    clear HFI
    go_wp2_with fail
    obtain ⟨q1, q2⟩ := (unveil HS).1.fin (.int .i64 a) (.int .i64 b) (.int .i64 c) _ rfl
    exact bodyPost_ret (res_st (f := Try.f60) (i := 7) rfl rfl q1 rfl) rfl ⟨by rw [unveil HFI']; rfl, q2⟩
  · cases h2 : (T.size : Int) != z
    · rw [Hid, h1, h2] at HFI
      simp only [Bool.true_and, Bool.false_eq_true, if_false] at HFI
      have HFI' := veil HFI
      clear HFI
      go_wp2_with fail
      obtain ⟨q1, q2⟩ := (unveil HS).1.fin (.int .i64 a) (.int .i64 b) (.int .i64 c) _ rfl
      exact bodyPost_ret (res_st (f := Try.f60) (i := 7) rfl rfl q1 rfl) rfl ⟨by rw [unveil HFI']; rfl, q2⟩
    · rw [Hid, h1, h2] at HFI
      simp only [Bool.true_and, if_true] at HFI
      have HFI' := veil HFI
      clear HFI
      go_wp2_with fail
      obtain ⟨q1, q2⟩ := (unveil HS).1.fin (.int .i64 0) (.int .i64 0) (.int .i64 0) _ rfl
      exact bodyPost_ret (res_st (f := Try.f60) (i := 7) rfl rfl q1 rfl) rfl ⟨by rw [unveil HFI']; rfl, q2⟩
/-- What a path leads to is a number within the type. -/
theorem sp_fits {t : ShT} {path : List Int} (hc : ((chkM t).2 == 0) = true) (ho : okP t path = true) : 0 ≤ (spP t path).1 ∧ 0 < (spP t path).2.1 ∧ (spP t path).2.1 ≤ 64 ∧ (spP t path).1 + (spP t path).2.1 ≤ 8 * (chkM t).1.1 := by
  obtain ⟨_, hn⟩ := okP_iff.1 ho
  obtain ⟨d, hd, hg, h1, h2⟩ := fol_end path 6 (x0M t) 0 (Nat.le_refl 6) (GdN.whole hc)
  unfold spP
  generalize (folM (x0M t) 0 path).2 = E at *
  obtain ⟨y, fr⟩ := E
  simp only at *
  have hb := hg.bits
  have hx : (x0M t).2.2 = 8 * (chkM t).1.1 := rfl
  rw [hx] at h2
  have h64 : (y.1.sh == 1) = true ∨ (y.1.sh == 2) = true → y.2.2 ≤ 64 := fun hs => by
    rcases hg with ⟨g1, g2, g3⟩ | ⟨_, _, _, g⟩
    · cases d with
      | zero => cases g1
      | succ d =>
        rw [g2]
        rw [meaM]
        rcases hs with hs | hs
        · rw [if_pos hs]
          have := siz_cases y.1.k
          simp only
          omega
        · rw [if_neg (by simp at hs; rw [hs]; decide), if_pos hs]
          simp
    · exact g
  unfold nuM at *
  split at hn
  · rename_i h
    rw [if_pos h]
    have := h64 (.inl h)
    simp only
    omega
  · rename_i h
    split at hn
    · rename_i h'
      rw [if_neg h, if_pos h']
      have := h64 (.inr h')
      simp only
      omega
    · cases hn
end Go.Proofs.Ytgomlfaekfabpaa
