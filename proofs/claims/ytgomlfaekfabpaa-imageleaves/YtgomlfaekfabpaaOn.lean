/-
  Package image: Get, Put.
-/
import Derived.Test.YtgomlfaekfabpaaOm
import Derived.Lib.BufferWrite
import Derived.Lib.SlBuf
namespace Go.Proofs.Ytgomlfaekfabpaa
open Go Go.RowKit Go.Shelf
set_option linter.unusedVariables false
set_option linter.unusedSimpArgs false

/-- Where findIn tells no error, the spot lies within the bytes. -/
theorem fi_ok {t : ShT} {n : Nat} {path : List Int} (h : ((fiM t n path).2 == 0) = true) : ((chkM t).2 == 0) = true ∧ okP t path = true ∧ (n : Int) = (chkM t).1.1 ∧ (fiM t n path).1 = spP t path ∧ n ≤ 65536 ∧
    ∃ (b k : Nat) , (spP t path).1 = b ∧ (spP t path).2.1 = k ∧ 0 < k ∧ k ≤ 64 ∧ b + k ≤ 8 * n := by
  unfold fiM fnM at h ⊢
  cases hc : (chkM t).2 == 0
  · rw [hc] at h
    simp only [Bool.false_eq_true, if_false] at h
    rw [hc] at h
    simp only [Bool.false_and, Bool.false_eq_true, if_false] at h
    rw [hc] at h
    cases h
  · cases ho : okP t path
    · rw [hc, ho] at h
      simp at h
    · rw [hc, ho] at h
      simp only [if_true] at h ⊢
      by_cases hn : (n : Int) = (chkM t).1.1
      · have hne : ((n : Int) != (chkM t).1.1) = false := by simpa using hn
        rw [hne]
        obtain ⟨h1, h2, h3, h4⟩ := sp_fits hc ho
        have hz := chk_size t
        refine ⟨by first | trivial | exact hc, by first | trivial | exact ho, hn, by first | rfl | (rw [hc, ho]; simp), by omega, (spP t path).1.toNat, (spP t path).2.1.toNat, by omega, by omega, by omega, by omega, by omega⟩
      · have hne : ((n : Int) != (chkM t).1.1) = true := by simpa using hn
        rw [hne] at h
        cases h
def gtM (t : ShT) (T : ByteArray) (path : List Int) : Int × Int := if (fiM t T.size path).2 == 0 then (rdM T (spP t path).1.toNat (spP t path).2.1.toNat (spP t path).2.2, 0) else (0, (fiM t T.size path).2)
set_option maxRecDepth 100000 in
set_option maxHeartbeats 20000000 in
theorem Get_any (t : ShT) (T : ByteArray) (p : Option Addr) (cap : Nat) (path : List Int) (w : World) (hin : t.In w.heap.size w) (hp : PaG w.heap.size w p path) (hpl : path.length ≤ maxLen) :
    Calls Try.prog 34 #[t.v, .string T, .slice p path.length cap] w fun e w' => e = .returned (.tuple #[.int .i64 (gtM t T path).1, .int .i64 (gtM t T path).2]) ∧ Below w.heap.size w w' := by
  have HF : Hid (∀ W, Below w.heap.size w W → Calls Try.prog 60 #[t.v, .string T, .slice p path.length cap] W fun e w' => e = .returned (.tuple #[.agg (spC3 (fiM t T.size path).1), .int .i64 (fiM t T.size path).2]) ∧ Below W.heap.size W w') := fun W h => findIn_any t T p cap path W ((hin.below h).mono h.size) ((hp.below h).mono h.size) hpl
  have HT0 := veil (And.intro (TyB.new w t) ((Below.refl _ w).alloc (Nat.le_refl _) (.cells t.cs 25)))
  have HOK := veil (@fi_ok t T.size path)
  have HG : Hid (gtM t T path = if (fiM t T.size path).2 == 0 then (rdM T (spP t path).1.toNat (spP t path).2.1.toNat (spP t path).2.2, 0) else (0, (fiM t T.size path).2)) := rfl
  clear hin hp
  generalize gtM t T path = GT at *
  generalize fiM t T.size path = FI at *
  obtain ⟨⟨a, b, c⟩, er⟩ := FI
  unfold ShT.v ShT.cs spC3 at *
  simp only at *
  cases h1 : er == 0
  · have h1' : (er != 0) = true := by simp only [bne, h1]; rfl
    rw [Hid, h1] at HG
    simp only [Bool.false_eq_true, if_false] at HG
    have HG' := veil HG
    clear HG
    go_enter Try.func34, Try.ntmps34
    go_upto_region 1 with fail
    generalize (w.alloc (.cells #[.int .i64 t.sh, .int .i64 t.k, .int .i64 t.n, .slice t.op t.of.length t.oc, .slice t.fp t.fs.length t.fc, .bool t.pk, .int .i64 t.al] 25)) = W0 at HT0 ⊢
    obtain ⟨y0, y1, y2, y3, y4, y5, y6⟩ := (unveil HT0).1.seven
    go_wp2_with (go_at_call 60; refine (unveil HF _ (unveil HT0).2).mono ?_; rintro e W1 ⟨rfl, hb1⟩; have HB1 := veil ((unveil HT0).2.trans (hb1.mono (unveil HT0).2.size)); clear hb1)
    refine bodyPost_ret (results_tmp2 rfl _ _ _) rfl ?_
    exact ⟨by rw [unveil HG']; rfl, (unveil HB1).alloc (unveil HB1).size _⟩
  · have h1' : (er != 0) = false := by simp only [bne, h1]; rfl
    obtain ⟨_, _, hn, hsp, hT, bb, kk, hb, hk, hk0, hk1, hfit⟩ := unveil HOK h1
    rw [Hid, h1] at HG
    simp only [if_true] at HG
    rw [← hsp] at HG hb hk
    simp only at HG hb hk
    subst hb hk
    rw [Int.toNat_natCast, Int.toNat_natCast] at HG
    have HG' := veil HG
    have HRD := veil (fun W => read_any T bb kk c W (by omega) (by omega) hfit (by omega))
    clear HG HOK hsp hn
    unfold spB at HRD
    go_enter Try.func34, Try.ntmps34
    go_upto_region 1 with fail
    generalize (w.alloc (.cells #[.int .i64 t.sh, .int .i64 t.k, .int .i64 t.n, .slice t.op t.of.length t.oc, .slice t.fp t.fs.length t.fc, .bool t.pk, .int .i64 t.al] 25)) = W0 at HT0 ⊢
    obtain ⟨y0, y1, y2, y3, y4, y5, y6⟩ := (unveil HT0).1.seven
    go_upto_region 4 with (go_at_call 60; refine (unveil HF _ (unveil HT0).2).mono ?_; rintro e W1 ⟨rfl, hb1⟩; have HB1 := veil ((unveil HT0).2.trans (hb1.mono (unveil HT0).2.size)); clear hb1)
    have HB2 := veil ((unveil HB1).alloc (unveil HB1).size (.cells #[.int .i64 (bb : Int), .int .i64 (kk : Int), .int .i64 c] 42))
    have hb2 := Bk.new W1 42 #[.int .i64 (bb : Int), .int .i64 (kk : Int), .int .i64 c]
    generalize (W1.alloc (.cells #[.int .i64 (bb : Int), .int .i64 (kk : Int), .int .i64 c] 42)) = W2 at *
    have e0 := hb2.cell 0
    have e1 := hb2.cell 1
    have e2 := hb2.cell 2
    simp only [List.getElem?_toArray, List.getElem?_cons_zero, List.getElem?_cons_succ] at e0 e1 e2
    generalize W1.heap.size = SB at *
    go_wp2_with (go_at_call 61; refine (unveil HRD _).mono ?_; rintro e W3 ⟨rfl, hb3⟩; have HB3 := veil ((unveil HB2).trans (hb3.mono (unveil HB2).size)); clear hb3)
    refine bodyPost_ret (results_tmp2 rfl _ _ _) rfl ?_
    exact ⟨by rw [unveil HG']; rfl, unveil HB3⟩
end Go.Proofs.Ytgomlfaekfabpaa
