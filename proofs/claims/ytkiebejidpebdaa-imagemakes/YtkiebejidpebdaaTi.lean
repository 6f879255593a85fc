/-
  burinref11.walk: paths that lead to none at once.
-/
import Derived.Test.YtkiebejidpebdaaTg
namespace Go.Proofs.Ytkiebejidpebdaa
open Go Go.RowKit Go.Shelf
set_option linter.unusedVariables false
set_option linter.unusedSimpArgs false

theorem stp_neg {x : ShT × Int × Int} {s : Int} (h : s < 0) : stpM x s = none := by
  unfold stpM memB
  rw [if_pos h, if_pos h]
  split
  · rfl
  · split
    · rfl
    · rfl
set_option maxRecDepth 100000 in
set_option maxHeartbeats 20000000 in
/-- No step, or one below 0. -/
theorem rwalk_none (d : Nat) (x : ShT × Int × Int) (fr deep : Int) (p : Option Addr) (cap : Nat) (path : List Int) (w : World) (hd : d ≤ 6) (h : RiN d x) (hin : x.1.In w.heap.size w) (hle : x.1.Len) (hs : (x.1.sh == 1) = false) (hs2 : (x.1.sh == 2) = false) (hpl : path.length ≤ maxLen)
    (hp : PaG w.heap.size w p path) (hb : path = [] ∨ ∃ s r, path = s :: r ∧ s < 0) :
    Calls Try.prog 52 #[x.1.v, .int .i64 fr, .int .i64 deep, .slice p path.length cap] w (RwP w x fr deep path) := by
  obtain ⟨z, a, hz, hz1, hz2, hof⟩ := rw_of hd h hin hle
  have HOF := veil hof
  have HT0 := veil (FdS.new w x.1)
  clear hof
  have hok : okN x fr path = false := by
    rcases hb with rfl | ⟨s, r, rfl, hn⟩
    · unfold okN folM nuM
      simp [hs, hs2]
    · exact okN_no (stp_neg hn) fr r
  have HPO : Hid (∀ w', Below w.heap.size w w' → RwP w x fr deep path (.returned (.tuple #[.agg #[.int .i64 0, .int .i64 0, .int .i64 0], .slice none 0 0, .bool false])) w') := fun w' hb => RwP.no hok hb 0 0 0
  have HPG : Hid (∀ W, Below w.heap.size w W → path ≠ [] → ∃ g o, p = some ⟨g, o, none⟩ ∧ g < W.heap.size ∧ W.cell? ⟨g, o, none⟩ = some (.int .i64 (path.headD 0))) := fun W hbw hne => by
    cases path with
    | nil => exact absurd rfl hne
    | cons s r =>
      obtain ⟨g, o, e, hg, hc⟩ := (hp.below hbw) 0 (by simp)
      exact ⟨g, o, e, Nat.lt_of_lt_of_le hg hbw.size, by simpa using hc⟩
  clear hok hin hle h hp
  obtain ⟨PO, hPO⟩ : ∃ PO, RwP w x fr deep path = PO := ⟨_, rfl⟩
  rw [hPO] at HPO ⊢
  clear hPO
  generalize ofL x.1 = OL at *
  generalize x.1 = t at *
  unfold ShT.v ShT.cs at *
  go_enter Try.func52, Try.ntmps52
  go_upto_region 1 with fail
  generalize ((w.alloc (.cells #[.int .i64 t.sh, .int .i64 t.k, .int .i64 t.n, .slice t.op t.of.length t.oc, .slice t.fp t.fs.length t.fc, .bool t.pk, .int .i64 t.al] 25)).alloc (.cells #[.int .i64 0, .int .i64 0, .int .i64 0] 42)) = W0 at HT0 ⊢
  obtain ⟨y0, y1, y2, y3, y4, y5, y6⟩ := (unveil HT0).t.seven
  go_upto_region 2 with (go_at_call 19; refine (unveil HOF _ (unveil HT0).be).mono ?_; rintro e W1 ⟨q1, n1, c1, rfl, hb1, hr1⟩; have HS1 := veil (And.intro (And.intro (RwS.mk (((unveil HT0).below hb1).below ((Below.refl _ W1).alloc (Nat.le_refl _) (.cells (bxC z a false (.slice q1 n1 c1)) 32))) (Bk.new W1 32 (bxC z a false (.slice q1 n1 c1)))) hb1) (ownsRow_belowS hr1 ((Below.refl _ W1).alloc (Nat.le_refl _) (.cells (bxC z a false (.slice q1 n1 c1)) 32)))); clear hb1 hr1)
  clear y0 y1 y2 y3 y4 y5 y6
  unfold bxC at HS1
  have HR1 : Hid (RwS w (W1.alloc (.cells #[.int .i64 z, .int .i64 a, .bool false, .slice q1 n1 c1] 32)) t W1.heap.size z a (.slice q1 n1 c1)) := (unveil HS1).1.1
  have HRW : Hid ((W1.alloc (.cells #[.int .i64 z, .int .i64 a, .bool false, .slice q1 n1 c1] 32)).ownsRow W0.heap.size 42 3 (.slice q1 n1 c1) OL.length (spCs OL)) := (unveil HS1).2
  clear HS1
  generalize (W1.alloc (.cells #[.int .i64 z, .int .i64 a, .bool false, .slice q1 n1 c1] 32)) = W2 at *
  generalize W1.heap.size = BB at *
  obtain ⟨y0, y1, y2, y3, y4, y5, y6⟩ := (unveil HR1).f.t.seven
  obtain ⟨⟨z0, z1, z2⟩, ⟨f0, f1, f2⟩, zl⟩ := (unveil HR1).f.cells
  have b0 : W2.cell? ⟨BB, 0, none⟩ = some (.int .i64 z) := (unveil HR1).b.cell 0
  have bl := (unveil HR1).b.lt
  rcases hb with rfl | ⟨s, r, rfl, hn⟩
  · go_wp2_with fail
    all_goals (
      obtain ⟨r1, r2⟩ := (unveil HR1).f.fin (.int .i64 0) (.int .i64 0) (.int .i64 0) _ rfl
      exact bodyPost_ret (res_slb (f := Try.f52) (i := 9) (j := 10) rfl rfl r1 rfl) rfl (unveil HPO _ r2))
  · obtain ⟨g, o, rfl, hgl, hc0⟩ := unveil HPG W2 (unveil HR1).f.be (by simp)
    simp only [List.headD_cons] at hc0
    have hl0 : (((s :: r).length : Nat) : Int) = ((r.length + 1 : Nat) : Int) := rfl
    have hne : (((r.length + 1 : Nat) : Int) == 0) = false := by simp; omega
    have hlt0 : (0 : Int) < ((r.length + 1 : Nat) : Int) := by omega
    simp only [List.length_cons] at hpl ⊢
    go_wp2_with fail
    all_goals (
      obtain ⟨r1, r2⟩ := (unveil HR1).f.fin (.int .i64 0) (.int .i64 0) (.int .i64 0) _ rfl
      exact bodyPost_ret (res_slb (f := Try.f52) (i := 9) (j := 10) rfl rfl r1 rfl) rfl (unveil HPO _ r2))
end Go.Proofs.Ytkiebejidpebdaa
