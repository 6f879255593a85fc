/-
  The document's own Of, Members, SameSpots.
-/
import Derived.Test.YtgomlfaekfabpaaJl
import Derived.Test.YtgomlfaekfabpaaJe
import Derived.Test.YtgomlfaekfabpaaZzd
namespace Go.Proofs.Ytgomlfaekfabpaa
open Go Go.RowKit Go.Shelf
set_option linter.unusedVariables false
set_option linter.unusedSimpArgs false

/-- What Of tells. -/
def OfP (w : World) (z a er : Int) (L : List Mb) (e : Ending) (w' : World) : Prop :=
  ∃ q n c, e = .returned (.tuple #[.agg (bxC z a false (.slice q n c)), .int .i64 er]) ∧ Below w.heap.size w w' ∧ w'.ownsRow w.heap.size 42 3 (.slice q n c) L.length (spCs L)
def ofL (t : ShT) : List Mb := if (chkM t).2 == 0 then boxL 6 t else []
theorem res_bt {f : Func} {k j : Nat} {tmps : Array Value} {w : World} {R : Nat} {cs : Array Value} (hr : f.results = #[.cell k 32, .tmp j]) (hp : tmps.getD k undef = .pointer (some ⟨R, 0, none⟩)) (hg : w.heap[R]? = some (.cells cs 32 (0, 0))) (hz : cs.size = 4) :
    (results f tmps).run Try.prog w = .ok (.tuple #[.agg cs, tmps.getD j undef]) w := by
  rw [results_cell_tmp hr, hp]
  have hi : (Try.prog.info? 32).map (·.size) = some cs.size := by rw [hz]; kernel_rfl
  simp [asAddr, run_loadVar_row w R 32 32 cs (0, 0) _ hg Try.underlying32 rfl hi]
set_option maxRecDepth 100000 in
set_option maxHeartbeats 8000000 in
theorem Of_any (t : ShT) (w : World) (hin : t.In w.heap.size w) (hle : t.Len) :
    Calls Try.prog 19 #[t.v] w (OfP w (chkM t).1.1 (chkM t).1.2 (chkM t).2 (ofL t)) := by
  have hS := BoS.new w t
  have HR : Hid (∀ W, BoS w W t → Calls Try.prog 41 #[t.v, .int .i64 6] W fun r w' => r = .returned (.bool (rigM 6 t)) ∧ Below W.heap.size W w') := fun W h => plain_any 6 (Nat.le_refl _) t W ((hin.below h.be).mono h.be.size) hle
  have HM : Hid (rigM 6 t = true → ∀ W, BoS w W t → Calls Try.prog 42 #[t.v] W (BxP W (meaM 6 t).1 (meaM 6 t).2 (decide (65536 < (meaM 6 t).1)) (boxL 6 t))) := fun hr W h => box_any 6 t W hr ((hin.below h.be).mono h.be.size)
  have HS := veil hS
  clear hin hS hle
  unfold ofL chkM
  generalize rigM 6 t = RG at *
  generalize meaM 6 t = M at *
  generalize boxL 6 t = BL at *
  obtain ⟨z, a⟩ := M
  unfold ShT.v ShT.cs at *
  unfold bxC at HS
  simp only
  cases RG
  · simp only [Bool.false_eq_true, if_false]
    have e1 : ((100 : Int) == 0) = false := rfl
    rw [e1]
    simp only [Bool.false_eq_true, if_false]
    go_enter Try.func19, Try.ntmps19
    go_upto_region 1 with fail
    generalize ((w.alloc (.cells #[.int .i64 t.sh, .int .i64 t.k, .int .i64 t.n, .slice t.op t.of.length t.oc, .slice t.fp t.fs.length t.fc, .bool t.pk, .int .i64 t.al] 25)).alloc (.cells #[.int .i64 0, .int .i64 0, .bool false, .slice none 0 0] 32)) = W0 at HS ⊢
    obtain ⟨y0, y1, y2, y3, y4, y5, y6⟩ := (unveil HS).t.seven
    go_wp2_with (go_at_call 41; refine (unveil HR _ (unveil HS)).mono ?_; rintro r W1 ⟨rfl, hb1⟩; have HS1 := veil ((unveil HS).call hb1); obtain ⟨p0, p1, p2, p3, f0, f1, f2, f3⟩ := (unveil HS1).zcells)
    exact bodyPost_ret (res_bt (f := Try.f19) rfl rfl ((unveil HS1).fin _ _ _ _).1 rfl) rfl ⟨none, 0, 0, rfl, ((unveil HS1).fin _ _ _ _).2, World.ownsRow_nil _ _ _ _⟩
  · have HM1 := veil (unveil HM rfl)
    clear HM
    simp only [if_true]
    by_cases hb : 65536 < z
    · simp only [if_pos hb]
      rw [decide_eq_true hb] at HM1
      have e1 : ((101 : Int) == 0) = false := rfl
      rw [e1]
      simp only [Bool.false_eq_true, if_false]
      clear hb
      go_enter Try.func19, Try.ntmps19
      go_upto_region 1 with fail
      generalize ((w.alloc (.cells #[.int .i64 t.sh, .int .i64 t.k, .int .i64 t.n, .slice t.op t.of.length t.oc, .slice t.fp t.fs.length t.fc, .bool t.pk, .int .i64 t.al] 25)).alloc (.cells #[.int .i64 0, .int .i64 0, .bool false, .slice none 0 0] 32)) = W0 at HS ⊢
      obtain ⟨y0, y1, y2, y3, y4, y5, y6⟩ := (unveil HS).t.seven
      go_wp2_with (first
        | (go_at_call 41; refine (unveil HR _ (unveil HS)).mono ?_; rintro r W1 ⟨rfl, hb1⟩; have HS1 := veil ((unveil HS).call hb1); obtain ⟨x0, x1, x2, x3, x4, x5, x6⟩ := (unveil HS1).t.seven)
        | (go_at_call 42; refine (unveil HM1 _ (unveil HS1)).mono ?_; rintro r W2 ⟨s, al, uq, un, uc, he, hb2, hpost⟩; unfold bxC at he; subst he; have HS2 := veil ((unveil HS1).call hb2); obtain ⟨p0, p1, p2, p3, f0, f1, f2, f3⟩ := (unveil HS2).zcells; have lt1 := (unveil HS2).z.lt; clear hpost))
      exact bodyPost_ret (res_bt (f := Try.f19) rfl rfl (((unveil HS2).fin _ _ _ _).1.alloc _) rfl) rfl ⟨none, 0, 0, rfl, ((unveil HS2).fin _ _ _ _).2.alloc ((unveil HS2).fin _ _ _ _).2.size _, World.ownsRow_nil _ _ _ _⟩
    · simp only [if_neg hb]
      rw [decide_eq_false hb] at HM1
      have e1 : ((0 : Int) == 0) = true := rfl
      rw [e1]
      simp only [if_true]
      clear hb
      go_enter Try.func19, Try.ntmps19
      go_upto_region 1 with fail
      generalize ((w.alloc (.cells #[.int .i64 t.sh, .int .i64 t.k, .int .i64 t.n, .slice t.op t.of.length t.oc, .slice t.fp t.fs.length t.fc, .bool t.pk, .int .i64 t.al] 25)).alloc (.cells #[.int .i64 0, .int .i64 0, .bool false, .slice none 0 0] 32)) = W0 at HS ⊢
      obtain ⟨y0, y1, y2, y3, y4, y5, y6⟩ := (unveil HS).t.seven
      go_wp2_with (first
        | (go_at_call 41; refine (unveil HR _ (unveil HS)).mono ?_; rintro r W1 ⟨rfl, hb1⟩; have HS1 := veil ((unveil HS).call hb1); obtain ⟨x0, x1, x2, x3, x4, x5, x6⟩ := (unveil HS1).t.seven)
        | (go_at_call 42; refine (unveil HM1 _ (unveil HS1)).mono ?_; rintro r W2 ⟨s, al, uq, un, uc, he, hb2, hpost⟩; obtain ⟨rfl, rfl, hrow⟩ := hpost rfl; unfold bxC at he; subst he; have HS2 := veil ((unveil HS1).call hb2); have HROW := veil (ownsRow_baseS hrow (unveil HS1).be.size); obtain ⟨p0, p1, p2, p3, f0, f1, f2, f3⟩ := (unveil HS2).zcells; have lt1 := (unveil HS2).z.lt; clear hpost hrow))
      exact bodyPost_ret (res_bt (f := Try.f19) rfl rfl (((unveil HS2).fin _ _ _ _).1.alloc _) rfl) rfl ⟨uq, un, uc, rfl, ((unveil HS2).fin _ _ _ _).2.alloc ((unveil HS2).fin _ _ _ _).2.size _, (row_put4 (unveil HROW) (unveil HS2).z (by decide) _ _ _ _).alloc _⟩
theorem ofL_mem {t : ShT} (hc : ((chkM t).2 == 0) = true) (hs : (t.sh == 4 || t.sh == 5) = true) : ofL t = (t.ml (meaM 5)).map Prod.snd := by
  have h4 : t.sh = 4 ∨ t.sh = 5 := by simpa using hs
  unfold ofL
  rw [if_pos hc, boxL]
  rcases h4 with h | h <;> rw [h] <;> rfl
set_option maxRecDepth 100000 in
set_option maxHeartbeats 8000000 in
theorem RMembers_any (t : ShT) (w : World) (hin : t.In w.heap.size w) (hle : t.Len) :
    Calls Try.prog 22 #[t.v] w fun e w' => MbP w (memL t).1 (memL t).2 e w' := by
  have HO : Hid (∀ W, TyB W w.heap.size t → Below w.heap.size w W → Calls Try.prog 19 #[t.v] W (OfP W (chkM t).1.1 (chkM t).1.2 (chkM t).2 (ofL t))) := fun W _ h => Of_any t W ((hin.below h).mono h.size) hle
  have HT0 := veil (And.intro (TyB.new w t) ((Below.refl _ w).alloc (Nat.le_refl _) (.cells t.cs 25)))
  clear hin hle
  have HOF := veil (fun hc hs => ofL_mem (t := t) hc hs)
  unfold memL
  generalize (t.ml (meaM 5)).map Prod.snd = ML at *
  generalize ofL t = OL at *
  generalize chkM t = C at *
  obtain ⟨⟨z, a⟩, er⟩ := C
  simp only at *
  unfold ShT.v ShT.cs at *
  cases hc : er == 0
  · simp only [Bool.false_eq_true, if_false]
    have hc' : (er != 0) = true := by simp only [bne, hc]; rfl
    clear HOF
    go_enter Try.func22, Try.ntmps22
    go_upto_region 1 with fail
    generalize (w.alloc (.cells #[.int .i64 t.sh, .int .i64 t.k, .int .i64 t.n, .slice t.op t.of.length t.oc, .slice t.fp t.fs.length t.fc, .bool t.pk, .int .i64 t.al] 25)) = W0 at HT0 ⊢
    obtain ⟨y0, y1, y2, y3, y4, y5, y6⟩ := (unveil HT0).1.seven
    go_wp2_with (go_at_call 19; refine (unveil HO _ (unveil HT0).1 (unveil HT0).2).mono ?_; rintro r W1 ⟨q, n, c, he, hb1, hrow⟩; unfold bxC at he; subst he; have HB := veil ((unveil HT0).2.trans (hb1.mono (unveil HT0).2.size)); clear hb1 hrow)
    refine bodyPost_ret (results_tmp2 rfl _ _ _) rfl ?_
    exact ⟨_, rfl, World.ownsRow_nil _ _ _ _, (unveil HB).alloc (unveil HB).size _⟩
  · simp only [if_true]
    obtain rfl : er = 0 := by simpa using hc
    clear hc
    cases hs : (t.sh == 4 || t.sh == 5)
    · simp only [Bool.false_eq_true, if_false]
      have hs4 : (t.sh != 4) = true := by cases h : t.sh == 4 <;> simp_all [bne]
      have hs5 : (t.sh != 5) = true := by cases h : t.sh == 5 <;> simp_all [bne]
      clear hs HOF
      go_enter Try.func22, Try.ntmps22
      go_upto_region 1 with fail
      generalize (w.alloc (.cells #[.int .i64 t.sh, .int .i64 t.k, .int .i64 t.n, .slice t.op t.of.length t.oc, .slice t.fp t.fs.length t.fc, .bool t.pk, .int .i64 t.al] 25)) = W0 at HT0 ⊢
      obtain ⟨y0, y1, y2, y3, y4, y5, y6⟩ := (unveil HT0).1.seven
      go_wp2_with (go_at_call 19; refine (unveil HO _ (unveil HT0).1 (unveil HT0).2).mono ?_; rintro r W1 ⟨q, n, c, he, hb1, hrow⟩; unfold bxC at he; subst he; have HB := veil ((unveil HT0).2.trans (hb1.mono (unveil HT0).2.size)); obtain ⟨x0, x1, x2, x3, x4, x5, x6⟩ := ((unveil HT0).1.below hb1).seven; have lt0 := ((unveil HT0).1.below hb1).lt; clear hb1 hrow)
      refine bodyPost_ret (results_tmp2 rfl _ _ _) rfl ?_
      exact ⟨_, rfl, World.ownsRow_nil _ _ _ _, (unveil HB).alloc (unveil HB).size _⟩
    · simp only [if_true]
      obtain rfl := unveil HOF rfl hs
      have hs2 : ((t.sh != 4) = false) ∨ ((t.sh != 4) = true ∧ (t.sh != 5) = false) := by
        have hsh : t.sh = 4 ∨ t.sh = 5 := by simpa using hs
        rcases hsh with h | h <;> simp [h]
      clear hs HOF
      rcases hs2 with h4 | ⟨h4, h5⟩
      all_goals
        go_enter Try.func22, Try.ntmps22
        go_upto_region 1 with fail
        generalize (w.alloc (.cells #[.int .i64 t.sh, .int .i64 t.k, .int .i64 t.n, .slice t.op t.of.length t.oc, .slice t.fp t.fs.length t.fc, .bool t.pk, .int .i64 t.al] 25)) = W0 at HT0 ⊢
        obtain ⟨y0, y1, y2, y3, y4, y5, y6⟩ := (unveil HT0).1.seven
        go_wp2_with (go_at_call 19; refine (unveil HO _ (unveil HT0).1 (unveil HT0).2).mono ?_; rintro r W1 ⟨q, n, c, he, hb1, hrow⟩; unfold bxC at he; subst he; have HB := veil ((unveil HT0).2.trans (hb1.mono (unveil HT0).2.size)); have HROW := veil (ownsRow_baseS hrow (unveil HT0).2.size); obtain ⟨x0, x1, x2, x3, x4, x5, x6⟩ := ((unveil HT0).1.below hb1).seven; have lt0 := ((unveil HT0).1.below hb1).lt; clear hb1 hrow)
        refine bodyPost_ret (results_tmp2 rfl _ _ _) rfl ?_
        exact ⟨_, rfl, (unveil HROW).alloc _, (unveil HB).alloc (unveil HB).size _⟩
end Go.Proofs.Ytgomlfaekfabpaa
