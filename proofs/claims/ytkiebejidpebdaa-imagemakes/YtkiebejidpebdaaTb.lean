/-
  burinlaw11.ImageLeaves walked.
-/
import Derived.Test.YtkiebejidpebdaaTa
import Derived.Test.YtkiebejidpebdaaOu
import Derived.Test.YtkiebejidpebdaaZ6
namespace Go.Proofs.Ytkiebejidpebdaa
open Go Go.RowKit Go.Shelf
set_option linter.unusedVariables false
set_option linter.unusedSimpArgs false

theorem spot_eql (a b c a' b' c' : Int) (W : World) : (binOp .eql 42 (.agg #[.int .i64 a, .int .i64 b, .int .i64 c]) (.agg #[.int .i64 a', .int .i64 b', .int .i64 c'])).run Try.prog W = .ok (.bool (decide (a = a' ∧ b = b' ∧ c = c'))) W := by
  rw [run_eql_struct, spot_eq]; rfl
/-- What find's error says. -/
theorem fn_ok {t : ShT} {path : List Int} (h : ((fnM t path).2.2 == 0) = true) : ((chkM t).2 == 0) = true ∧ okP t path = true ∧ (fnM t path).1 = spP t path ∧ (fnM t path).2.1 = (chkM t).1.1 := by
  unfold fnM at h ⊢
  cases hc : (chkM t).2 == 0
  · rw [hc] at h
    simp only [Bool.false_eq_true, if_false] at h
    rw [hc] at h
    cases h
  · cases ho : okP t path
    · rw [hc, ho] at h
      simp at h
    · simp
theorem lea_e {t : ShT} (hc : ((chkM t).2 == 0) = true) (h : ((leaL t).2 == 0) = false) : (leaL t).2 = 101 := by
  unfold leaL at h ⊢
  rw [if_pos hc] at h ⊢
  split at h
  · cases h
  · rename_i hl
    rw [if_neg hl]
/-- The boxes of the law. -/
structure IlS (w W : World) (t : ShT) (a b c : Int) (SB : Nat) : Prop where
  t : TyB W w.heap.size t
  s : Bk W SB 42 #[.int .i64 a, .int .i64 b, .int .i64 c]
  be : Below w.heap.size w W
theorem IlS.below {w W W' : World} {t : ShT} {a b c : Int} {SB : Nat} (h : IlS w W t a b c SB) (hb : Below W.heap.size W W') : IlS w W' t a b c SB := ⟨h.t.below hb, h.s.below hb, h.be.trans (hb.mono h.be.size)⟩
set_option maxRecDepth 100000 in
set_option maxHeartbeats 20000000 in
theorem imageLeaves_walk (t : ShT) (p : Option Addr) (cap : Nat) (path : List Int) (w : World) (hin : t.In w.heap.size w) (hp : PaG w.heap.size w p path) (hpl : path.length ≤ maxLen) :
    Calls Try.prog 16 #[t.v, .slice p path.length cap] w fun e w' => e = .returned (.bool true) ∧ Below w.heap.size w w' := by
  have HSH := veil shown11_any
  have HSP : Hid (∀ W, Below w.heap.size w W → Calls Try.prog 30 #[t.v, .slice p path.length cap] W fun e w' => e = .returned (.tuple #[.agg (spC3 (fnM t path).1), .int .i64 (fnM t path).2.2]) ∧ Below W.heap.size W w') := fun W h => Spot11_any t p cap path W ((hin.below h).mono h.size) ((hp.below h).mono h.size) hpl
  have HLE : Hid (∀ W, Below w.heap.size w W → Calls Try.prog 24 #[t.v] W fun e w' => MbP W (leaL t).1 (leaL t).2 e w') := fun W h => Leaves_any t W ((hin.below h).mono h.size)
  have HT0 := veil (And.intro (TyB.new w t) ((Below.refl _ w).alloc (Nat.le_refl _) (.cells t.cs 25)))
  have HOK := veil (@fn_ok t path)
  have HLO : Hid (((fnM t path).2.2 == 0) = true → ((leaL t).2 == 0) = true → spOf <$> (leaL t).1 = (leaM 6 t 0).map spOf ∧ (leaL t).1.length ≤ 2000 ∧ (fnM t path).1 ∈ (leaM 6 t 0).map spOf) := fun h1 h2 => by
    obtain ⟨c1, c2, c3, _⟩ := fn_ok h1
    obtain ⟨_, l2, l3⟩ := lea_ok h2
    rw [l3, c3]
    exact ⟨rfl, l2, sp_leaf c1 c2⟩
  have HLX : Hid (((fnM t path).2.2 == 0) = true → ((leaL t).2 == 0) = false → (leaL t).2 = 101) := fun h1 h2 => lea_e (fn_ok h1).1 h2
  clear hin hp HOK
  generalize fnM t path = FN at *
  generalize leaL t = LE at *
  obtain ⟨⟨a, b, c⟩, z, er⟩ := FN
  obtain ⟨LL, le⟩ := LE
  unfold ShT.v ShT.cs spC3 at *
  simp only at *
  go_enter Try.func16, Try.ntmps16
  go_upto_region 1 with fail
  generalize (w.alloc (.cells #[.int .i64 t.sh, .int .i64 t.k, .int .i64 t.n, .slice t.op t.of.length t.oc, .slice t.fp t.fs.length t.fc, .bool t.pk, .int .i64 t.al] 25)) = W0 at HT0 ⊢
  go_upto_region 2 with (go_at_call 29; refine (unveil HSH _).mono ?_; rintro e W1 ⟨rfl, hb1⟩; have HT1 := veil (And.intro ((unveil HT0).1.below hb1) ((unveil HT0).2.trans (hb1.mono (unveil HT0).2.size))); clear hb1)
  obtain ⟨y0, y1, y2, y3, y4, y5, y6⟩ := (unveil HT1).1.seven
  go_upto_region 3 with (go_at_call 30; refine (unveil HSP _ (unveil HT1).2).mono ?_; rintro e W2 ⟨rfl, hb2⟩; have HS2 : Hid (IlS w (W2.alloc (.cells #[.int .i64 a, .int .i64 b, .int .i64 c] 42)) t a b c W2.heap.size) := ⟨((unveil HT1).1.below hb2).alloc _, Bk.new _ _ _, ((unveil HT1).2.trans (hb2.mono (unveil HT1).2.size)).alloc (Nat.le_trans (unveil HT1).2.size hb2.size) _⟩; clear hb2)
  clear y0 y1 y2 y3 y4 y5 y6
  generalize (W2.alloc (.cells #[.int .i64 a, .int .i64 b, .int .i64 c] 42)) = W3 at *
  generalize W2.heap.size = SB at *
  obtain ⟨y0, y1, y2, y3, y4, y5, y6⟩ := (unveil HS2).t.seven
  go_upto_region 4 with (go_at_call 24; refine (unveil HLE _ (unveil HS2).be).mono ?_; rintro e W4 ⟨v4, rfl, hr4, hb4⟩; have HS4 := veil ((unveil HS2).below hb4); obtain ⟨q4, c4, rfl⟩ := row_slice hr4; have HR4 := veil hr4; clear hb4 hr4)
  clear y0 y1 y2 y3 y4 y5 y6
  have HB4 : Hid (Below w.heap.size w W4) := (unveil HS4).be
  cases h1 : er == 0
  · have h1' : (er != 0) = true := by simp only [bne, h1]; rfl
    go_wp2_with fail
    go_ret
    exact ⟨rfl, unveil HB4⟩
  · have h1' : (er != 0) = false := by simp only [bne, h1]; rfl
    cases h2 : le == 0
    · have h2' : (le != 0) = true := by simp only [bne, h2]; rfl
      have h3 : (le == 101) = true := by rw [unveil HLX h1 h2]; rfl
      go_wp2_with fail
      go_ret
      exact ⟨rfl, unveil HB4⟩
    · have h2' : (le != 0) = false := by simp only [bne, h2]; rfl
      obtain ⟨l1, l2, l3⟩ := unveil HLO h1 h2
      have HME : Hid ((a, b, c) ∈ LL.map spOf) := by
        have : spOf <$> LL = LL.map spOf := rfl
        rw [this] at l1
        rw [Hid, l1]
        exact l3
      have hl2 : LL.length ≤ 2000 := l2
      have HL2 := veil hl2
      clear l1 l2 l3 HLX HLO
      go_upto_region 7 with fail
      go_loopg [10] LL.length (fun gk i wr => ∃ (k : Nat), gk = LL.length - k ∧ i = .int .i64 k ∧ k ≤ LL.length ∧ Hid (IlS w wr t a b c SB) ∧ Hid (Below W4.heap.size W4 wr) ∧ Hid (∀ j (hj : j < LL.length), j < k → spOf LL[j] ≠ (a, b, c)))
      case atStart => exact ⟨0, rfl, rfl, Nat.zero_le _, HS4, Below.refl _ _, fun j hj h => absurd h (Nat.not_lt_zero _)⟩
      case round =>
        obtain ⟨k, rfl, rfl, hk, hS, hB, hno⟩ := hrel
        by_cases hkl : k < LL.length
        · have hki : (k : Int) < (LL.length : Int) := by omega
          obtain ⟨_, _, g, rfl, _, hg, a0, a1, a2⟩ := row_at (unveil HR4) (i := k) hkl
          replace a0 := ((unveil hB).cell (p := ⟨g, k * 3, none⟩) hg).trans a0
          replace a1 := ((unveil hB).cell (p := ⟨g, k * 3 + 1, none⟩) hg).trans a1
          replace a2 := ((unveil hB).cell (p := ⟨g, k * 3 + 2, none⟩) hg).trans a2
          have b0 := (unveil hS).s.cell 0
          have b1 := (unveil hS).s.cell 1
          have b2 := (unveil hS).s.cell 2
          simp only [List.getElem?_toArray, List.getElem?_cons_zero, List.getElem?_cons_succ] at b0 b1 b2
          have hk2000 : k ≤ 2000 := by omega
          have HXK : Hid (∀ x, LL[k] = x → (x.bit, x.bits, x.k) = spOf LL[k]) := fun x e => by rw [← e]; rfl
          generalize hLk : LL[k] = x at *
          have HLK := veil hLk
          clear hLk
          obtain ⟨x1, x2, x3, x4⟩ := x
          simp only at a0 a1 a2
          cases hd : decide (x1 = a ∧ x2 = b ∧ x3 = c)
          · have heq := fun W => spot_eql x1 x2 x3 a b c W
            rw [hd] at heq
            have HNX : Hid (∀ j (hj : j < LL.length), j < k + 1 → spOf LL[j] ≠ (a, b, c)) := fun j hj h => by
              rcases Nat.lt_or_ge j k with h' | h'
              · exact unveil hno j hj h'
              · obtain rfl : j = k := by omega
                rw [unveil HLK]
                intro e
                simp only [decide_eq_false_iff_not] at hd
                exact hd (by simpa [spOf] using e)
            have HBN : Hid (∀ n, Below W4.heap.size W4 (wr.drewN n) ∧ IlS w (wr.drewN n) t a b c SB) := fun n => ⟨below_drewS (unveil hB) n, (unveil hS).below (below_drewS (Below.refl _ wr) n)⟩
            clear hd
            go_upto_region 9 with fail
            go_quiet (fail)
            go_wp2_with fail
            go_roundg (LL.length - (k + 1))
            case measure => omega
            case rel => exact ⟨k + 1, rfl, by go_num, by omega, (unveil HBN _).2, (unveil HBN _).1, HNX⟩
          · have heq := fun W => spot_eql x1 x2 x3 a b c W
            rw [hd] at heq
            have HBN : Hid (∀ n, Below w.heap.size w (wr.drewN n)) := fun n => below_drewS (unveil hS).be n
            clear hd
            go_upto_region 9 with fail
            go_quiet (fail)
            go_wp2_with fail
            go_ret
            exact ⟨rfl, unveil HBN _⟩
        · exfalso
          obtain ⟨m, hm, e⟩ := List.mem_map.1 (unveil HME)
          obtain ⟨j, hj, ej⟩ := List.mem_iff_getElem.1 hm
          exact unveil hno j hj (by omega) (by rw [ej]; exact e)
end Go.Proofs.Ytkiebejidpebdaa
