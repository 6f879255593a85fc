/-
  Package macro: Parse.
-/
import Derived.Test.YticiddcgafhkhaaDoorV5
import Derived.Test.YticiddcgafhkhaaDoorU8
import Derived.Test.YticiddcgafhkhaaDoorUa
import Derived.Test.YticiddcgafhkhaaDoorUF
import Derived.Test.YticiddcgafhkhaaDoorUd
namespace Go.Proofs.YticiddcgafhkhaaDoor
open Go Go.RowKit
set_option linter.unusedVariables false
set_option linter.unusedSimpArgs false

/-- A slice that lies in new memory. -/
def NewS (B : Nat) (v : Value) : Prop := ∀ g o n c, v = .slice (some ⟨g, o, none⟩) n c → B ≤ g
theorem newS_of {W : World} {base n size : Nat} {e : TypeId} {v : Value} {xs : List Value} (h : W.ownsRow base e size v n xs) : NewS base v := by
  intro g o m c hv
  rcases h.2 with ⟨rfl, h0⟩ | ⟨g', cap, cur, rfl, hb, _⟩
  · cases hv
  · cases hv; exact hb
theorem placelessN_any (v : Value) (l : List Gt) (w : World) (hl : l.length * 56 ≤ 140737488355328) (hv : TkG w.heap.size w v l) :
    Calls Tryd.prog 39 #[v] w fun e w' => ∃ v', e = .returned v' ∧ TkG w'.heap.size w' v' (bareG l) ∧ Below w.heap.size w w' ∧ NewS w.heap.size v' := by
  have HCL := hide (CloneT_any v l w hl hv)
  clear hv
  go_enter Tryd.func39, Tryd.ntmps39
  go_wp2_with fail
  refine (unhide HCL).mono ?_
  rintro e W1 ⟨v', rfl, hrow, hb1⟩
  clear HCL
  by_cases h0 : l.length = 0
  · obtain rfl : l = [] := List.eq_nil_of_length_eq_zero h0
    have hnew := newS_of hrow
    obtain ⟨p, cap, rfl⟩ := ownsRow_slice hrow
    go_wp2
    go_loopg [9] 0 (fun gk i wr => i = .int .i64 0 ∧ wr = W1)
    case atStart => exact ⟨rfl, rfl⟩
    case round =>
      obtain ⟨rfl, hww⟩ := hrel
      obtain rfl := hww.symm
      go_wp2
      go_ret
      exact ⟨_, rfl, ⟨p, cap, rfl, fun i hi => by simp [bareG] at hi⟩, hb1, hnew⟩
  · obtain ⟨g, cap, rfl⟩ : ∃ g cap, v' = .slice (some ⟨g, 0, none⟩) l.length cap := by
      rcases hrow.2 with ⟨_, h⟩ | ⟨g, cap, cur, h, _⟩
      · exact absurd h h0
      · exact ⟨g, cap, h⟩
    have hbg : Bg w W1 g l 0 := by
      rcases hrow.2 with ⟨h, _⟩ | ⟨g', cap', cur, h, hbase, hg, hn, hm, hcs, htk⟩
      · cases h
      · obtain ⟨rfl, rfl⟩ : g = g' ∧ cap = cap' := by simpa using h
        refine ⟨hb1, hbase, fun j => by simp [World.frozen?, hg], fun i hi => ?_⟩
        rw [if_neg (by omega)]
        have key : ∀ j u, j < 6 → (gL l[i])[j]? = some u → W1.cell? ⟨g, i * 6 + j, none⟩ = some u := fun j u hj hu => by
          have e := gCells_at l i hi j hj
          rw [← htk, List.getElem?_take_of_lt (by omega)] at e
          rw [hu] at e
          simp [World.cell?, hg]
          simpa using e
        exact ⟨key 0 _ (by decide) rfl, key 1 _ (by decide) rfl, key 2 _ (by decide) rfl, key 3 _ (by decide) rfl, key 4 _ (by decide) rfl, key 5 _ (by decide) rfl⟩
    have HBG := hide hbg
    clear hbg hrow
    go_wp2
    go_loopg [9] l.length (fun gk i wr => ∃ k : Nat, gk = l.length - k ∧ i = .int .i64 k ∧ k ≤ l.length ∧ Hid (Bg w wr g l k))
    case atStart => exact ⟨0, rfl, rfl, by omega, HBG⟩
    case round =>
      clear HBG
      obtain ⟨k, rfl, rfl, hk, hbg⟩ := hrel
      by_cases hlt : k < l.length
      · have i1 : (k : Int) < (l.length : Int) := by omega
        obtain ⟨c0, c1, c2, c3, c4, c5⟩ := (unhide hbg).at_ k hlt
        rw [if_neg (by omega)] at c0 c1 c2 c3 c4 c5
        have fr := (unhide hbg).free
        have f2 := fr (k * 6 + 2)
        have f3 := fr (k * 6 + 3)
        have f4 := fr (k * 6 + 4)
        have f5 := fr (k * 6 + 5)
        clear fr
        by_cases hk0 : k = 0
        · subst hk0
          have HN := hide ((unhide hbg).first hlt)
          simp only [Nat.zero_mul, Nat.zero_add] at c0 c1 c2 c3 c4 c5 f2 f3 f4 f5
          generalize l[0] = t at *
          go_wp2
          go_roundg (l.length - 1)
          case measure => omega
          case rel => exact ⟨1, rfl, by go_num, by omega, HN⟩
        · have i2 : ((k : Int) == 0) = false := by rw [beq_eq_false_iff_ne]; omega
          have HN := hide ((unhide hbg).next hlt (by omega))
          generalize l[k] = t at *
          go_wp2
          go_roundg (l.length - (k + 1))
          case measure => omega
          case rel => exact ⟨k + 1, rfl, by go_num, by omega, HN⟩
      · have i1 : ¬ (k : Int) < (l.length : Int) := by omega
        go_wp2
        go_ret
        refine ⟨_, rfl, ⟨some ⟨g, 0, none⟩, cap, by rw [bareG_length]; rfl, fun i hi => ?_⟩, (unhide hbg).below, fun g' o n c h => by cases h; exact (unhide hbg).new⟩
        have hi' : i < l.length := by rw [← bareG_length]; exact hi
        have h6 := (unhide hbg).at_ i hi'
        rw [if_pos (by omega)] at h6
        rw [bareG_at]
        refine ⟨g, 0, rfl, World.block_lt_of_cell? _ _ h6.1, ?_⟩
        simp only [Nat.zero_add]
        exact h6

theorem StG.keepsS {B : Nat} {S : Nat → Prop} {W W' : World} {p : Option Addr} {n cap : Nat} {l : List (List UInt8)} (h : StG B W (.slice p n cap) l) (hk : keepsS S W W') (hS : ∀ g o, p = some ⟨g, o, none⟩ → S g) : StG B W' (.slice p n cap) l := by
  obtain ⟨p', cap', e, hc⟩ := h
  obtain ⟨rfl, rfl, rfl⟩ : p = p' ∧ n = l.length ∧ cap = cap' := by simpa using e
  refine ⟨p, cap, rfl, fun i hi => ?_⟩
  obtain ⟨g, o, hp, hg, c0⟩ := hc i hi
  exact ⟨g, o, hp, hg, (World.cell?_of_block (hk g (hS g o hp))).trans c0⟩
theorem keepsS_put5 (W : World) (M : Nat) (nm pv bv : Value) (fn more : Bool) : keepsS (fun b => b ≠ M) W (put5 W M nm fn pv more bv) := fun b hb =>
  (Below.heap_setCell _ _ _ _ hb).trans ((Below.heap_setCell _ _ _ _ hb).trans ((Below.heap_setCell _ _ _ _ hb).trans ((Below.heap_setCell _ _ _ _ hb).trans (Below.heap_setCell _ _ _ _ hb))))
/-- The macro that tokens define, if they define one. -/
def parseM (l : List Gt) : Option Mc :=
  match headP l with
  | none => none
  | some (nm, fn, ps, more, body) => if rightM ⟨nm, fn, ps, more, bareG body⟩ then some ⟨nm, fn, ps, more, bareG body⟩ else none
/-- What Parse tells. -/
def ParseP (w : World) (R : Option Mc) (e : Ending) (w' : World) : Prop :=
  Below w.heap.size w w' ∧ ((R = none ∧ e = .returned (.tuple #[.agg zeroM, .int .i64 30])) ∨
    (∃ m x, R = some m ∧ e = .returned (.tuple #[x, .int .i64 0]) ∧ McV w'.heap.size w' x m))
theorem res17P {tmps : Array Value} {w : World} {R : Nat} {cs : Array Value} (hp : tmps.getD 2 undef = .pointer (some ⟨R, 0, none⟩)) (hg : w.heap[R]? = some (.cells cs 25 (0, 0))) (hz : cs.size = 5) :
    (results Tryd.f17 tmps).run Tryd.prog w = .ok (.tuple #[.agg cs, tmps.getD 3 undef]) w := by
  rw [results_cell_tmp rfl, hp]
  have hi : (Tryd.prog.info? 25).map (·.size) = some cs.size := by rw [hz]; kernel_rfl
  simp [asAddr, run_loadVar_row w R 25 25 cs (0, 0) _ hg Tryd.underlying25 rfl hi]

set_option maxRecDepth 100000 in
set_option maxHeartbeats 8000000 in
theorem Parse_any (p : Option Addr) (cap : Nat) (l : List Gt) (w : World) (hsz : l.length * 56 ≤ 140737488355328) (hcap : l.length ≤ cap ∧ cap ≤ maxLen) (hl : TkG w.heap.size w (.slice p l.length cap) l)
    (hfit : ∀ nm fn ps more body, headP l = some (nm, fn, ps, more, body) → McFits ⟨nm, fn, ps, more, bareG body⟩ ∧ body.length ≤ l.length) (hw0 : 1 < w.heap.size) (hsg : Sg w) :
    Calls Tryd.prog 17 #[.slice p l.length cap] w fun e w' => ParseP w (parseM l) e w' := by
  have hbe0 : Below w.heap.size w (w.alloc (.cells #[.string ⟨#[]⟩, .bool false, .slice none 0 0, .bool false, .slice none 0 0] 25)) := (Below.refl _ w).alloc (Nat.le_refl _) _
  have hm0 : MBox (w.alloc (.cells #[.string ⟨#[]⟩, .bool false, .slice none 0 0, .bool false, .slice none 0 0] 25)) w.heap.size (.string ⟨#[]⟩) false (.slice none 0 0) false (.slice none 0 0) := World.alloc_heap_new w _
  have hz0 : (w.alloc (.cells #[.string ⟨#[]⟩, .bool false, .slice none 0 0, .bool false, .slice none 0 0] 25)).heap.size = w.heap.size + 1 := by simp
  have HH := hide (parseHead_any p cap l (w.alloc (.cells #[.string ⟨#[]⟩, .bool false, .slice none 0 0, .bool false, .slice none 0 0] 25)) hsz hcap ((hl.below hbe0).mono (by omega)))
  have HM := hide hm0
  have HB := hide hbe0
  have HSG := hide hsg
  have HF := hide hfit
  have hR : parseM l = match headP l with
    | none => none
    | some (nm, fn, ps, more, body) => if rightM ⟨nm, fn, ps, more, bareG body⟩ then some ⟨nm, fn, ps, more, bareG body⟩ else none := rfl
  generalize parseM l = R at *
  have HR := hide hR
  clear hR hfit hsg hbe0 hm0 hl
  generalize hN : l.length = N at *
  go_enter Tryd.func17, Tryd.ntmps17
  go_wp2_with fail
  refine (unhide HH).mono ?_
  rintro e W1 ⟨hb1, (⟨hRn, s, fn, q, n, c, more, sv, rfl⟩ | ⟨nm, fn, ps, more, body, pv, p', cap', hRs, rfl, hrow, htk⟩)⟩
  · have HRR : Hid (R = none) := by rw [Hid, unhide HR, hRn]
    rw [hz0] at hb1
    have hm1 := (unhide HM).below hb1 (by omega)
    have HB1 := hide ((unhide HB).trans (hb1.mono (by omega)))
    clear HH HM HB hb1 hz0
    have hm2 := hm1.below ((Below.refl _ W1).alloc (Nat.le_refl _) (.cells #[.string s, .bool fn, .slice q n c, .bool more, .slice none 0 0] 25)) hm1.lt
    have mm := hm2.five
    obtain ⟨m0, m1, m2, m3, m4⟩ := mm
    have n0 := hm2.frozen 0
    have n1 := hm2.frozen 1
    have n2 := hm2.frozen 2
    have n3 := hm2.frozen 3
    have n4 := hm2.frozen 4
    have HM2 := hide hm2
    have hne : w.heap.size ≠ W1.heap.size := Nat.ne_of_lt hm1.lt
    clear hm2 hm1
    go_wp2
    refine bodyPost_ret (res17P rfl ((unhide HM2).put _ _ _ _ _) rfl) rfl ⟨below_put5 ((unhide HB1).alloc (unhide HB1).size _) (Nat.le_refl _) _ _ _ _ _, .inl ⟨unhide HRR, rfl⟩⟩
  · have HRR : Hid (R = if rightM ⟨nm, fn, ps, more, bareG body⟩ then some ⟨nm, fn, ps, more, bareG body⟩ else none) := by rw [Hid, unhide HR, hRs]
    obtain ⟨hfit, hbl⟩ := unhide HF _ _ _ _ _ hRs
    rw [hz0] at hb1 hrow
    have hm1 := (unhide HM).below hb1 (by omega)
    have HB1 := hide ((unhide HB).trans (hb1.mono (by omega)))
    have hz1 : w.heap.size < W1.heap.size := hm1.lt
    obtain ⟨q, c, rfl⟩ := ownsRow_slice hrow
    have hal : Below W1.heap.size W1 (W1.alloc (.cells #[.string ⟨nm.toArray⟩, .bool fn, .slice q ps.length c, .bool more, .slice none 0 0] 25)) := (Below.refl _ W1).alloc (Nat.le_refl _) _
    have HPL := hide (placelessN_any (.slice p' body.length cap') body (W1.alloc (.cells #[.string ⟨nm.toArray⟩, .bool fn, .slice q ps.length c, .bool more, .slice none 0 0] 25)) (by omega) ((htk.below hal).mono (by simp)))
    have hm2 : MBox (W1.alloc (.cells #[.string ⟨nm.toArray⟩, .bool fn, .slice q ps.length c, .bool more, .slice none 0 0] 25)) W1.heap.size (.string ⟨nm.toArray⟩) fn (.slice q ps.length c) more (.slice none 0 0) := World.alloc_heap_new W1 _
    have HM1 := hide (hm1.below hal hm1.lt)
    have HM2 := hide hm2
    have HST := hide (StG.of hrow rfl)
    have HRM := hide (ownsRow_room hrow)
    have HNP := hide (newS_of hrow)
    have hz2 : (W1.alloc (.cells #[.string ⟨nm.toArray⟩, .bool fn, .slice q ps.length c, .bool more, .slice none 0 0] 25)).heap.size = W1.heap.size + 1 := by simp
    have HFT := hide hfit
    clear HH HM HB hb1 hz0 hm1 hal hm2 hrow htk hRs HR HF hfit
    go_wp2_with fail
    refine (unhide HPL).mono ?_
    rintro e W2 ⟨v', rfl, htk2, hb2, hnew⟩
    obtain ⟨pb, cb, rfl, _⟩ := id htk2
    have hs2 := hb2.size
    rw [hz2] at hs2 hnew
    have hm2 := (unhide HM2).below hb2 (by omega)
    have hm1 := (unhide HM1).below hb2 (by omega)
    have mf4 := hm2.frozen 4
    obtain ⟨mc0, mc1, mc2, mc3, mc4⟩ := hm2.five
    have hB12 : Below W1.heap.size W1 W2 := ((Below.refl _ W1).alloc (Nat.le_refl _) _).trans (hb2.mono (by rw [hz2]; omega))
    have hB13 : Below W1.heap.size W1 (W2.setCell ⟨W1.heap.size, 4, none⟩ (.slice pb (bareG body).length cb)) := hB12.setCell (p := ⟨W1.heap.size, 4, none⟩) (Nat.le_refl _) _
    have x1 := hide (hm1.setCell (b := W1.heap.size) (i := 4) (by omega) (.slice pb (bareG body).length cb))
    have x2 := hide (hm2.set4 (.slice pb (bareG body).length cb))
    have x4 : Below w.heap.size w (W2.setCell ⟨W1.heap.size, 4, none⟩ (.slice pb (bareG body).length cb)) := (unhide HB1).trans (hB13.mono (Nat.le_of_lt hz1))
    have hzz : (W2.setCell ⟨W1.heap.size, 4, none⟩ (.slice pb (bareG body).length cb)).heap.size = W2.heap.size := by simp
    have x5 : TkG W2.heap.size (W2.setCell ⟨W1.heap.size, 4, none⟩ (.slice pb (bareG body).length cb)) (.slice pb (bareG body).length cb) (bareG body) := by
      refine htk2.keepsS (S := fun b => b ≠ W1.heap.size) (fun b hb => Below.heap_setCell _ _ _ _ hb) (fun g o hp => ?_)
      have := hnew g o _ _ (by rw [hp])
      omega
    have x6 : McV (W2.setCell ⟨W1.heap.size, 4, none⟩ (.slice pb (bareG body).length cb)).heap.size (W2.setCell ⟨W1.heap.size, 4, none⟩ (.slice pb (bareG body).length cb)) (.agg #[.string ⟨nm.toArray⟩, .bool fn, .slice q ps.length c, .bool more, .slice pb (bareG body).length cb]) ⟨nm, fn, ps, more, bareG body⟩ :=
      ⟨_, _, rfl, ((unhide HST).below hB13).mono (by rw [hzz]; omega), by rw [hzz]; exact x5, unhide HRM⟩
    have HRG := hide (Right_any _ _ _ (unhide HFT) x6 (by rw [hzz]; omega) (Sg.below (unhide HSG) x4 hw0))
    have HX6 := hide x6
    have HX4 := hide x4
    have HZZ := hide hzz
    clear hb2 htk2 hm1 HPL x5 x6 x4 hzz hB12 hB13 hm2 HM1 HM2 hs2 hz2
    go_wp2_with fail
    refine (unhide HRG).mono ?_
    rintro e W4 ⟨rfl, hb4⟩
    have hs4 := hb4.size
    rw [unhide HZZ] at hs4
    have h1l := (unhide x1).lt
    have h2l := (unhide x2).lt
    have hm1 := (unhide x1).below hb4 h1l
    have hm2 := (unhide x2).below hb4 h2l
    have HB5 := hide ((unhide HX4).trans (hb4.mono (unhide HX4).size))
    have HX7 := hide (McV.below (unhide HX6) hb4)
    clear mc0 mc1 mc2 mc3 mc4 mf4 HX6 HX4 HRG x1 x2 hb4 HZZ h1l h2l
    have HM1 := hide hm1
    obtain ⟨m0, m1, m2, m3, m4⟩ := hm1.five
    obtain ⟨k0, k1, k2, k3, k4⟩ := hm2.five
    have n0 := hm1.frozen 0
    have n1 := hm1.frozen 1
    have n2 := hm1.frozen 2
    have n3 := hm1.frozen 3
    have n4 := hm1.frozen 4
    clear hm1 hm2
    generalize rightM ⟨nm, fn, ps, more, bareG body⟩ = G at *
    cases G
    · go_wp2
      refine bodyPost_ret (res17P rfl ((unhide HM1).put _ _ _ _ _) rfl) rfl ⟨below_put5 (unhide HB5) (Nat.le_refl _) _ _ _ _ _, .inl ⟨by rw [unhide HRR]; rfl, rfl⟩⟩
    · have hbp := below_put5 (Below.refl w.heap.size W4) (Nat.le_refl _) (.string ⟨nm.toArray⟩) (.slice q ps.length c) (.slice pb (bareG body).length cb) fn more
      go_wp2
      refine bodyPost_ret (res17P rfl ((unhide HM1).put _ _ _ _ _) rfl) rfl ⟨below_put5 (unhide HB5) (Nat.le_refl _) _ _ _ _ _, .inr ⟨_, _, by rw [unhide HRR]; rfl, rfl, ?_⟩⟩
      obtain ⟨pv', bv', e', s1, s2, s3⟩ := unhide HX7
      have hee : pv' = .slice q ps.length c ∧ bv' = .slice pb (bareG body).length cb := by
        simp at e'
        exact ⟨e'.1.symm, e'.2.symm⟩
      obtain ⟨rfl, rfl⟩ := hee
      have hkS : keepsS (fun b => b ≠ w.heap.size) W4 (put5 W4 w.heap.size (.string ⟨nm.toArray⟩) fn (.slice q ps.length c) more (.slice pb (bareG body).length cb)) := keepsS_put5 _ _ _ _ _ _ _
      refine ⟨_, _, rfl, ?_, ?_, s3⟩
      · have := s1.keepsS hkS (fun g o hp => by have := unhide HNP g o _ _ (by rw [hp]); show g ≠ _; omega)
        exact this.mono (Nat.le_of_eq (size_put5 W4 w.heap.size _ _ _ _ _).symm)
      · have := s2.keepsS hkS (fun g o hp => by have := hnew g o _ _ (by rw [hp]); show g ≠ _; omega)
        exact this.mono (Nat.le_of_eq (size_put5 W4 w.heap.size _ _ _ _ _).symm)
end Go.Proofs.YticiddcgafhkhaaDoor
