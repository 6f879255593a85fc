/-
  burinlaw11.ImageSwaps walked.
-/
import Derived.Test.YtgomlfaekfabpaaTl
import Derived.Test.YtgomlfaekfabpaaOu
namespace Go.Proofs.Ytgomlfaekfabpaa
open Go Go.RowKit Go.Shelf
set_option linter.unusedVariables false
set_option linter.unusedSimpArgs false

theorem ba_inj {X Y : ByteArray} (h : X.toList = Y.toList) : X = Y := by
  rw [ByteArray.toList_eq, ByteArray.toList_eq] at h
  obtain ⟨x⟩ := X
  obtain ⟨y⟩ := Y
  have e : x = y := Array.ext' h
  rw [e]
/-- Two sets made on the spot. -/
theorem se_two {W : World} {b : Nat} {T : TypeId} {s1 s2 : SetT} (h : Bk W b T #[.slice s1.p s1.path.length s1.cap, .int .i64 s1.v, .slice s2.p s2.path.length s2.cap, .int .i64 s2.v]) (h1 : PaG W.heap.size W s1.p s1.path) (h2 : PaG W.heap.size W s2.p s2.path) (l1 : s1.path.length ≤ maxLen) (l2 : s2.path.length ≤ maxLen) :
    SeG W.heap.size W (some ⟨b, 0, none⟩) [s1, s2] := fun i hi => by
  have hi2 : i < 2 := hi
  have hI : i = 0 ∨ i = 1 := by omega
  refine ⟨b, 0, rfl, h.lt, ?_, ?_, ?_, ?_⟩
  · rw [h.cell]; rcases hI with rfl | rfl <;> rfl
  · rw [h.cell]; rcases hI with rfl | rfl <;> rfl
  · rcases hI with rfl | rfl
    · exact h1
    · exact h2
  · rcases hI with rfl | rfl
    · exact l1
    · exact l2
/-- The law's type and its two sets. -/
structure SwS (w W : World) (t : ShT) (p : Option Addr) (n cap : Nat) (v : Int) (p2 : Option Addr) (n2 cap2 : Nat) (u : Int) (SA SB : Nat) : Prop where
  t : TyB W w.heap.size t
  a : Bk W SA 64 #[.slice p n cap, .int .i64 v]
  b : Bk W SB 64 #[.slice p2 n2 cap2, .int .i64 u]
  be : Below w.heap.size w W
theorem SwS.below {w W W' : World} {t : ShT} {p : Option Addr} {n cap : Nat} {v : Int} {p2 : Option Addr} {n2 cap2 : Nat} {u : Int} {SA SB : Nat} (h : SwS w W t p n cap v p2 n2 cap2 u SA SB) (hb : Below W.heap.size W W') : SwS w W' t p n cap v p2 n2 cap2 u SA SB := ⟨h.t.below hb, h.a.below hb, h.b.below hb, h.be.trans (hb.mono h.be.size)⟩
set_option maxRecDepth 100000 in
set_option maxHeartbeats 40000000 in
theorem imageSwaps_walk (t : ShT) (T : ByteArray) (p : Option Addr) (cap : Nat) (path : List Int) (p2 : Option Addr) (cap2 : Nat) (path2 : List Int) (v u : Int) (w : World) (hin : t.In w.heap.size w) (hp : PaG w.heap.size w p path) (hpl : path.length ≤ maxLen) (hp2 : PaG w.heap.size w p2 path2) (hpl2 : path2.length ≤ maxLen) :
    Calls Try.prog 15 #[t.v, .string T, .slice p path.length cap, .slice p2 path2.length cap2, .int .i64 v, .int .i64 u] w fun e w' => e = .returned (.bool true) ∧ Below w.heap.size w w' := by
  have HSH := veil shown11_any
  have HPT : Hid (∀ W, Below w.heap.size w W → Calls Try.prog 36 #[t.v, .string T, .slice p path.length cap, .int .i64 v] W fun e w' => e = .returned (.tuple #[.string (ptM t T path v).1, .int .i64 (ptM t T path v).2]) ∧ Below W.heap.size W w') := fun W h => Put_any t T p cap path v W ((hin.below h).mono h.size) ((hp.below h).mono h.size) hpl
  have HPU : Hid (∀ W, Below w.heap.size w W → Calls Try.prog 36 #[t.v, .string T, .slice p2 path2.length cap2, .int .i64 u] W fun e w' => e = .returned (.tuple #[.string (ptM t T path2 u).1, .int .i64 (ptM t T path2 u).2]) ∧ Below W.heap.size W w') := fun W h => Put_any t T p2 cap2 path2 u W ((hin.below h).mono h.size) ((hp2.below h).mono h.size) hpl2
  have HPA : Hid (∀ A W, Below w.heap.size w W → Calls Try.prog 36 #[t.v, .string A, .slice p2 path2.length cap2, .int .i64 u] W fun e w' => e = .returned (.tuple #[.string (ptM t A path2 u).1, .int .i64 (ptM t A path2 u).2]) ∧ Below W.heap.size W w') := fun A W h => Put_any t A p2 cap2 path2 u W ((hin.below h).mono h.size) ((hp2.below h).mono h.size) hpl2
  have HPB : Hid (∀ B W, Below w.heap.size w W → Calls Try.prog 36 #[t.v, .string B, .slice p path.length cap, .int .i64 v] W fun e w' => e = .returned (.tuple #[.string (ptM t B path v).1, .int .i64 (ptM t B path v).2]) ∧ Below W.heap.size W w') := fun B W h => Put_any t B p cap path v W ((hin.below h).mono h.size) ((hp.below h).mono h.size) hpl
  have HS1 : Hid (∀ W, Below w.heap.size w W → Calls Try.prog 30 #[t.v, .slice p path.length cap] W fun e w' => e = .returned (.tuple #[.agg (spC3 (fnM t path).1), .int .i64 (fnM t path).2.2]) ∧ Below W.heap.size W w') := fun W h => Spot11_any t p cap path W ((hin.below h).mono h.size) ((hp.below h).mono h.size) hpl
  have HS2 : Hid (∀ W, Below w.heap.size w W → Calls Try.prog 30 #[t.v, .slice p2 path2.length cap2] W fun e w' => e = .returned (.tuple #[.agg (spC3 (fnM t path2).1), .int .i64 (fnM t path2).2.2]) ∧ Below W.heap.size W w') := fun W h => Spot11_any t p2 cap2 path2 W ((hin.below h).mono h.size) ((hp2.below h).mono h.size) hpl2
  have HM1 : Hid (∀ W, Below w.heap.size w W → ∀ W3, W3 = W.alloc (.cells #[.slice p path.length cap, .int .i64 v, .slice p2 path2.length cap2, .int .i64 u] 64) → Calls Try.prog 32 #[t.v, .slice (some ⟨W.heap.size, 0, none⟩) 2 2] W3 fun e w' => e = .returned (.tuple #[.string (mkM t [⟨p, cap, path, v⟩, ⟨p2, cap2, path2, u⟩]).1, .int .i64 (mkM t [⟨p, cap, path, v⟩, ⟨p2, cap2, path2, u⟩]).2.1, .int .i64 (mkM t [⟨p, cap, path, v⟩, ⟨p2, cap2, path2, u⟩]).2.2]) ∧ Below W.heap.size W w') := fun W h W3 e => by
    subst e
    have hb3 := (Below.refl _ W).alloc (Nat.le_refl _) (.cells #[.slice p path.length cap, .int .i64 v, .slice p2 path2.length cap2, .int .i64 u] 64)
    have h3 := h.alloc h.size (.cells #[.slice p path.length cap, .int .i64 v, .slice p2 path2.length cap2, .int .i64 u] 64)
    refine (Make_any t _ 2 [⟨p, cap, path, v⟩, ⟨p2, cap2, path2, u⟩] _ ((hin.below h3).mono h3.size) (se_two (s1 := ⟨p, cap, path, v⟩) (s2 := ⟨p2, cap2, path2, u⟩) (Bk.new W _ _) ((hp.below h3).mono h3.size) ((hp2.below h3).mono h3.size) hpl hpl2) (by show 2 ≤ 1000; omega)).mono ?_
    rintro e w' ⟨rfl, hb⟩
    exact ⟨rfl, hb3.trans (hb.mono hb3.size)⟩
  have HM2 : Hid (∀ W, Below w.heap.size w W → ∀ W3, W3 = W.alloc (.cells #[.slice p2 path2.length cap2, .int .i64 u, .slice p path.length cap, .int .i64 v] 64) → Calls Try.prog 32 #[t.v, .slice (some ⟨W.heap.size, 0, none⟩) 2 2] W3 fun e w' => e = .returned (.tuple #[.string (mkM t [⟨p2, cap2, path2, u⟩, ⟨p, cap, path, v⟩]).1, .int .i64 (mkM t [⟨p2, cap2, path2, u⟩, ⟨p, cap, path, v⟩]).2.1, .int .i64 (mkM t [⟨p2, cap2, path2, u⟩, ⟨p, cap, path, v⟩]).2.2]) ∧ Below W.heap.size W w') := fun W h W3 e => by
    subst e
    have hb3 := (Below.refl _ W).alloc (Nat.le_refl _) (.cells #[.slice p2 path2.length cap2, .int .i64 u, .slice p path.length cap, .int .i64 v] 64)
    have h3 := h.alloc h.size (.cells #[.slice p2 path2.length cap2, .int .i64 u, .slice p path.length cap, .int .i64 v] 64)
    refine (Make_any t _ 2 [⟨p2, cap2, path2, u⟩, ⟨p, cap, path, v⟩] _ ((hin.below h3).mono h3.size) (se_two (s1 := ⟨p2, cap2, path2, u⟩) (s2 := ⟨p, cap, path, v⟩) (Bk.new W _ _) ((hp2.below h3).mono h3.size) ((hp.below h3).mono h3.size) hpl2 hpl) (by show 2 ≤ 1000; omega)).mono ?_
    rintro e w' ⟨rfl, hb⟩
    exact ⟨rfl, hb3.trans (hb.mono hb3.size)⟩
  have HHU : Hid (rigM 6 t = true → ∀ W, Below w.heap.size w W → Calls Try.prog 38 #[t.v] W fun e w' => e = .returned (.bool (huM 6 t)) ∧ Below W.heap.size W w') := fun hr W h => hasUnion_any 6 t W hr ((hin.below h).mono h.size)
  have HQ := veil (swap_facts t T p cap path p2 cap2 path2 v u)
  have HAB : Hid (∀ q : List Int, ((fnM t q).2.2 == 0) = true → 0 ≤ (fnM t q).1.1 ∧ 0 < (fnM t q).1.2.1 ∧ (fnM t q).1.1 + (fnM t q).1.2.1 ≤ 524288) := fun q h2 => by
    obtain ⟨c1, o2, e1, _⟩ := fn_ok h2
    rw [e1]
    obtain ⟨f1, f2, f3, f4⟩ := sp_fits c1 o2
    have := chk_size t
    omega
  have HA1 := veil (unveil HAB path)
  have HA2 := veil (unveil HAB path2)
  have HT0 := veil (And.intro (TyB.new w t) ((Below.refl _ w).alloc (Nat.le_refl _) (.cells t.cs 25)))
  clear hin hp hp2 HAB
  generalize fnM t path = FN at *
  obtain ⟨⟨a, b, c⟩, z, er⟩ := FN
  generalize fnM t path2 = FN2 at *
  obtain ⟨⟨a2, b2, c2⟩, z2, er2⟩ := FN2
  unfold ShT.v ShT.cs spC3 at *
  simp only at *
  go_enter Try.func15, Try.ntmps15
  go_upto_region 1 with fail
  generalize (w.alloc (.cells #[.int .i64 t.sh, .int .i64 t.k, .int .i64 t.n, .slice t.op t.of.length t.oc, .slice t.fp t.fs.length t.fc, .bool t.pk, .int .i64 t.al] 25)) = W0 at HT0 ⊢
  go_upto_region 2 with (go_at_call 29; refine (unveil HSH _).mono ?_; rintro e W1 ⟨rfl, hb1⟩; have HT1 := veil (And.intro ((unveil HT0).1.below hb1) ((unveil HT0).2.trans (hb1.mono (unveil HT0).2.size))); clear hb1)
  obtain ⟨y0, y1, y2, y3, y4, y5, y6⟩ := (unveil HT1).1.seven
  go_upto_region 3 with (go_at_call 30; refine (unveil HS1 _ (unveil HT1).2).mono ?_; rintro e W3 ⟨rfl, hb3⟩; have HS3 : Hid (IlS w (W3.alloc (.cells #[.int .i64 a, .int .i64 b, .int .i64 c] 42)) t a b c W3.heap.size) := ⟨((unveil HT1).1.below hb3).alloc _, Bk.new _ _ _, ((unveil HT1).2.trans (hb3.mono (unveil HT1).2.size)).alloc (Nat.le_trans (unveil HT1).2.size hb3.size) _⟩; clear hb3)
  clear y0 y1 y2 y3 y4 y5 y6
  generalize (W3.alloc (.cells #[.int .i64 a, .int .i64 b, .int .i64 c] 42)) = W4 at *
  generalize W3.heap.size = SB at *
  obtain ⟨y0, y1, y2, y3, y4, y5, y6⟩ := (unveil HS3).t.seven
  go_upto_region 4 with (go_at_call 30; refine (unveil HS2 _ (unveil HS3).be).mono ?_; rintro e W7 ⟨rfl, hb7⟩; have HS8 : Hid (IlS w (W7.alloc (.cells #[.int .i64 a2, .int .i64 b2, .int .i64 c2] 42)) t a b c SB ∧ Bk (W7.alloc (.cells #[.int .i64 a2, .int .i64 b2, .int .i64 c2] 42)) W7.heap.size 42 #[.int .i64 a2, .int .i64 b2, .int .i64 c2]) := ⟨((unveil HS3).below hb7).below ((Below.refl _ W7).alloc (Nat.le_refl _) _), Bk.new _ _ _⟩; clear hb7)
  clear y0 y1 y2 y3 y4 y5 y6 HSH HS1 HS2
  generalize (W7.alloc (.cells #[.int .i64 a2, .int .i64 b2, .int .i64 c2] 42)) = W8 at *
  generalize W7.heap.size = SQ at *
  have HB8 : Hid (Below w.heap.size w W8) := (unveil HS8).1.be
  cases h1 : er == 0
  · have h1' : (er != 0) = true := by simp only [bne, h1]; rfl
    go_wp2_with fail
    go_ret
    exact ⟨rfl, unveil HB8⟩
  have h1' : (er != 0) = false := by simp only [bne, h1]; rfl
  cases h2 : er2 == 0
  · have h2' : (er2 != 0) = true := by simp only [bne, h2]; rfl
    go_wp2_with fail
    go_ret
    exact ⟨rfl, unveil HB8⟩
  have h2' : (er2 != 0) = false := by simp only [bne, h2]; rfl
  obtain ⟨ab0, ab1, ab2⟩ := unveil HA1 h1
  obtain ⟨ab3, ab4, ab5⟩ := unveil HA2 h2
  have HQ2 := veil (unveil HQ h1 h2)
  clear HQ HA1 HA2
  have u0 := (unveil HS8).1.s.cell 0
  have u1 := (unveil HS8).1.s.cell 1
  have q0 := (unveil HS8).2.cell 0
  have q1 := (unveil HS8).2.cell 1
  have ul := (unveil HS8).1.s.lt
  have ql := (unveil HS8).2.lt
  simp only [List.getElem?_toArray, List.getElem?_cons_zero, List.getElem?_cons_succ] at u0 u1 q0 q1
  by_cases c1 : a2 < a + b
  · by_cases c2 : a < a2 + b2
    · go_wp2_with fail
      go_ret
      exact ⟨rfl, unveil HB8⟩
    · obtain ⟨hE, hrest⟩ := unveil HQ2 (fun h => c2 h.2)
      rw [hE] at HPU
      clear HQ2 hE
      obtain ⟨y0, y1, y2, y3, y4, y5, y6⟩ := (unveil HS8).1.t.seven
      have HT8 : Hid (TyB W8 w.heap.size t ∧ Below w.heap.size w W8) := ⟨(unveil HS8).1.t, (unveil HS8).1.be⟩
      cases h3 : (ptM t T path v).2 == 0
      · have h3' : ((ptM t T path v).2 != 0) = true := by simp only [bne, h3]; rfl
        have h3e : ((ptM t T path v).2 == (ptM t T path v).2) = true := by simp
        clear hrest HPA HPB HM1 HM2 HHU
        generalize (ptM t T path v).2 = E at *
        generalize (ptM t T path v).1 = A at *
        generalize (ptM t T path2 u).1 = B at *
        go_upto_region 7 with (go_at_call 36; refine (unveil HPT _ (unveil HT8).2).mono ?_; rintro e W9 ⟨rfl, hb9⟩; have HT9 := veil (And.intro ((unveil HT8).1.below hb9) ((unveil HT8).2.trans (hb9.mono (unveil HT8).2.size))); clear hb9)
        clear y0 y1 y2 y3 y4 y5 y6 u0 u1 q0 q1
        obtain ⟨y0, y1, y2, y3, y4, y5, y6⟩ := (unveil HT9).1.seven
        go_wp2_with (go_at_call 36; refine (unveil HPU _ (unveil HT9).2).mono ?_; rintro e W10 ⟨rfl, hb10⟩; have HB10 := veil ((unveil HT9).2.trans (hb10.mono (unveil HT9).2.size)); clear hb10)
        go_ret
        exact ⟨by first | rfl | simp, unveil HB10⟩
      · obtain ⟨Z, X, Y, e1, e2, e3, e4, hr, hxy⟩ := hrest h3
        have h30 : (ptM t T path v).2 = 0 := eq_of_beq h3
        have HA' := veil (unveil HPA (ptM t T path v).1)
        have HB' := veil (unveil HPB (ptM t T path2 u).1)
        have HU' := veil (unveil HHU hr)
        have HXY := veil hxy
        rw [e1] at HA'
        rw [e2] at HB'
        rw [e3] at HM1
        rw [e4] at HM2
        rw [h30] at HPT HPU
        clear HPA HPB HHU hrest h3 h30 e1 e2 e3 e4 hr hxy
        generalize (ptM t T path v).1 = A at *
        generalize (ptM t T path2 u).1 = B at *
        generalize huM 6 t = R at *
        go_upto_region 7 with (go_at_call 36; refine (unveil HPT _ (unveil HT8).2).mono ?_; rintro e W9 ⟨rfl, hb9⟩; have HT9 := veil (And.intro ((unveil HT8).1.below hb9) ((unveil HT8).2.trans (hb9.mono (unveil HT8).2.size))); clear hb9)
        clear y0 y1 y2 y3 y4 y5 y6 u0 u1 q0 q1 HB8 HS8 HT8
        obtain ⟨y0, y1, y2, y3, y4, y5, y6⟩ := (unveil HT9).1.seven
        go_upto_region 8 with (go_at_call 36; refine (unveil HPU _ (unveil HT9).2).mono ?_; rintro e W10 ⟨rfl, hb10⟩; have HT10 := veil (And.intro ((unveil HT9).1.below hb10) ((unveil HT9).2.trans (hb10.mono (unveil HT9).2.size))); clear hb10)
        clear y0 y1 y2 y3 y4 y5 y6
        obtain ⟨y0, y1, y2, y3, y4, y5, y6⟩ := (unveil HT10).1.seven
        go_upto_region 11 with (go_at_call 36; refine (unveil HA' _ (unveil HT10).2).mono ?_; rintro e W11 ⟨rfl, hb11⟩; have HT11 := veil (And.intro ((unveil HT10).1.below hb11) ((unveil HT10).2.trans (hb11.mono (unveil HT10).2.size))); clear hb11)
        clear y0 y1 y2 y3 y4 y5 y6
        obtain ⟨y0, y1, y2, y3, y4, y5, y6⟩ := (unveil HT11).1.seven
        go_upto_region 12 with (go_at_call 36; refine (unveil HB' _ (unveil HT11).2).mono ?_; rintro e W12 ⟨rfl, hb12⟩; have HT12 := veil (And.intro ((unveil HT11).1.below hb12) ((unveil HT11).2.trans (hb12.mono (unveil HT11).2.size))); clear hb12)
        clear y0 y1 y2 y3 y4 y5 y6
        go_upto_region 14 with fail
        have HS13 : Hid (SwS w ((W12.alloc (.cells #[.slice p path.length cap, .int .i64 v] 64)).alloc (.cells #[.slice p2 path2.length cap2, .int .i64 u] 64)) t p path.length cap v p2 path2.length cap2 u W12.heap.size (W12.heap.size + 1)) := by
          refine ⟨((unveil HT12).1.alloc _).alloc _, (Bk.new W12 _ _).alloc _, ?_, ?_⟩
          · have := Bk.new (W12.alloc (.cells #[.slice p path.length cap, .int .i64 v] 64)) 64 #[.slice p2 path2.length cap2, .int .i64 u]
            rw [World.size_alloc] at this
            exact this
          · exact ((unveil HT12).2.alloc (unveil HT12).2.size _).alloc (by have := (unveil HT12).2.size; simp; omega) _
        go_upto_region 16 with fail
        generalize ((W12.alloc (.cells #[.slice p path.length cap, .int .i64 v] 64)).alloc (.cells #[.slice p2 path2.length cap2, .int .i64 u] 64)) = W13 at *
        generalize W12.heap.size = SA at *
        obtain ⟨y0, y1, y2, y3, y4, y5, y6⟩ := (unveil HS13).t.seven
        have u0 := (unveil HS13).a.cell 0
        have u1 := (unveil HS13).a.cell 1
        have q0 := (unveil HS13).b.cell 0
        have q1 := (unveil HS13).b.cell 1
        have ul := (unveil HS13).a.lt
        have ql := (unveil HS13).b.lt
        simp only [List.getElem?_toArray, List.getElem?_cons_zero, List.getElem?_cons_succ] at u0 u1 q0 q1
        go_upto_region 17 with (go_at_call 32; refine (unveil HM1 W13 (unveil HS13).be _ rfl).mono ?_; rintro e W14 ⟨rfl, hb14⟩; have HS14 := veil ((unveil HS13).below hb14); clear hb14)
        clear y0 y1 y2 y3 y4 y5 y6 u0 u1 q0 q1
        obtain ⟨y0, y1, y2, y3, y4, y5, y6⟩ := (unveil HS14).t.seven
        have u0 := (unveil HS14).a.cell 0
        have u1 := (unveil HS14).a.cell 1
        have q0 := (unveil HS14).b.cell 0
        have q1 := (unveil HS14).b.cell 1
        simp only [List.getElem?_toArray, List.getElem?_cons_zero, List.getElem?_cons_succ] at u0 u1 q0 q1
        go_upto_region 18 with (go_at_call 32; refine (unveil HM2 W14 (unveil HS14).be _ rfl).mono ?_; rintro e W15 ⟨rfl, hb15⟩; have HS15 := veil ((unveil HS14).below hb15); clear hb15)
        clear y0 y1 y2 y3 y4 y5 y6 u0 u1 q0 q1
        obtain ⟨y0, y1, y2, y3, y4, y5, y6⟩ := (unveil HS15).t.seven
        have HB15 := veil (unveil HS15).be
        by_cases hX : X = Y
        · subst hX
          go_wp2_with fail
          go_ret
          exact ⟨by first | rfl | simp, unveil HB15⟩
        · have hR : R = true := (unveil HXY).resolve_left hX
          subst hR
          have hXX : ¬ X.toList = Y.toList := fun e => hX (ba_inj e)
          clear hX HXY
          go_wp2_with (go_at_call 38; refine (unveil HU' _ (unveil HS15).be).mono ?_; rintro e W16 ⟨rfl, hb16⟩; have HB16 := veil ((unveil HS15).be.trans (hb16.mono (unveil HS15).be.size)); clear hb16)
          go_ret
          exact ⟨by first | rfl | simp, unveil HB16⟩
  · obtain ⟨hE, hrest⟩ := unveil HQ2 (fun h => c1 h.1)
    rw [hE] at HPU
    clear HQ2 hE
    obtain ⟨y0, y1, y2, y3, y4, y5, y6⟩ := (unveil HS8).1.t.seven
    have HT8 : Hid (TyB W8 w.heap.size t ∧ Below w.heap.size w W8) := ⟨(unveil HS8).1.t, (unveil HS8).1.be⟩
    cases h3 : (ptM t T path v).2 == 0
    · have h3' : ((ptM t T path v).2 != 0) = true := by simp only [bne, h3]; rfl
      have h3e : ((ptM t T path v).2 == (ptM t T path v).2) = true := by simp
      clear hrest HPA HPB HM1 HM2 HHU
      generalize (ptM t T path v).2 = E at *
      generalize (ptM t T path v).1 = A at *
      generalize (ptM t T path2 u).1 = B at *
      go_upto_region 7 with (go_at_call 36; refine (unveil HPT _ (unveil HT8).2).mono ?_; rintro e W9 ⟨rfl, hb9⟩; have HT9 := veil (And.intro ((unveil HT8).1.below hb9) ((unveil HT8).2.trans (hb9.mono (unveil HT8).2.size))); clear hb9)
      clear y0 y1 y2 y3 y4 y5 y6 u0 u1 q0 q1
      obtain ⟨y0, y1, y2, y3, y4, y5, y6⟩ := (unveil HT9).1.seven
      go_wp2_with (go_at_call 36; refine (unveil HPU _ (unveil HT9).2).mono ?_; rintro e W10 ⟨rfl, hb10⟩; have HB10 := veil ((unveil HT9).2.trans (hb10.mono (unveil HT9).2.size)); clear hb10)
      go_ret
      exact ⟨by first | rfl | simp, unveil HB10⟩
    · obtain ⟨Z, X, Y, e1, e2, e3, e4, hr, hxy⟩ := hrest h3
      have h30 : (ptM t T path v).2 = 0 := eq_of_beq h3
      have HA' := veil (unveil HPA (ptM t T path v).1)
      have HB' := veil (unveil HPB (ptM t T path2 u).1)
      have HU' := veil (unveil HHU hr)
      have HXY := veil hxy
      rw [e1] at HA'
      rw [e2] at HB'
      rw [e3] at HM1
      rw [e4] at HM2
      rw [h30] at HPT HPU
      clear HPA HPB HHU hrest h3 h30 e1 e2 e3 e4 hr hxy
      generalize (ptM t T path v).1 = A at *
      generalize (ptM t T path2 u).1 = B at *
      generalize huM 6 t = R at *
      go_upto_region 7 with (go_at_call 36; refine (unveil HPT _ (unveil HT8).2).mono ?_; rintro e W9 ⟨rfl, hb9⟩; have HT9 := veil (And.intro ((unveil HT8).1.below hb9) ((unveil HT8).2.trans (hb9.mono (unveil HT8).2.size))); clear hb9)
      clear y0 y1 y2 y3 y4 y5 y6 u0 u1 q0 q1 HB8 HS8 HT8
      obtain ⟨y0, y1, y2, y3, y4, y5, y6⟩ := (unveil HT9).1.seven
      go_upto_region 8 with (go_at_call 36; refine (unveil HPU _ (unveil HT9).2).mono ?_; rintro e W10 ⟨rfl, hb10⟩; have HT10 := veil (And.intro ((unveil HT9).1.below hb10) ((unveil HT9).2.trans (hb10.mono (unveil HT9).2.size))); clear hb10)
      clear y0 y1 y2 y3 y4 y5 y6
      obtain ⟨y0, y1, y2, y3, y4, y5, y6⟩ := (unveil HT10).1.seven
      go_upto_region 11 with (go_at_call 36; refine (unveil HA' _ (unveil HT10).2).mono ?_; rintro e W11 ⟨rfl, hb11⟩; have HT11 := veil (And.intro ((unveil HT10).1.below hb11) ((unveil HT10).2.trans (hb11.mono (unveil HT10).2.size))); clear hb11)
      clear y0 y1 y2 y3 y4 y5 y6
      obtain ⟨y0, y1, y2, y3, y4, y5, y6⟩ := (unveil HT11).1.seven
      go_upto_region 12 with (go_at_call 36; refine (unveil HB' _ (unveil HT11).2).mono ?_; rintro e W12 ⟨rfl, hb12⟩; have HT12 := veil (And.intro ((unveil HT11).1.below hb12) ((unveil HT11).2.trans (hb12.mono (unveil HT11).2.size))); clear hb12)
      clear y0 y1 y2 y3 y4 y5 y6
      go_upto_region 14 with fail
      have HS13 : Hid (SwS w ((W12.alloc (.cells #[.slice p path.length cap, .int .i64 v] 64)).alloc (.cells #[.slice p2 path2.length cap2, .int .i64 u] 64)) t p path.length cap v p2 path2.length cap2 u W12.heap.size (W12.heap.size + 1)) := by
        refine ⟨((unveil HT12).1.alloc _).alloc _, (Bk.new W12 _ _).alloc _, ?_, ?_⟩
        · have := Bk.new (W12.alloc (.cells #[.slice p path.length cap, .int .i64 v] 64)) 64 #[.slice p2 path2.length cap2, .int .i64 u]
          rw [World.size_alloc] at this
          exact this
        · exact ((unveil HT12).2.alloc (unveil HT12).2.size _).alloc (by have := (unveil HT12).2.size; simp; omega) _
      go_upto_region 16 with fail
      generalize ((W12.alloc (.cells #[.slice p path.length cap, .int .i64 v] 64)).alloc (.cells #[.slice p2 path2.length cap2, .int .i64 u] 64)) = W13 at *
      generalize W12.heap.size = SA at *
      obtain ⟨y0, y1, y2, y3, y4, y5, y6⟩ := (unveil HS13).t.seven
      have u0 := (unveil HS13).a.cell 0
      have u1 := (unveil HS13).a.cell 1
      have q0 := (unveil HS13).b.cell 0
      have q1 := (unveil HS13).b.cell 1
      have ul := (unveil HS13).a.lt
      have ql := (unveil HS13).b.lt
      simp only [List.getElem?_toArray, List.getElem?_cons_zero, List.getElem?_cons_succ] at u0 u1 q0 q1
      go_upto_region 17 with (go_at_call 32; refine (unveil HM1 W13 (unveil HS13).be _ rfl).mono ?_; rintro e W14 ⟨rfl, hb14⟩; have HS14 := veil ((unveil HS13).below hb14); clear hb14)
      clear y0 y1 y2 y3 y4 y5 y6 u0 u1 q0 q1
      obtain ⟨y0, y1, y2, y3, y4, y5, y6⟩ := (unveil HS14).t.seven
      have u0 := (unveil HS14).a.cell 0
      have u1 := (unveil HS14).a.cell 1
      have q0 := (unveil HS14).b.cell 0
      have q1 := (unveil HS14).b.cell 1
      simp only [List.getElem?_toArray, List.getElem?_cons_zero, List.getElem?_cons_succ] at u0 u1 q0 q1
      go_upto_region 18 with (go_at_call 32; refine (unveil HM2 W14 (unveil HS14).be _ rfl).mono ?_; rintro e W15 ⟨rfl, hb15⟩; have HS15 := veil ((unveil HS14).below hb15); clear hb15)
      clear y0 y1 y2 y3 y4 y5 y6 u0 u1 q0 q1
      obtain ⟨y0, y1, y2, y3, y4, y5, y6⟩ := (unveil HS15).t.seven
      have HB15 := veil (unveil HS15).be
      by_cases hX : X = Y
      · subst hX
        go_wp2_with fail
        go_ret
        exact ⟨by first | rfl | simp, unveil HB15⟩
      · have hR : R = true := (unveil HXY).resolve_left hX
        subst hR
        have hXX : ¬ X.toList = Y.toList := fun e => hX (ba_inj e)
        clear hX HXY
        go_wp2_with (go_at_call 38; refine (unveil HU' _ (unveil HS15).be).mono ?_; rintro e W16 ⟨rfl, hb16⟩; have HB16 := veil ((unveil HS15).be.trans (hb16.mono (unveil HS15).be.size)); clear hb16)
        go_ret
        exact ⟨by first | rfl | simp, unveil HB16⟩
end Go.Proofs.Ytgomlfaekfabpaa
