/-
  The document's own members.
-/
import Derived.Test.YtgomlfaekfabpaaJh
import Derived.Test.YtgomlfaekfabpaaNb
namespace Go.Proofs.Ytgomlfaekfabpaa
open Go Go.RowKit Go.Shelf
set_option linter.unusedVariables false
set_option linter.unusedSimpArgs false

theorem wrap8 {z : Int} (h0 : 0 ≤ z) (h1 : z ≤ 65537) : IntKind.i64.wrap (8 * z) = 8 * z := by
  rw [IntKind.wrap_i64]; omega
theorem alF_nil (a : Int) : alF a [] = max 1 a := rfl
theorem enF_nil : enF [] = 0 := rfl
/-- What members' loop keeps. -/
def RMR (w wr : World) (t : ShT) (d : Nat) (ML : List (FdOf ShT × Mb)) (at' en' i : Value) : Prop :=
  ∃ (k : Nat) (x E A : Int) (v : Value) (pre : List (FdOf ShT × Mb)), i = .int .i64 k ∧ at' = .int .i64 x ∧ en' = .int .i64 E ∧ k ≤ t.fs.length ∧ 0 ≤ x ∧ x ≤ 524808 * k ∧ Hid (pre.length = k ∧ E = enF pre ∧ A = alF t.al pre ∧ ML = pre ++ mlM (meaM d) t.pk (t.sh == 4) (if t.sh == 4 then x else 0) (t.fs.drop k)) ∧ Hid (RmS w wr t A v pre)
theorem rmr_next {w wr : World} {t : ShT} {d : Nat} {ML pre' : List (FdOf ShT × Mb)} {a' e' i' v' : Value} {k : Nat} {m1 m2 E' A' : Int} (hi : i' = .int .i64 ((k + 1 : Nat) : Int)) (ha : a' = .int .i64 (m1 + m2)) (he : e' = .int .i64 E') (hk : k < t.fs.length)
    (hs : Hid (0 ≤ m1 ∧ 0 ≤ m2 ∧ m1 + m2 ≤ 524808 * (k + 1) ∧ m1 + m2 ≤ 20992320 ∧ True))
    (hp : Hid (pre'.length = k + 1 ∧ E' = enF pre' ∧ A' = alF t.al pre' ∧ ML = pre' ++ mlM (meaM d) t.pk (t.sh == 4) (if t.sh == 4 then m1 + m2 else 0) (t.fs.drop (k + 1)))) (hr : RmS w wr t A' v' pre') : RMR w wr t d ML a' e' i' := by
  obtain ⟨h0, h1, h2, h3, _⟩ := unveil hs
  exact ⟨k + 1, m1 + m2, E', A', v', pre', hi, ha, he, hk, by omega, by push_cast; omega, hp, hr⟩
set_option maxRecDepth 100000 in
set_option maxHeartbeats 40000000 in
theorem rmembers_any (t : ShT) (d : Nat) (w : World) (hin : t.In w.heap.size w) (hfl : t.fs.length ≤ 40) (hal : t.al ≤ 64) (hs : (t.sh == 4 || t.sh == 5) = true) (hok : ∀ f ∈ t.fs, FOk f (meaM d f.t)) (hff : ∀ f ∈ t.fs, ffM f = true) (heq : ∀ f ∈ t.fs, 0 ≤ f.bits → (meaM d f.t).1 = (meaM d f.t).2)
    (hm : ∀ f ∈ t.fs, ∀ W, f.t.In W.heap.size W → ∃ L, Calls Try.prog 42 #[f.t.v] W (BxP W (meaM d f.t).1 (meaM d f.t).2 (decide (65536 < (meaM d f.t).1)) L)) :
    Calls Try.prog 69 #[t.v] w (BxP w (memM t (t.ml (meaM d))).1 (memM t (t.ml (meaM d))).2 (decide (65536 < (memM t (t.ml (meaM d))).1)) ((t.ml (meaM d)).map Prod.snd)) := by
  have HIN := veil hin
  have HM := veil hm
  have HOK := veil hok
  have HFF := veil hff
  have HEQ := veil heq
  have hmo := ml_ok (meaM d) t.pk (t.sh == 4) t.fs 0 0 hok (by omega) (by omega) (by omega)
  have HEN : Hid (0 ≤ enF (t.ml (meaM d)) ∧ enF (t.ml (meaM d)) ≤ 20992320) := enF_ok _ hmo
  have HAO : Hid (1 ≤ alF t.al (t.ml (meaM d)) ∧ alF t.al (t.ml (meaM d)) ≤ 64) := alF_ok t.al hal _ hmo
  have HMO : Hid (∀ x ∈ t.ml (meaM d), MOk x.2) := hmo
  have HBIG : Hid (∀ f ∈ t.fs, 65536 < (meaM d f.t).1 → decide (65536 < (memM t (t.ml (meaM d))).1) = true) := fun f hfm h => decide_eq_true (big_mem hok hfl hal hfm h)
  have hst : t.sh = 4 ∨ t.sh = 5 := by simpa using hs
  have HST := veil hst
  clear hst
  have HFL := veil hfl
  have HAL := veil hal
  have HMM : Hid ((memM t (t.ml (meaM d))) = (min (upM (upM (enF (t.ml (meaM d))) 8 / 8) (alF t.al (t.ml (meaM d)))) 65537, alF t.al (t.ml (meaM d)))) := rfl
  obtain ⟨R1, hR1⟩ : ∃ x, (memM t (t.ml (meaM d))).1 = x := ⟨_, rfl⟩
  obtain ⟨R2, hR2⟩ : ∃ x, (memM t (t.ml (meaM d))).2 = x := ⟨_, rfl⟩
  rw [hR1] at HBIG
  rw [hR1, hR2]
  have HMM1 : Hid (R1 = min (upM (upM (enF (t.ml (meaM d))) 8 / 8) (alF t.al (t.ml (meaM d)))) 65537 ∧ R2 = alF t.al (t.ml (meaM d))) := ⟨by rw [← hR1, unveil HMM], by rw [← hR2, unveil HMM]⟩
  obtain ⟨ML, HML0⟩ : ∃ ML, Hid (ML = t.ml (meaM d)) := ⟨_, rfl⟩
  rw [← unveil HML0] at HEN HAO HMO HMM1
  rw [← unveil HML0]
  have HRM := veil (RmS.new w t)
  clear hin hm hok hff heq hmo hfl hal hs hR1 hR2 HMM
  have hsv : t.v = .agg t.cs := rfl
  unfold ShT.v ShT.cs at *
  unfold bxC at HRM
  go_enter Try.func69, Try.ntmps69
  go_upto_region 1 with fail
  go_cut [3] (fun c wx => c = .pointer (some ⟨w.heap.size + 1 + 1, 0, none⟩) ∧ Hid (RmS w wx t (max 1 t.al) (.slice none 0 0) []))
  case first =>
    go_wp2_with fail
    all_goals go_meet
    all_goals (
      case rel =>
        refine ⟨by simp, ?_⟩
        first
        | (have h := unveil HRM 1; rw [show max 1 t.al = 1 by omega]; exact h)
        | (have h := unveil HRM t.al; rw [show max 1 t.al = t.al by omega]; exact h))
  case rest =>
    obtain ⟨rfl, HS0⟩ := hcut
    clear HRM
    go_wp2_with fail
    go_loopw [4, 5, 6] (fun at' en' i wr => RMR w wr t d ML at' en' i)
      (fun at' en' i wr => t.fs.length - (intOf i).toNat)
    case atStart =>
      refine ⟨0, 0, 0, max 1 t.al, .slice none 0 0, [], rfl, rfl, rfl, Nat.zero_le _, by omega, by omega, ⟨rfl, rfl, rfl, ?_⟩, HS0⟩
      rw [unveil HML0, List.drop_zero, List.nil_append]
      unfold ShT.ml
      congr 1
      split <;> rfl
    case round =>
      obtain ⟨k, x, E, A, v, pre, rfl, rfl, rfl, hk, hx0, hx1, hpp, hrs⟩ := hrel
      obtain ⟨vq, vc, rfl⟩ := row_slice (unveil hrs).row
      generalize hvn : pre.length = vn at *
      have HVN := veil hvn
      clear hvn
      obtain ⟨y0, y1, y2, y3, y4, y5, y6⟩ := (unveil hrs).t.seven
      by_cases hkl : k < t.fs.length
      · obtain ⟨g, o, hfp, hg, hc, hnl, hfin⟩ := ((unveil HIN).below (unveil hrs).be).fs k hkl
        obtain ⟨d0, d1, d2, d3, d4, d5, d6, d7, d8⟩ := nine hc
        have hmem : t.fs[k] ∈ t.fs := List.getElem_mem _
        have hfo := unveil HOK _ hmem
        have hef := unveil HEQ _ hmem
        have hffk := unveil HFF _ hmem
        have hbgk := unveil HBIG _ hmem
        have hdr : t.fs.drop k = t.fs[k] :: t.fs.drop (k + 1) := List.drop_eq_getElem_cons hkl
        obtain ⟨L, hL⟩ := unveil HM _ hmem (wr.alloc (.cells t.fs[k].cs 45)) (((hfin.mono (unveil hrs).be.size).below ((Below.refl _ wr).alloc (Nat.le_refl _) _)).mono (by simp))
        have hpp2 := unveil hpp
        rw [hdr, mlM] at hpp2
        obtain ⟨xx, hxx⟩ : ∃ xx, (if t.sh == 4 then x else 0) = xx := ⟨_, rfl⟩
        rw [hxx] at hpp2
        have hxx0 : 0 ≤ xx := by rw [← hxx]; split <;> omega
        have hxx1 : xx ≤ 524808 * k := by rw [← hxx]; split <;> omega
        have hnew : ∀ W1, Below (wr.alloc (.cells t.fs[k].cs 45)).heap.size (wr.alloc (.cells t.fs[k].cs 45)) W1 → ∀ s al bg u, RnS w wr (W1.alloc (.cells (bxC s al bg u) 32)) t A (.slice vq vn vc) pre t.fs[k] W1.heap.size s al bg u := fun W1 hb s al bg u => RnS.new (unveil hrs) _ hb s al bg u
        rw [hfp] at y4
        have hglt : g < wr.heap.size := World.block_lt_of_cell? wr _ d0
        have hnxt := fun bg v W => next_any t t.fs[k] (meaM d t.fs[k].t).1 (meaM d t.fs[k].t).2 bg v xx W hfo hxx0 (by have := unveil HFL; omega)
        have hbnd := lay_bound hfo hxx0 t.pk
        have hlal := fun A hA => lay_al hfo hffk hef (A := A) hA xx t.pk
        have hmbits : (layM (meaM d t.fs[k].t) t.fs[k] xx t.pk).bits = (if t.fs[k].bits ≥ 0 then t.fs[k].bits else 8 * (meaM d t.fs[k].t).1) ∧ (layM (meaM d t.fs[k].t) t.fs[k] xx t.pk).k = t.fs[k].t.k := by
          unfold layM
          by_cases hb : 0 ≤ t.fs[k].bits
          · rw [if_pos hb, if_pos hb]; exact ⟨rfl, rfl⟩
          · rw [if_neg hb, if_neg hb]; exact ⟨rfl, rfl⟩
        obtain ⟨o1, o2, o3, o4, o5⟩ := hfo
        rw [hfp]
        clear hc hnl hfin hmem hdr hpp
        generalize hf : t.fs[k] = f at *
        clear hf
        generalize hM : layM (meaM d f.t) f xx t.pk = M at *
        clear hM
        obtain ⟨m1, m2, m3, m4⟩ := M
        simp only at hbnd hmbits hnxt hlal
        obtain ⟨rfl, hm3⟩ : m3 = f.t.k ∧ True := ⟨hmbits.2, trivial⟩
        replace hmbits := hmbits.1
        generalize meaM d f.t = E2 at *
        obtain ⟨z, a⟩ := E2
        simp only at *
        obtain ⟨bg, hbg⟩ : ∃ bg, decide (65536 < z) = bg := ⟨_, rfl⟩
        rw [hbg] at hL
        have HL := veil hL
        have HNEW := veil hnew
        have HNXT := veil hnxt
        have HBND := veil hbnd
        have HLAL := veil hlal
        have HMB := veil hmbits
        have HPP := veil hpp2
        have HXX := veil hxx
        have HBG := veil hbg
        have HBGK := veil hbgk
        have HA1 := veil (show 1 ≤ A from by
          rw [hpp2.2.2.1]
          exact (alF_ok t.al (unveil HAL) pre (fun y hy => unveil HMO y (by rw [hpp2.2.2.2]; exact List.mem_append_left _ hy))).1)
        have HEND := veil (show ∀ A', A' = max A m4 → ((pre ++ [(f, (⟨m1, m2, f.t.k, m4⟩ : Mb))]).length = k + 1 ∧ max E (m1 + m2) = enF (pre ++ [(f, ⟨m1, m2, f.t.k, m4⟩)]) ∧ A' = alF t.al (pre ++ [(f, ⟨m1, m2, f.t.k, m4⟩)]) ∧ ML = (pre ++ [(f, ⟨m1, m2, f.t.k, m4⟩)]) ++ mlM (meaM d) t.pk (t.sh == 4) (if t.sh == 4 then m1 + m2 else 0) (t.fs.drop (k + 1))) from fun A' hA' => by
          have hvv := unveil HVN
          obtain ⟨g1, g2, g3, g4⟩ := hpp2
          refine ⟨by rw [List.length_append, List.length_cons, List.length_nil]; omega, by rw [enF_snoc, ← g2], by rw [alF_snoc, ← g3, hA'], ?_⟩
          rw [g4, List.append_assoc]
          congr 2
          rw [← hxx]
          cases t.sh == 4 <;> rfl)
        have hk40 : k ≤ 1000 := by have := unveil HFL; omega
        have HSUM := veil (show 0 ≤ m1 ∧ 0 ≤ m2 ∧ m1 + m2 ≤ 524808 * (k + 1) ∧ m1 + m2 ≤ 20992320 ∧ vn + 1 ≤ 40 from by have h40 := unveil HFL; have hkk := hpp2.1; have hvv := unveil HVN; refine ⟨by omega, by omega, by omega, by omega, by omega⟩)
        have HO := veil (show 0 ≤ z ∧ z ≤ 65537 ∧ 1 ≤ a ∧ a ≤ 64 from ⟨o1, o2, o3, o4⟩)
        have HK := veil hk
        have HX := veil (And.intro hx0 hx1)
        clear hL hnew hnxt hbnd hlal hmbits hpp2 hxx hbg hbgk hef hffk o1 o2 o3 o4 o5 hxx0 hxx1 hm3 hk hx0 hx1 HIN HM HOK HFF HEQ HBIG HMO HML0 HFL HAL
        unfold FdOf.v FdOf.cs at *
        unfold ShT.v ShT.cs at HNXT
        rw [hfp] at HNXT
        unfold bxC at HNEW
        go_upto_region 9 with (go_at_call 42; refine (unveil HL).mono ?_; rintro e W1 ⟨s, al, uq, un, uc, he, hb1, hpost⟩; unfold bxC at he; subst he; have HN := veil (unveil HNEW W1 hb1 s al bg (.slice uq un uc)); have HPO := veil (fun h => And.intro (hpost h).1 (hpost h).2.1); clear hb1 hpost)
        generalize (W1.alloc (.cells #[.int .i64 s, .int .i64 al, .bool bg, .slice uq un uc] 32)) = W2 at HN ⊢
        generalize W1.heap.size = Bb at HN ⊢
        clear y0 y1 y2 y3 y4 y5 y6 d0 d1 d2 d3 d4 d5 d6 d7 d8 hglt HNEW
        obtain ⟨⟨c0, c1, c2, c3, c4, c5, c6⟩, ⟨e0, e1, e2, e3, e4, e5, e6, e7, e8⟩, ⟨b0, b1, b2, b3⟩, lt0, lt1, lt2⟩ := (unveil HN).all
        cases bg
        · obtain ⟨rfl, rfl⟩ := unveil HPO rfl
          clear HPO HBG HBGK
          obtain ⟨o1, o2, o3, o4⟩ := unveil HO
          go_upto_if 35 with fail
          go_cut [4] from 14 to 81 (fun c wx => c = .int .i64 xx ∧ wx = W2)
          case first =>
            cases h5 : t.sh == 5
            all_goals
              go_wp2_with fail
              go_meet
              case rel =>
                refine ⟨?_, rfl⟩
                rw [← unveil HXX]
                have h6 := unveil HST
                have h7 : t.sh = 4 ∨ t.sh = 5 := h6
                rcases h7 with h7 | h7 <;> rw [h7] at h5 ⊢ <;> first | rfl | cases h5
          case rest =>
            obtain ⟨h1, h2⟩ := hcut
            subst h1
            obtain rfl := h2.symm
            clear h2
            go_upto_region 14 with fail
            go_cut [9] from 14 to 81 (fun c wx => ∃ X, c = .pointer (some ⟨X, 0, none⟩) ∧ Hid (∃ y, y = 8 * s ∧ Bk wx X 42 #[.int .i64 m1, .int .i64 y, .int .i64 f.t.k]) ∧ Hid (RnS w wr wx t A (.slice vq vn vc) pre f Bb s al false (.slice uq un uc)) ∧ Bb < X)
            case first =>
              clear HAO HEN HMM1 HBND HLAL HMB HPP HXX HK HX hrs HST
              have HS2 : Hid (∀ W, Below W2.heap.size W2 W → RnS w wr W t A (.slice vq vn vc) pre f Bb s al false (.slice uq un uc)) := fun W h => (unveil HN).below h
              refine wp_region_noPanic (wpIn_wide.1 (wpIn_region_sch (ro := none) (n := 0) (fun w' => Hid (RnS w wr w' t A (.slice vq vn vc) pre f Bb s al false (.slice uq un uc)))
                (.pure 0 (.pure 1 (.pure 2 (.pure 3 (.pure 5 (.pure 6 (.pure 7 (.pure 8 (.pure 9 (.pure 10 (.both 4 12 (.pure 11 (.sole 12 .done)) (.sole 4 (.pure 11 .done))))))))))))) 
                13 hmixW (by kernel_rfl) (by kernel_rfl) (by kernel_rfl) (by kernel_rfl) (by kernel_rfl) (by kernel_rfl) (fun _ _ _ _ h => h) (unveil HS2 _ (Below.refl _ W2).drew) ?_))
              iterate 10 (
                refine sch_pure _ rfl _ (.inl ⟨rfl, fun W hS => (by obtain ⟨⟨c0, c1, c2, c3, c4, c5, c6⟩, ⟨e0, e1, e2, e3, e4, e5, e6, e7, e8⟩, ⟨b0, b1, b2, b3⟩, lt0, lt1, lt2⟩ := (unveil hS).all; go_simp; rfl)⟩) (fun B hB => ?_)
                simp only [Act.put, List.setIfInBounds_toArray, List.set_cons_zero, List.set_cons_succ] at hB
                subst hB)
              refine sch_both ?_ ?_
              · refine sch_sole _ rfl (fun K hK => ?_)
                go_simp
                refine ⟨trivial, rfl, (callsIn_wide.2 (unveil HNXT _ _ _)).mono ?_⟩
                rintro e W5 ⟨rfl, hb5⟩
                have hB5 : Below W2.heap.size W2 W5 := (Below.refl _ W2).drew.trans hb5
                refine hK _ _ (unveil HS2 _ hB5) ?_
                clear hK K hb5
                refine sch_pure _ rfl _ (.inl ⟨rfl, fun W hS => (by go_simp; rfl)⟩) (fun B hB => ?_)
                simp only [Act.put, List.setIfInBounds_toArray, List.set_cons_zero, List.set_cons_succ] at hB
                subst hB
                refine sch_sole _ rfl (fun K hK => ?_)
                go_simp
                have hB6 := hB5.alloc hB5.size (.cells #[.int .i64 0, .int .i64 0, .int .i64 0] 42)
                refine hK _ _ (unveil HS2 _ hB6) ?_
                clear hK K
                refine sch_done ?_
                refine listIn_last rfl (fun K hK => ?_)
                go_simp
                refine hK _ _ ?_
                clear hK K
                go_wp2_with fail
                go_meet
                case rel =>
                  have hq := Bk.new W5 42 #[.int .i64 0, .int .i64 0, .int .i64 0]
                  first
                  | exact ⟨_, rfl, ⟨_, wrap8 o1 o2, Bk.new _ _ _⟩, unveil HS2 _ (hB5.alloc hB5.size _), by have := hB5.size; omega⟩
                  | exact ⟨_, rfl, ⟨_, wrap8 o1 o2, ((hq.set 0 _).set 1 _).set 2 _⟩, unveil HS2 _ (((hB6.setCell (p := ⟨W5.heap.size, 0, none⟩) hB5.size _).setCell (p := ⟨W5.heap.size, 1, none⟩) hB5.size _).setCell (p := ⟨W5.heap.size, 2, none⟩) hB5.size _), by have := hB5.size; omega⟩
              · refine sch_sole _ rfl (fun K hK => ?_)
                go_simp
                have hB4 : Below W2.heap.size W2 (W2.alloc (.cells #[.int .i64 0, .int .i64 0, .int .i64 0] 42)).drew := ((Below.refl _ W2).alloc (Nat.le_refl _) _).drew
                refine hK _ _ (unveil HS2 _ hB4) ?_
                clear hK K
                refine sch_sole _ rfl (fun K hK => ?_)
                go_simp
                refine ⟨trivial, rfl, (callsIn_wide.2 (unveil HNXT _ _ _)).mono ?_⟩
                rintro e W5 ⟨rfl, hb5⟩
                have hB5 : Below W2.heap.size W2 W5 := hB4.trans (hb5.mono hB4.size)
                have hq := afterNewSp hb5
                refine hK _ _ (unveil HS2 _ hB5) ?_
                clear hK K hb5
                refine sch_pure _ rfl _ (.inl ⟨rfl, fun W hS => (by go_simp; rfl)⟩) (fun B hB => ?_)
                simp only [Act.put, List.setIfInBounds_toArray, List.set_cons_zero, List.set_cons_succ] at hB
                subst hB
                refine sch_done ?_
                refine listIn_last rfl (fun K hK => ?_)
                have x0 := hq.cell 0
                have x1 := hq.cell 1
                have x2 := hq.cell 2
                have f0 := hq.frozen 0
                have f1 := hq.frozen 1
                have f2 := hq.frozen 2
                simp only [List.getElem?_toArray, List.getElem?_cons_succ, List.getElem?_cons_zero] at x0 x1 x2
                have HQ := veil hq
                have HB5 := veil hB5
                clear hq hB5 hB4
                go_simp
                refine hK _ _ ?_
                clear hK K
                go_wp2_with fail
                go_meet
                case rel =>
                  exact ⟨_, rfl, ⟨_, wrap8 o1 o2, (((unveil HQ).set 0 _).set 1 _).set 2 _⟩, unveil HS2 _ ((((unveil HB5).setCell (p := ⟨W2.heap.size, 0, none⟩) (Nat.le_refl _) _).setCell (p := ⟨W2.heap.size, 1, none⟩) (Nat.le_refl _) _).setCell (p := ⟨W2.heap.size, 2, none⟩) (Nat.le_refl _) _), by omega⟩
            case rest =>
              obtain ⟨X, rfl, hX, hN', hBX⟩ := hcut
              rename World => W6
              clear c0 c1 c2 c3 c4 c5 c6 e0 e1 e2 e3 e4 e5 e6 e7 e8 b0 b1 b2 b3 lt0 lt1 lt2 HN HNXT
              obtain ⟨⟨c0, c1, c2, c3, c4, c5, c6⟩, ⟨e0, e1, e2, e3, e4, e5, e6, e7, e8⟩, ⟨b0, b1, b2, b3⟩, lt0, lt1, lt2⟩ := (unveil hN').all
              obtain ⟨yy, hyy, hXX⟩ := unveil hX
              have HYY := veil hyy
              have HXB := veil hXX
              have x0 := hXX.cell 0
              have x1 := hXX.cell 1
              have x2 := hXX.cell 2
              have xf := hXX.frozen 1
              simp only [List.getElem?_toArray, List.getElem?_cons_succ, List.getElem?_cons_zero] at x0 x1 x2
              clear hX hyy hXX
              go_upto_if 50 with fail
              go_cut [] from 14 to 81 (fun wx => Hid (Bk wx X 42 #[.int .i64 m1, .int .i64 m2, .int .i64 f.t.k]) ∧ Hid (RnS w wr wx t A (.slice vq vn vc) pre f Bb s al false (.slice uq un uc)))
              case first =>
                by_cases hbi : f.bits ≥ 0
                · go_wp2_with fail
                  go_meet
                  case rel =>
                    refine ⟨?_, (unveil hN').setX (unveil hrs) hBX _ _⟩
                    have h1 := (unveil HXB).set 1 (.int .i64 f.bits)
                    have h2 := unveil HMB
                    rw [if_pos (by omega)] at h2
                    rw [h2]
                    exact h1
                · go_wp2_with fail
                  go_meet
                  case rel =>
                    refine ⟨?_, hN'⟩
                    have h2 := unveil HMB
                    rw [if_neg (by omega)] at h2
                    rw [h2, ← unveil HYY]
                    exact HXB
              case rest =>
                obtain ⟨hX7, hN7⟩ := hcut
                rename World => W7
                clear c0 c1 c2 c3 c4 c5 c6 e0 e1 e2 e3 e4 e5 e6 e7 e8 b0 b1 b2 b3 lt0 lt1 lt2 hN' HYY HXB x0 x1 x2 xf
                obtain ⟨⟨c0, c1, c2, c3, c4, c5, c6⟩, ⟨e0, e1, e2, e3, e4, e5, e6, e7, e8⟩, ⟨b0, b1, b2, b3⟩, lt0, lt1, lt2⟩ := (unveil hN7).all
                have x0 := (unveil hX7).cell 0
                have x1 := (unveil hX7).cell 1
                have x2 := (unveil hX7).cell 2
                have xl := (unveil hX7).lt
                simp only [List.getElem?_toArray, List.getElem?_cons_succ, List.getElem?_cons_zero] at x0 x1 x2
                obtain ⟨s1, s2, s3, s4, s5⟩ := unveil HSUM
                go_upto_region 18 with fail
                go_cut [5] from 14 to 81 (fun c wx => c = .int .i64 (max E (m1 + m2)) ∧ wx = W7)
                case first =>
                  go_wp2_with fail
                  all_goals go_meet
                  all_goals (
                    case rel =>
                      refine ⟨?_, rfl⟩
                      first
                      | (rw [show max E (m1 + m2) = E by omega])
                      | (rw [show max E (m1 + m2) = m1 + m2 by omega]))
                case rest =>
                  obtain ⟨h1, h2⟩ := hcut
                  subst h1
                  obtain rfl := h2.symm
                  clear h2
                  have hrow7 := (unveil hN7).st.row
                  rw [unveil HVN] at hrow7
                  have hN8 := (unveil hN7).below ((Below.refl _ W7).alloc (Nat.le_refl _) (.cells (spC ⟨m1, m2, f.t.k, m4⟩).toArray 42))
                  have hrowa : (W7.alloc (.cells (spC ⟨m1, m2, f.t.k, m4⟩).toArray 42)).ownsRow w.heap.size 42 3 (.slice vq vn vc) vn (spCs (pre.map Prod.snd)) := hrow7.alloc _
                  obtain ⟨q0, q1, q2, q3, qf0, qf1, qf2, qf3⟩ := (unveil hN7).st.cells
                  have hzW : w.heap.size ≤ W7.heap.size := by omega
                  have HN8 := veil hN8
                  have lt3 := (unveil hN7).st.lt.2.2
                  obtain ⟨i0, hi, hz0, hz1, hz2'⟩ := info_parts infoSp
                  clear hrow7 hN8
                  go_upto_region 20 with (at_builtin; refine wpList_append_own _ rfl _ _ 30 rfl w.heap.size 42 i0 _ 3 24 Try.underlying30 hi hz0 hz1 hz2' rfl (by decide) _ _ _ rfl hrowa ⟨W7.heap.size, 0, none⟩ 1 1 (spC ⟨m1, m2, f.t.k, m4⟩) rfl rfl (sp_cells W7 ⟨m1, m2, f.t.k, m4⟩ 42) (by intro u hu; simp [spC] at hu; rcases hu with rfl | rfl | rfl <;> rfl) (by unfold maxLen; omega) (by omega) (by simp; omega) ?_; intro v' W8 hown' hgrow _; obtain ⟨g', cap', rfl⟩ := ownsRow_succS hown'; have p3 := ((unveil HN8).st.o.rowG hrowa hgrow (by decide)).cell 3; have pf3 := ((unveil HN8).st.o.rowG hrowa hgrow (by decide)).frozen 3; unfold bxC at p3; simp only [List.getElem?_toArray, List.getElem?_cons_succ, List.getElem?_cons_zero] at p3)
                  have HN9 := veil (RnS.grow (unveil HN8) ⟨m1, m2, f.t.k, m4⟩ hgrow (by rw [unveil HVN]; exact hown'))
                  generalize (W8.setCell ⟨w.heap.size + 1 + 1, 3, none⟩ (.slice (some ⟨g', 0, none⟩) (vn + 1) cap')) = W9 at HN9 ⊢
                  clear c0 c1 c2 c3 c4 c5 c6 e0 e1 e2 e3 e4 e5 e6 e7 e8 b0 b1 b2 b3 lt0 lt1 lt2 lt3 q0 q1 q2 q3 qf0 qf1 qf2 qf3 x0 x1 x2 xl hgrow hown' p3 pf3 hrowa HN8 hi hz0 hz1 hz2' hN7 hX7 hzW
                  obtain ⟨⟨c0, c1, c2, c3, c4, c5, c6⟩, ⟨e0, e1, e2, e3, e4, e5, e6, e7, e8⟩, ⟨b0, b1, b2, b3⟩, lt0, lt1, lt2⟩ := (unveil HN9).all
                  obtain ⟨q0, q1, q2, q3, qf0, qf1, qf2, qf3⟩ := (unveil HN9).st.cells
                  obtain ⟨C, hC⟩ : ∃ C, (!t.pk && !f.nm.isEmpty) = C := ⟨_, rfl⟩
                  have HC := veil hC
                  have hmx := unveil HLAL A (unveil HA1)
                  rw [hC] at hmx
                  have HMX := veil hmx
                  clear hC hmx
                  go_cut [75] from 14 to 81 (fun c wx => c = .bool C ∧ wx = W9)
                  case first =>
                    clear HEND HLAL HMX HMB HPP HXX HK HX hrs HST HN9 HS0
                    generalize t.pk = pk at *
                    generalize f.nm = nm at *
                    cases pk
                    · cases hnm : nm.isEmpty
                      all_goals
                        go_wp2_with fail
                        go_meet
                        case rel => exact ⟨by rw [← unveil HC, hnm]; rfl, rfl⟩
                    · go_wp2_with fail
                      go_meet
                      case rel => exact ⟨by rw [← unveil HC]; rfl, rfl⟩
                  case rest =>
                    obtain ⟨h1, h2⟩ := hcut
                    subst h1
                    obtain rfl := h2.symm
                    clear h2 HC HLAL
                    cases C
                    · have HE2 := veil (unveil HEND A (by have := unveil HMX; simp only [Bool.false_eq_true, if_false] at this; exact this.symm))
                      clear HEND HMX
                      go_wp2_with fail
                      go_roundw
                      case rel => refine rmr_next (k := k) (A' := A) (m1 := m1) (m2 := m2) ?_ ?_ ?_ hkl (veil (by obtain ⟨z1, z2, z3, z4, _⟩ := unveil HSUM; exact ⟨z1, z2, z3, z4, trivial⟩)) HE2 (unveil HN9).st <;> first | rfl | go_num
                      case measure => simp [intOf]; omega
                    · have HE2 := veil (unveil HEND (max A al) (by have := unveil HMX; simp only [if_true] at this; exact this.symm))
                      clear HEND HMX
                      go_wp2_with fail
                      go_roundw
                      case rel =>
                        have HZ := veil (show 0 ≤ m1 ∧ 0 ≤ m2 ∧ m1 + m2 ≤ 524808 * (k + 1) ∧ m1 + m2 ≤ 20992320 ∧ True by obtain ⟨z1, z2, z3, z4, _⟩ := unveil HSUM; exact ⟨z1, z2, z3, z4, trivial⟩)
                        have hA' : (if A < al then al else A) = max A al := by split <;> omega
                        rw [hA']
                        refine rmr_next (k := k) (A' := max A al) (m1 := m1) (m2 := m2) ?_ ?_ ?_ hkl HZ HE2 ((unveil HN9).align (max A al)) <;> first | rfl | go_num
                      case measure => simp [intOf]; omega
        · have hR : decide (65536 < R1) = true := unveil HBGK (of_decide_eq_true (unveil HBG))
          have HRR := veil hR
          clear hR HPO HBG HBGK HL HNXT
          obtain ⟨q0, q1, q2, q3, qf0, qf1, qf2, qf3⟩ := (unveil HN).st.cells
          go_upto_region 11 with fail
          have HT3 := veil ((unveil HN).st.turn 2 (.bool true))
          generalize (W2.setCell ⟨w.heap.size + 1 + 1, 2, none⟩ (.bool true)) = W3 at HT3 ⊢
          clear c0 c1 c2 c3 c4 c5 c6 e0 e1 e2 e3 e4 e5 e6 e7 e8 b0 b1 b2 b3 q0 q1 q2 q3 qf0 qf1 qf2 qf3
          unfold bxC at HT3
          have q0 := (unveil HT3).1.cell 0
          have q1 := (unveil HT3).1.cell 1
          have q2 := (unveil HT3).1.cell 2
          have q3 := (unveil HT3).1.cell 3
          have p0 := (unveil HT3).2.1.cell 0
          have p1 := (unveil HT3).2.1.cell 1
          have p2 := (unveil HT3).2.1.cell 2
          have p3 := (unveil HT3).2.1.cell 3
          have f0 := (unveil HT3).2.1.frozen 0
          have f1 := (unveil HT3).2.1.frozen 1
          have f2 := (unveil HT3).2.1.frozen 2
          have f3 := (unveil HT3).2.1.frozen 3
          simp only [List.getElem?_toArray, List.getElem?_cons_succ, List.getElem?_cons_zero, List.setIfInBounds_toArray, List.set_cons_succ, List.set_cons_zero] at q0 q1 q2 q3 p0 p1 p2 p3
          go_wp2_with fail
          refine bodyPost_ret (res_b (f := Try.f69) rfl rfl ((unveil HT3).2.1.put4 _ _ _ _) rfl) rfl ⟨0, A, vq, vn, vc, ?_, below_put4 (unveil HT3).2.2.1 (by omega) _ _ _ _, fun h => ?_⟩
          · rw [unveil HRR]; rfl
          · rw [unveil HRR] at h; cases h
      · obtain rfl : k = t.fs.length := by omega
        have hpp2 := unveil hpp
        rw [List.drop_length, mlM, List.append_nil] at hpp2
        obtain ⟨hvk, hE, hA, rfl⟩ := hpp2
        clear hvk
        have HE := veil hE
        have HA := veil hA
        obtain ⟨n1, n2⟩ := unveil HEN
        obtain ⟨a1, a2⟩ := unveil HAO
        rw [← hE] at n1 n2
        rw [← hA] at a1 a2
        obtain ⟨u1, u2, _⟩ := upM_le (n := E) (m := 8) n1 (by omega)
        have HU1 := veil (fun W => Rup_any E 8 W n1 (by omega) (by omega) (by omega))
        have HU2 := veil (fun W => Rup_any (upM E 8 / 8) A W (by omega) (by omega) a1 (by omega))
        obtain ⟨v1, v2, _⟩ := upM_le (n := upM E 8 / 8) (m := A) (by omega) a1
        have HR : Hid (R1 = min (upM (upM E 8 / 8) A) 65537 ∧ R2 = A) := ⟨by rw [hE, hA]; exact (unveil HMM1).1, by rw [hA]; exact (unveil HMM1).2⟩
        clear hE hA hpp HIN HM HOK HFF HEQ HBIG HMO HML0 HFL HAL HMM1 HEN HAO HE HA hkl hk hx0 hx1 HS0 HST
        generalize upM E 8 = U at *
        generalize upM (U / 8) A = S at *
        have HS2 : Hid (∀ W, Below wr.heap.size wr W → RmS w W t A (.slice vq vn vc) ML) := fun W h => (unveil hrs).below h
        go_upto_region 22 with fail
        refine wp_region_noPanic (wpIn_wide.1 (wpIn_region_sch (ro := none) (n := 0) (fun w' => Hid (RmS w w' t A (.slice vq vn vc) ML))
          (.pure 0 (.pure 3 (.pure 4 (.sole 1 (.pure 2 (.sole 5 (.pure 6 .done)))))))
          7 hmixW (by kernel_rfl) (by kernel_rfl) (by kernel_rfl) (by kernel_rfl) (by kernel_rfl) (by kernel_rfl) (fun _ _ _ _ h => h) (unveil HS2 _ (Below.refl _ wr).drew) ?_))
        iterate 3 (
          refine sch_pure _ rfl _ (.inl ⟨rfl, fun W hS => (by obtain ⟨q0, q1, q2, q3, qf0, qf1, qf2, qf3⟩ := (unveil hS).cells; go_simp; rfl)⟩) (fun B hB => ?_)
          simp only [Act.put, List.setIfInBounds_toArray, List.set_cons_zero, List.set_cons_succ] at hB
          subst hB)
        refine sch_sole _ rfl (fun K hK => ?_)
        go_simp
        refine ⟨trivial, rfl, (callsIn_wide.2 (unveil HU1 _)).mono ?_⟩
        rintro e W5 ⟨rfl, hw5⟩
        obtain rfl := hw5.symm
        refine hK _ _ (unveil HS2 _ (Below.refl _ wr).drew) ?_
        clear hK K
        refine sch_pure _ rfl (.int .i64 (U / 8)) (.inl ⟨rfl, fun W hS => ?_⟩) (fun B hB => ?_)
        · go_simp
          rw [Int.tdiv_eq_ediv_of_nonneg (by omega), IntKind.wrap_i64]
          omega
        simp only [List.getElem_toArray, List.getElem_cons_zero, List.getElem_cons_succ, Act.put, List.setIfInBounds_toArray, List.set_cons_zero, List.set_cons_succ] at hB
        subst hB
        refine sch_sole _ rfl (fun K hK => ?_)
        go_simp
        refine ⟨trivial, rfl, (callsIn_wide.2 (unveil HU2 _)).mono ?_⟩
        rintro e W5 ⟨rfl, hw5⟩
        obtain rfl := hw5.symm
        refine hK _ _ (unveil HS2 _ (Below.refl _ wr).drew) ?_
        clear hK K
        refine sch_pure _ rfl _ (.inl ⟨rfl, fun W hS => (by obtain ⟨q0, q1, q2, q3, qf0, qf1, qf2, qf3⟩ := (unveil hS).cells; go_simp; rfl)⟩) (fun B hB => ?_)
        simp only [Act.put, List.setIfInBounds_toArray, List.set_cons_zero, List.set_cons_succ] at hB
        subst hB
        refine sch_done ?_
        refine listIn_last rfl (fun K hK => ?_)
        obtain ⟨q0, q1, q2, q3, qf0, qf1, qf2, qf3⟩ := (unveil hrs).cells
        go_simp
        refine hK _ _ ?_
        clear hK K
        clear q0 q1 q2 q3 qf0 qf1 qf2 qf3 y0 y1 y2 y3 y4 y5 y6
        have ht := (unveil hrs).turn 0 (.int .i64 S)
        have HT3 : Hid (Bk (wr.setCell ⟨w.heap.size + 1 + 1, 0, none⟩ (.int .i64 S)).drew (w.heap.size + 1 + 1) 32 #[.int .i64 S, .int .i64 A, .bool false, .slice vq vn vc] ∧ Bk (wr.setCell ⟨w.heap.size + 1 + 1, 0, none⟩ (.int .i64 S)).drew (w.heap.size + 1) 32 #[.int .i64 0, .int .i64 0, .bool false, .slice none 0 0] ∧
            Below w.heap.size w (wr.setCell ⟨w.heap.size + 1 + 1, 0, none⟩ (.int .i64 S)).drew ∧ (wr.setCell ⟨w.heap.size + 1 + 1, 0, none⟩ (.int .i64 S)).drew.ownsRow w.heap.size 42 3 (.slice vq vn vc) ML.length (spCs (ML.map Prod.snd))) := ⟨ht.1, ht.2.1, ht.2.2.1.drew, ht.2.2.2⟩
        generalize (wr.setCell ⟨w.heap.size + 1 + 1, 0, none⟩ (.int .i64 S)).drew = W3 at HT3 ⊢
        clear ht
        have q0 := (unveil HT3).1.cell 0
        have q2 := (unveil HT3).1.cell 2
        have qf2 := (unveil HT3).1.frozen 2
        simp only [List.getElem?_toArray, List.getElem?_cons_succ, List.getElem?_cons_zero] at q0 q2
        go_upto_region 24 with fail
        have HT4 : Hid (Bk (W3.setCell ⟨w.heap.size + 1 + 1, 2, none⟩ (.bool (decide (65536 < S)))) (w.heap.size + 1 + 1) 32 #[.int .i64 S, .int .i64 A, .bool (decide (65536 < S)), .slice vq vn vc] ∧ Bk (W3.setCell ⟨w.heap.size + 1 + 1, 2, none⟩ (.bool (decide (65536 < S)))) (w.heap.size + 1) 32 #[.int .i64 0, .int .i64 0, .bool false, .slice none 0 0] ∧
            Below w.heap.size w (W3.setCell ⟨w.heap.size + 1 + 1, 2, none⟩ (.bool (decide (65536 < S)))) ∧ (W3.setCell ⟨w.heap.size + 1 + 1, 2, none⟩ (.bool (decide (65536 < S)))).ownsRow w.heap.size 42 3 (.slice vq vn vc) ML.length (spCs (ML.map Prod.snd))) :=
          ⟨(unveil HT3).1.set 2 _, (unveil HT3).2.1.other _ _ (by omega), (unveil HT3).2.2.1.setCell (p := ⟨w.heap.size + 1 + 1, 2, none⟩) (by show w.heap.size ≤ w.heap.size + 1 + 1; omega) _, ownsRow_setS (unveil HT3).2.2.2 (unveil HT3).1 (by decide) _⟩
        generalize hbb : decide (65536 < S) = bb at *
        have HBB := veil hbb
        clear hbb q0 q2 qf2
        generalize (W3.setCell ⟨w.heap.size + 1 + 1, 2, none⟩ (.bool bb)) = W4 at HT4 ⊢
        have q0 := (unveil HT4).1.cell 0
        have q1 := (unveil HT4).1.cell 1
        have q2 := (unveil HT4).1.cell 2
        have q3 := (unveil HT4).1.cell 3
        have p0 := (unveil HT4).2.1.cell 0
        have p1 := (unveil HT4).2.1.cell 1
        have p2 := (unveil HT4).2.1.cell 2
        have p3 := (unveil HT4).2.1.cell 3
        have f0 := (unveil HT4).2.1.frozen 0
        have f1 := (unveil HT4).2.1.frozen 1
        have f2 := (unveil HT4).2.1.frozen 2
        have f3 := (unveil HT4).2.1.frozen 3
        simp only [List.getElem?_toArray, List.getElem?_cons_succ, List.getElem?_cons_zero] at q0 q1 q2 q3 p0 p1 p2 p3
        go_wp2_with fail
        have hdd : decide (65536 < R1) = bb := by
          rw [← unveil HBB, (unveil HR).1]
          rw [Bool.eq_iff_iff]
          simp only [decide_eq_true_eq]
          omega
        refine bodyPost_ret (res_b (f := Try.f69) rfl rfl ((unveil HT4).2.1.put4 _ _ _ _) rfl) rfl ⟨S, A, vq, vn, vc, ?_, below_put4 (unveil HT4).2.2.1 (by omega) _ _ _ _, fun h => ⟨?_, (unveil HR).2.symm, ?_⟩⟩
        · rw [hdd]; rfl
        · rw [hdd, ← unveil HBB] at h
          have h2 := of_decide_eq_false h
          rw [(unveil HR).1]
          omega
        · rw [List.length_map]
          exact row_put4 (unveil HT4).2.2.2 (unveil HT4).2.1 (by decide) _ _ _ _
end Go.Proofs.Ytgomlfaekfabpaa
