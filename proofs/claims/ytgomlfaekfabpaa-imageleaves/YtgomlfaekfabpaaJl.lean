/-
  The document's own box: arrays.
-/
import Derived.Test.YtgomlfaekfabpaaZze
namespace Go.Proofs.Ytgomlfaekfabpaa
open Go Go.RowKit Go.Shelf
set_option linter.unusedVariables false
set_option linter.unusedSimpArgs false

theorem BoS.newB {w W : World} {t : ShT} (h : BoS w W t) (cs : Array Value) : BoS w (W.alloc (.cells cs 32)) t ∧ Bk (W.alloc (.cells cs 32)) W.heap.size 32 cs :=
  ⟨h.alloc _, Bk.new W _ _⟩
set_option maxRecDepth 100000 in
set_option maxHeartbeats 20000000 in
theorem box_arr (t x : ShT) (z a : Int) (L : List Mb) (w : World) (hin : t.In w.heap.size w) (h1 : (t.sh == 1) = false) (h2 : (t.sh == 2) = false) (h3 : (t.sh == 3) = true) (hof : t.of = [x]) (hn : 1 ≤ t.n) (hz1 : 1 ≤ z) (hz2 : z ≤ 65537)
    (hm : ∀ W, x.In W.heap.size W → Calls Try.prog 42 #[x.v] W (BxP W z a (decide (65536 < z)) L)) :
    Calls Try.prog 42 #[t.v] w (BxP w (min (min t.n 65537 * z) 65537) a (decide (65536 < min (min t.n 65537 * z) 65537)) []) := by
  have HB : Hid (t.n ≤ 65536 → z ≤ 65536 → 0 ≤ z * t.n ∧ z * t.n ≤ 4294967296) := fun h h' => ⟨Int.mul_nonneg (by omega) (by omega), Int.mul_le_mul h' h (by omega) (by omega)⟩
  have HSM : Hid (t.n ≤ 65536 → z * t.n ≤ 65536 → min (min t.n 65537 * z) 65537 = z * t.n) := fun h h' => small_arr hn hz1 h h'
  rw [big_arr hn hz1 hz2]
  generalize min (min t.n 65537 * z) 65537 = R at *
  have hS := BoS.new w t
  obtain ⟨g, o, hop, hg, hc, hxin⟩ := hin.of 0 (by rw [hof]; simp)
  have hx0 : t.of[0]'(by rw [hof]; simp) = x := by simp [hof]
  rw [hx0] at hc hxin
  generalize hbg : decide (65536 < z) = bg at *
  have HBG := veil hbg
  clear hbg
  have HX : Hid (∀ W, BoS w W t → Calls Try.prog 42 #[x.v] W (BxP W z a bg L)) := fun W h => hm W ((hxin.below h.be).mono h.be.size)
  have hol : t.of.length = 1 := by rw [hof]; rfl
  simp only [Nat.zero_mul, Nat.add_zero] at hc
  have HC : Hid (∀ W, BoS w W t → ∀ j, j < 7 → W.cell? ⟨g, o + j, none⟩ = x.cs[j]?) := fun W h j hj => (h.be.cell (p := ⟨g, o + j, none⟩) hg).trans (hc j hj)
  have HS := veil hS
  clear hm hin hxin hc hS hof hx0
  unfold ShT.v ShT.cs at *
  rw [hol, hop] at HS ⊢
  unfold bxC at HS
  go_enter Try.func42, Try.ntmps42
  go_upto_region 1 with fail
  generalize ((w.alloc (.cells #[.int .i64 t.sh, .int .i64 t.k, .int .i64 t.n, .slice (some ⟨g, o, none⟩) 1 t.oc, .slice t.fp t.fs.length t.fc, .bool t.pk, .int .i64 t.al] 25)).alloc (.cells #[.int .i64 0, .int .i64 0, .bool false, .slice none 0 0] 32)) = W0 at HS ⊢
  obtain ⟨y0, y1, y2, y3, y4, y5, y6⟩ := (unveil HS).t.seven
  rw [hop, hol] at y3
  have hcc := unveil HC W0 (unveil HS)
  have q0 := hcc 0 (by decide)
  have q1 := hcc 1 (by decide)
  have q2 := hcc 2 (by decide)
  have q3 := hcc 3 (by decide)
  have q4 := hcc 4 (by decide)
  have q5 := hcc 5 (by decide)
  have q6 := hcc 6 (by decide)
  simp only [List.getElem?_toArray, List.getElem?_cons_succ, List.getElem?_cons_zero, Nat.add_zero] at q0 q1 q2 q3 q4 q5 q6
  clear hcc HC
  go_upto_region 9 with (go_at_call 42; refine (unveil HX _ (unveil HS)).mono ?_; rintro e W1 ⟨s, al, uq, un, uc, he, hb1, hpost⟩; unfold bxC at he; subst he; have HN := veil (((unveil HS).call hb1).newB #[.int .i64 s, .int .i64 al, .bool bg, .slice uq un uc]); have HPO := veil (fun h => And.intro (hpost h).1 (hpost h).2.1); clear hb1 hpost)
  generalize (W1.alloc (.cells #[.int .i64 s, .int .i64 al, .bool bg, .slice uq un uc] 32)) = W2 at HN ⊢
  generalize W1.heap.size = Bb at HN ⊢
  clear y0 y1 y2 y3 y4 y5 y6 q0 q1 q2 q3 q4 q5 q6
  obtain ⟨y0, y1, y2, y3, y4, y5, y6⟩ := (unveil HN).1.t.seven
  have b0 := (unveil HN).2.cell 0
  have b1 := (unveil HN).2.cell 1
  have b2 := (unveil HN).2.cell 2
  simp only [List.getElem?_toArray, List.getElem?_cons_succ, List.getElem?_cons_zero] at b0 b1 b2
  obtain ⟨p0, p1, p2, p3, f0, f1, f2, f3⟩ := (unveil HN).1.zcells
  have lt0 := (unveil HN).1.t.lt
  have lt1 := (unveil HN).1.z.lt
  have lt2 := (unveil HN).2.lt
  clear hz1 hn
  cases bg
  · obtain ⟨rfl, rfl⟩ := unveil HPO rfl
    have hs : ¬ 65536 < s := of_decide_eq_false (unveil HBG)
    clear HPO HBG hz2
    by_cases hn : t.n > 65536
    · clear HB HSM hs
      go_wp2_with fail
      refine bodyPost_ret (res_b (f := Try.f42) rfl rfl ((unveil HN).1.fin _ _ _ _).1 rfl) rfl ⟨0, 0, none, 0, 0, ?_, ((unveil HN).1.fin _ _ _ _).2, fun h => ?_⟩
      · simp [bxC, hn]
      · simp [hn] at h
    · have hw : wrap64 (s * t.n) = s * t.n := by
        obtain ⟨k1, k2⟩ := unveil HB (by omega) (by omega)
        unfold wrap64
        omega
      have HW := veil hw
      have HSM2 := veil (unveil HSM (by omega))
      have HNN := veil hn
      clear HSM HB hs hw
      go_wp2_with fail
      · rename_i hq
        rw [unveil HW] at hq
        have hq2 : 65536 < s * t.n := by omega
        exact bodyPost_ret (res_b (f := Try.f42) rfl rfl ((unveil HN).1.fin _ _ _ _).1 rfl) rfl ⟨0, 0, none, 0, 0, by simp [bxC, hq2], ((unveil HN).1.fin _ _ _ _).2, fun h => by simp [hq2] at h⟩
      · rename_i hq
        rw [unveil HW] at hq ⊢
        have hn2 : ¬ 65536 < t.n := by have := unveil HNN; omega
        have hq2 : ¬ 65536 < s * t.n := by omega
        exact bodyPost_ret (res_b (f := Try.f42) rfl rfl ((unveil HN).1.fin _ _ _ _).1 rfl) rfl ⟨s * t.n, al, none, 0, 0, by simp [bxC, hn2, hq2], ((unveil HN).1.fin _ _ _ _).2, fun h => ⟨(unveil HSM2 (by omega)).symm, rfl, World.ownsRow_nil _ _ _ _⟩⟩
  · clear HB HSM HPO hz2
    have hs : 65536 < z := of_decide_eq_true (unveil HBG)
    have HZ := veil hs
    clear hs HBG
    go_wp2_with fail
    refine bodyPost_ret (res_b (f := Try.f42) rfl rfl ((unveil HN).1.fin _ _ _ _).1 rfl) rfl ⟨0, 0, none, 0, 0, ?_, ((unveil HN).1.fin _ _ _ _).2, fun h => ?_⟩
    · simp [bxC, unveil HZ]
    · simp [unveil HZ] at h
/-- The list of spots that box tells. -/
def boxL : Nat → ShT → List Mb
  | 0, _ => []
  | d + 1, t => if t.sh == 1 || t.sh == 2 || t.sh == 3 then [] else (t.ml (meaM d)).map Prod.snd
theorem siz_small (k : Int) : decide (65536 < sizM k) = false := by
  have := siz_cases k
  rw [decide_eq_false_iff_not]
  omega
theorem box_any : ∀ (d : Nat) (t : ShT) (w : World), rigM d t = true → t.In w.heap.size w →
    Calls Try.prog 42 #[t.v] w (BxP w (meaM d t).1 (meaM d t).2 (decide (65536 < (meaM d t).1)) (boxL d t))
  | 0, _, _, h, _ => by cases h
  | d + 1, t, w, h, hin => by
    obtain ⟨hf, hp⟩ := rig_form h
    rw [meaM, boxL]
    cases h1 : t.sh == 1
    · cases h2 : t.sh == 2
      · cases h3 : t.sh == 3
        · simp only [Bool.false_eq_true, if_false, Bool.or_false]
          obtain ⟨hs, _, _, _, ha, hfs⟩ := form_struct hf h1 h2 h3
          obtain ⟨f1, f2, f3, _⟩ := ffs_all hfs
          refine box_mem t _ _ _ _ w hin h1 h2 h3 (fun W hW => ?_)
          exact rmembers_any t d W hW f1 (ali_le ha).2 hs (fun f hfm => fok_of (mea_ok d) (f3 f hfm) (hp _ (fs_part hfm))) f3 (fun f hfm hb => mea_bit (f3 f hfm) (hp _ (fs_part hfm)) hb)
            (fun f hfm W' hW' => ⟨_, box_any d f.t W' (hp _ (fs_part hfm)) hW'⟩)
        · simp only [Bool.false_eq_true, if_false, if_true, Bool.or_true]
          obtain ⟨_, q1, q2, _⟩ := form_arr hf h3
          match hof : t.of, q2 with
          | [x], _ =>
            simp only
            have hx : rigM d x = true := hp x (by unfold ShT.parts; rw [hof]; simp)
            exact box_arr t x (meaM d x).1 (meaM d x).2 _ w hin h1 h2 h3 hof q1 (mea_pos d x hx) (mea_ok d x hx).2.1 (fun W hW => box_any d x W hx hW)
      · simp only [Bool.false_eq_true, if_false, if_true, Bool.or_true, Bool.true_or]
        exact box_ptr t w h1 h2
    · simp only [if_true, Bool.true_or]
      rw [siz_small]
      exact box_int t w h1
end Go.Proofs.Ytgomlfaekfabpaa
